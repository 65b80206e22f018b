import PyProof.Rows.All
import Wide.All
import OpenK.AllK
import Wide.FinOn
import HandS.ForMost
import HandS.Evl
import HandS.IsInst
import HandS.Strs
import HandS.TupMul
import HandS.TupAny
import HandS.MakeKwOnly
import PyProof.ReprRoads
import KE.GoesZip
import KE.GoesMore
import HandS.Zip
import KE.KStar
import KE.GoesEnum
import HandS.DictComp
import HandS.SetFor
import HandS.Deep
import HandS.NoneIn
import HandS.IntHex
import HandS.Star
import HandS.Property
import HandS.ClsMeth
import HandS.Codes
import HandS.CallLocal
import HandS.Style
import HandS.TupSets
import KE.KRevSl
import HandS.Conv
import HandS.Walk
import HandS.Text
import HandS.TryOnly
import HandS.WordsExc
import PyProof.Rows.SortShellAny
import PyProof.StrLawsRepr
import OpenK.KOps
import KE.KCallOwn
import HandS.SlotsOwn
import PyProof.InstEq
import PyProof.Conv_bool
import HandS.Dict
import HandS.FStr
import PySem.Challenge.RW_threevalues_k70_whole_all_is_made
set_option Elab.async false
set_option linter.all false
set_option maxRecDepth 100000
set_option maxHeartbeats 4000000
namespace Tv
open PySem PySem.Spec PyProof.Rows L2

/-! ### promises of defs, the repr guards told -/
structure FnG (P : Program) (w : World) (K : PySem.W.Frag) (mg : Str → Option Value)
    (base : Heap) (lev : Nat) (f : Addr) (fd : FuncData) (ps : List Str) (sp : Sp) : Prop where
  len : ∀ vs H Q E, sp vs H Q E → vs.length = ps.length
  run : ∀ (A : Around) (fr : List Env) (s : Shared) (H : Hp) (ar : Args) (us : List Value) (vs : List V)
    (Q : VK) (E : XK), Room lev A → A.guards = some [] → Env0 P w K mg base A fr s H →
    BindsTo s fd ar (ps.zip us) → Vals vs us → sp vs H Q E →
    codeAny (model P w) A (.call (.ref f) ar) (CR CX0 fr P w H s Q E) s

section
variable {P : Program} {w : World} {K : PySem.W.Frag} {mg : Str → Option Value} {base : Heap}

theorem FnG.of {lev : Nat} {f : Addr} {fd : FuncData} {ps : List Str} {sp : Sp}
    (F : FnOk P w K mg base CX0 lev f fd ps sp) : FnG P w K mg base lev f fd ps sp :=
  ⟨F.len, fun A fr s H ar us vs Q E r _ e b v z => F.run A fr s H ar us vs Q E r e b v z⟩

/-- a def of the text by its body's reading, the guards known in it -/
theorem fnG {qn name : Str} {st : Stmt} {f : Addr} {fd : FuncData} {N ps : List Str} {lev : Nat} {sp : Sp}
    (F : Fun K name qn st f fd) (S : FnScope N ps (defScope st))
    (len : ∀ vs H Q E, sp vs H Q E → vs.length = ps.length)
    (body : ∀ (cdv : Value) (A : Around) (fr : List Env) (s : Shared) (H : Hp) (vs : List V) (Q : VK) (E : XK),
      Room lev (A.deeper (envOfC qn (defScope st) s.heap.objs.size f cdv)) → A.guards = some [] →
      sp vs H Q E →
      ∃ t, PSs (cxOf CX0 P w K mg base N qn (defScope st) f cdv A fr s H E).nox (defBody st) t ∧
        t { nx := fun _ H' => Q .non H', rt := Q } (start N vs) H) :
    FnG P w K mg base (lev + 1) f fd ps sp := by
  obtain ⟨oc, od, kV, doc, pm, an, cdv, ct, osl, rfl, look, code⟩ := F.ex
  refine ⟨len, fun A fr s H ar us vs Q E room gd env bnd rel hsp => ?_⟩
  have many := len _ _ _ _ hsp
  have inK : K.In s.heap := env.mod.kin.keeps fun b o e => (env.bs b o e).1
  have nol : s.heap.NoLimit := env.mod.nolimit.keeps fun b o e => (env.bs b o e).1
  have kinds : ∀ y ∈ ps.zip us, (defScope st).names.lookup y.1 = some .local ∨
      ((defScope st).names.lookup y.1 = some .cell ∧
        ((cellsFrom (s.heap.objs.size + 1) (defScope st).names []).lookup y.1).isSome = true) := by
    rintro ⟨n, v⟩ hy
    rcases S.par n (List.of_mem_zip hy).1 with q | q
    · exact Or.inl q
    · exact Or.inr ⟨q, PySem.W.cellsFrom_some _ _ _ (Or.inl q)⟩
  refine codeAny_call_function room.depth
    (inK _ _ look) rfl S.co S.gen rfl (PySem.W.codeRec_of inK code) (bnd _ _ _ _ ?_)
  refine wpAny_newFunctionEnv_cells S.kind kinds
    fun en same s1 x => ?_
  subst same
  refine ⟨nol.keeps x.toInCall.keep, codeAny_func ?_⟩
  obtain ⟨t, der, rd⟩ := body cdv A fr s H vs Q E (room.deeper _) gd hsp
  have J := inv_start (CX := CX0) (P := P) (w := w) (K := K) (mg := mg) (base := base) (N := N) (E := E)
    S room.hd env many rel x
  refine wpAny_mono (der.nox.run [] s1 (start N vs) H _ J rd)
    (fun fl s' hs => ?_) fun e s' hs => hs
  cases fl with
  | ret u =>
    obtain ⟨v, σ', H', I', rv, q⟩ := hs
    exact ⟨v, H', I'.os, I'.bare, I'.base, I'.hok, rv, q⟩
  | next =>
    obtain ⟨σ', H', I', q⟩ := hs
    exact ⟨V.non, H', I'.os, I'.bare, I'.base, I'.hok, rfl, q⟩
  | brk =>
    obtain ⟨_, _, _, q⟩ := hs
    exact q.elim
  | cont =>
    obtain ⟨_, _, _, q⟩ := hs
    exact q.elim

/-- a def as the callers use it: what its name holds, how it binds, its promise -/
structure DefG (P : Program) (w : World) (K : PySem.W.Frag) (mg : Str → Option Value) (base : Heap)
    (x : Str) (ps : List Str) (lev : Nat) (sp : Sp) : Prop where
  ex : ∃ (f : Addr) (fd : FuncData), mg x = some (.ref f) ∧ PySem.W.keepIn K (.ref f) = true ∧
    Binds K fd ps [] ∧ FnG P w K mg base lev f fd ps sp ∧
    (∀ (s : Shared) (ws : List Value), ws.length = ps.length → K.In s.heap →
      BindsTo s fd ⟨[], ps.reverse.zip ws⟩ (ps.zip ws.reverse))
theorem DefG.mono {x : Str} {ps : List Str} {a b : Nat} {sp : Sp} (D : DefG P w K mg base x ps a sp)
    (h : a ≤ b) : DefG P w K mg base x ps b sp := by
  obtain ⟨f, fd, h1, h2, h3, F, h5⟩ := D.ex
  exact ⟨f, fd, h1, h2, h3, ⟨F.len, fun A fr s H ar us vs Q E r => F.run A fr s H ar us vs Q E (r.mono h)⟩, h5⟩
end

section
variable {X : Cx} {lev : Nat} {ps : List Str} {sp : Sp} {x : Str} {p pos : Pos}
  {e : Expr} {es : List Expr} {t tk : TA} {kws : List Keyword}

theorem run_G {pins : List (Addr × Obj)} {σ : L2.St} {H : Hp} {s : Shared} {Q : VK} {us ws : List Value} {kw : List (Str × Value)}
    {vs : List V} {f : Addr} {fd : FuncData} (F : FnG X.prog X.w X.K X.mg X.base lev f fd ps sp)
    (hr : Room lev X.A) (hg : X.A.guards = some []) (I : Inv X pins σ H s) (hb : BindsTo s fd ⟨ws, kw⟩ (ps.zip us))
    (r : Vals vs us) (h : sp vs H Q E0) :
    wpAny (model X.prog X.w) X.A (call (.ref f) ws kw) (EP X pins σ Q) X.xe s := by
  refine wpAny_call (codeAny_mono (F.run X.A X.stack s H _ us vs Q E0 hr hg I.env0 hb r h) fun res s' got => ?_)
  cases res with
  | error e => exact got.elim
  | ok fl =>
    cases fl with
    | ret u => exact I.after got
    | next => exact got.elim
    | brk => exact got.elim
    | cont => exact got.elim

def tDef (sp : Sp) (t : TA) : TE := fun σ H Q => t σ H fun vs H1 => sp vs H1 Q E0
def tDefK (sp : Sp) (t : TA) : TE := fun σ H Q => t σ H fun zs H1 => sp zs.reverse H1 Q E0
/-- f(e, ..) -/
theorem pe_def (D : DefG X.prog X.w X.K X.mg X.base x ps lev sp) (hr : Room lev X.A)
    (hg : X.A.guards = some []) (hx : Gl X x := by rfl) (ha : PA X (e :: es) t)
    (hdb : (x == ("__debug__" : Str)) = false := by decide)
    (he : starEach (e :: es) X.env = (false, eval e X.env) :: starEach es X.env := by rfl)
    (hpl : (backTo pos (starEach es X.env)).any (·.1) = false := by rfl) :
    PE X (.Call (.Name x p) (e :: es) [] pos) (tDef sp t) := by
  obtain ⟨f, fd, hm, hk, hb, F, _⟩ := D.ex
  refine ⟨fun pins s σ H Q I h => ?_⟩
  refine wpAny_Call_Name_kw (ld_glob I hx hm ?_ hdb)
  refine PySem.W.callWith_K (h₀ := X.base) I.ok.mod.kin hk
    (thn (ha.run pos pins s σ H _ I h) fun us s1 ⟨vs, H1, J, r, q⟩ => ⟨J.kIn, ?_⟩) he hpl
  have many : us.length = ps.length := by rw [← r.length]; exact F.len _ _ _ _ q
  have bt := hb s1 us J.kIn (by rw [List.append_nil]; exact many)
  rw [List.append_nil] at bt
  exact run_G F hr hg J bt r q
/-- f() -/
theorem pe_def0 (D : DefG X.prog X.w X.K X.mg X.base x ps lev sp) (hr : Room lev X.A)
    (hg : X.A.guards = some []) (hx : Gl X x := by rfl)
    (hdb : (x == ("__debug__" : Str)) = false := by decide) :
    PE X (.Call (.Name x p) [] [] pos) (tDef sp tNil) := by
  obtain ⟨f, fd, hm, hk, hb, F, _⟩ := D.ex
  refine ⟨fun pins s σ H Q I h => ?_⟩
  refine wpAny_Call_Name_kw (ld_glob I hx hm ?_ hdb)
  refine PySem.W.callWith_K0 I.kIn hk ?_
  have many : ([] : List Value).length = ps.length := F.len _ _ _ _ h
  have bt := hb s [] I.kIn (by rw [List.append_nil]; exact many)
  rw [List.append_nil] at bt
  exact run_G (us := []) F hr hg I bt .nil h
theorem vals_rev : ∀ {vs : List V} {us : List Value}, Vals vs us → Vals vs.reverse us.reverse
  | _, _, .nil => .nil
  | _, _, .cons r t => by
    rw [List.reverse_cons, List.reverse_cons]
    exact (vals_rev t).append (.cons r .nil)
/-- f(b = .., a = ..): all by name, the last parameter first -/
theorem pe_defK (D : DefG X.prog X.w X.K X.mg X.base x ps lev sp) (hr : Room lev X.A)
    (hg : X.A.guards = some []) (hx : Gl X x := by rfl) (hkw : PK X kws tk)
    (hall : (backToKw pos (keywordEach kws X.env)).all (·.1.isSome) = true := by rfl)
    (hks : (backToKw pos (keywordEach kws X.env)).filterMap (·.1) = ps.reverse := by rfl)
    (hdb : (x == ("__debug__" : Str)) = false := by decide)
    (hpl : ((backTo pos (starEach [] X.env)).any (·.1) || (backToKw pos (keywordEach kws X.env)).any (·.1.isNone)) = false := by rfl) :
    PE X (.Call (.Name x p) [] kws pos) (tDefK sp tk) := by
  obtain ⟨f, fd, hm, hk, _, F, hkb⟩ := D.ex
  refine ⟨fun pins s σ H Q I h => ?_⟩
  refine wpAny_Call_Name_kw (ld_glob I hx hm ?_ hdb)
  refine PySem.W.callWith_KW0 (h₀ := X.base) I.ok.mod.kin hk hall ?_ hpl
  refine thn (hkw.run pos pins s σ H _ I h) fun ws s2 ⟨zs, H2, J, rz, q⟩ => ⟨J.kIn, ?_⟩
  rw [hks]
  have many : ws.length = ps.length := by
    rw [← rz.length, ← List.length_reverse]; exact F.len _ _ _ _ q
  have bt := hkb s2 ws many J.kIn
  exact run_G F hr hg J bt (vals_rev rz) q
end

/-! ### repr of a list or a tuple of data -/
def rRepr (K : PySem.W.Frag) : List V → Hp → VK → Prop := fun xs H Q => ∃ (a : Addr) (d : PyData), xs = [.ref a] ∧
  Dp K H (.ref a) d ∧ d.showable = true ∧ d.hasDict = false ∧ d.depth ≤ 20 ∧ d.shown.length ≤ sizeLine ∧ Q (.str d.shown) H
theorem cr_repr {X : Cx} {lev : Nat} (hr : Room lev X.A) (hg : X.A.guards = some []) : CallR X (.builtin "repr") (rRepr X.K) := by
  intro pins s σ H xs us Q I r h
  obtain ⟨a, d, rfl, dp, hs, hd, hdep, hz, q⟩ := h
  obtain ⟨u, rfl, rv⟩ := vals1 r
  obtain ⟨as, rd⟩ := Dp.reads I d _ u dp rv
  have hu := hr.units
  cases rv
  exact repr_of_reads' rd hs (fun z => by rw [hd] at z; cases z) hg (by omega) (fun _ _ e => e)
    (fun h' u tk k => ⟨.str _, H, I.kept k, ⟨_, rfl⟩, q⟩) hz
/-- the built-in names that the text uses -/
structure Blt (mg : Str → Option Value) : Prop where
  m_len : mg "len" = none
  m_isinstance : mg "isinstance" = none
  m_all : mg "all" = none
  m_any : mg "any" = none
  m_abs : mg "abs" = none
  m_divmod : mg "divmod" = none
  m_repr : mg "repr" = none
  m_range : mg "range" = none
  m_max : mg "max" = none
  m_min : mg "min" = none
  m_int : mg "int" = none
  m_str : mg "str" = none
  m_bool : mg "bool" = none
  m_tuple : mg "tuple" = none
  m_set : mg "set" = none
end Tv

namespace Tv
open PySem PySem.Spec PyProof.Rows L2

/-! ### set(text): its members and how many -/
/-- the distinct ones among some, in the order met -/
def dist : List Str → List Str
  | [] => []
  | x :: r => if (dist r).any (· == x) then dist r else x :: dist r
theorem dist_any (z : Str) : ∀ l : List Str, (dist l).any (· == z) = l.any (· == z)
  | [] => rfl
  | x :: r => by
    have ih := dist_any z r
    unfold dist
    by_cases h : (dist r).any (· == x) = true
    · rw [if_pos h, List.any_cons, ih]
      by_cases e : x = z
      · subst e
        rw [dist_any x r] at h
        rw [h, Bool.or_true]
      · have q : (x == z) = false := beq_eq_false_iff_ne.mpr e
        rw [q, Bool.false_or]
    · rw [if_neg h, List.any_cons, List.any_cons, ih]
theorem dist_le : ∀ l : List Str, (dist l).length ≤ l.length
  | [] => Nat.le_refl _
  | x :: r => by
    have ih := dist_le r
    unfold dist
    split
    · exact Nat.le_succ_of_le ih
    · exact Nat.succ_le_succ ih
/-- the signs of a text ahead of the i-th, the last one first -/
def seen (x : Str) (i : Nat) : List Str := ((x.cps.toList.take i).map fun c => (⟨#[c]⟩ : Str)).reverse
theorem seen_zero (x : Str) : seen x 0 = [] := rfl
theorem seen_succ {x : Str} {i c : Nat} (h : x.cps[i]? = some c) : seen x (i + 1) = ⟨#[c]⟩ :: seen x i := by
  unfold seen
  have h' : x.cps.toList[i]? = some c := by rw [Array.getElem?_toList]; exact h
  rw [List.take_succ, h']
  simp
theorem seen_len (x : Str) (i : Nat) : (seen x i).length ≤ i := by
  unfold seen
  simp
  omega

abbrev rawSet (led : Bool) : Obj := { cls := .type "set", dict := none, data := .set #[] 0 (.fresh 0 0 led) }
abbrev TextSet (P : Program) (w : World) (h : Heap) (a : Addr) (l : List Str) : Prop :=
  h.SetOf (PySem.strKind P w) a (fun z => (dist l).any (· == z)) (dist l).length

section
variable {P : Program} {w : World} {A : Around} {R : Result → Shared → Prop} {it : Addr}
  {G : Array GenState → Array GenState → Prop} {St : Nat → Shared → Prop} {x : Str}
theorem set_loop (W : WalksS P w A.in1 it [it] [it] G x.cps.size (SignAt x) St) (a : Addr) (ne : a ≠ it)
    (small : x.cps.size ≤ 1000) : ∀ (m i : Nat) (s : Shared), x.cps.size - i = m → i ≤ x.cps.size → St i s →
    TextSet P w s.heap a (seen x i) →
    (∀ s', Moved [a, it] G s s' → TextSet P w s'.heap a (seen x x.cps.size) → R (.ok (.ret .none)) s') →
    codeAny (model P w) A (.builtin "set.update.loop" ⟨[.ref a, .ref it], []⟩) R s := by
  have one : ∀ b ∈ [it], b ∈ [a, it] := fun b hb => List.mem_cons_of_mem _ hb
  have off : a ∉ [it] := fun z => ne (List.mem_singleton.mp z)
  have still : ∀ {s s' : Shared} {l : List Str}, Moved [it] G s s' → TextSet P w s.heap a l → TextSet P w s'.heap a l := by
    rintro s s' l mv ⟨o, es, ep, tb, ho, more⟩
    exact ⟨o, es, ep, tb, mv.heap a _ off ho, more⟩
  intro m
  induction m with
  | zero =>
    intro i s hm hi st S k
    obtain rfl : i = x.cps.size := by omega
    refine codeAny_builtin F.entry_set_update_loop ?_
    rw [Around.under_plainId F.plain_set_update_loop _]
    refine wpAny_bind (m := pyNext (.ref it)) (W.done s _ _ st fun s' mv => ?_)
    exact wpAny_pure (k s' (mv.mono one) (still mv S))
  | succ m ih =>
    intro i s hm hi st S k
    have lt : i < x.cps.size := by omega
    refine codeAny_builtin F.entry_set_update_loop ?_
    rw [Around.under_plainId F.plain_set_update_loop _]
    refine wpAny_bind (m := pyNext (.ref it)) (W.item i s _ _ lt st fun v s' hv st' mv => ?_)
    obtain ⟨c, t, hc, rfl⟩ := hv
    have S' := still mv S
    refine wpAny_bind (m := holding [Value.str ⟨#[c]⟩ t] (setAdd a (.str ⟨#[c]⟩ t))) (wpAny_holding ?_)
    unfold setAdd
    refine wpAny_holding (wpAny_bind ((PySem.strKind P w).pyHash (k := ⟨#[c]⟩) (strKind_is _ _ _ _) ?_))
    have few : (dist (seen x i)).length + 1 < scanBound := by
      have a1 := dist_le (seen x i)
      have a2 := seen_len x i
      unfold scanBound
      omega
    refine wpAny_setAddHashed_of (knd := PySem.strKind P w) (s := { s' with toks := s'.toks + 1 })
      (strKind_is _ _ _ _) rfl S' few fun h' sb S2 => ?_
    have S3 : TextSet P w h' a (seen x (i + 1)) := by
      rw [seen_succ hc]
      refine SetOf_congr S2 (fun z => ?_) ?_
      · show ((dist (seen x i)).any (· == z) || decide (z = ⟨#[c]⟩)) = (dist (⟨#[c]⟩ :: seen x i)).any (· == z)
        rw [dist_any, dist_any, List.any_cons, Bool.or_comm]
        by_cases e : z = ⟨#[c]⟩
        · subst e; simp
        · have q : ((⟨#[c]⟩ : Str) == z) = false := beq_eq_false_iff_ne.mpr fun y => e y.symm
          rw [q, decide_eq_false e]
      · show (if (dist (seen x i)).any (· == ⟨#[c]⟩) = true then _ else _) = _
        show _ = (if (dist (seen x i)).any (· == ⟨#[c]⟩) = true then dist (seen x i) else ⟨#[c]⟩ :: dist (seen x i)).length
        split <;> rfl
    refine wpAny_pure ⟨plainId_quiet F.plain_set_update_loop _, ih (i + 1) _ (by omega) lt
      (W.frame _ s' _ _ st' (Nat.le_succ _) fun b hb o e => ?_) S3 fun s2 mv2 S4 => ?_⟩
    · rw [sb.2 b (fun z : b = a => off (z ▸ hb))]; exact e
    · refine k s2 (Moved.trans W.gtrans ((mv.mono one).then_heap (Nat.le_succ _) fun b o hb e => ?_) mv2) S4
      rw [sb.2 b (fun z : b = a => hb (by rw [z]; exact List.mem_cons_self))]; exact e
end

section
variable {P : Program} {w : World} {A : Around} {E : Value → Shared → Prop} {s : Shared}
theorem call_set_text {x : Str} {t : Tok} {Q : Value → Shared → Prop} (hh : A.handled = none) (small : x.cps.size ≤ 1000)
    (h : ∀ (h' : Heap) (tk : Nat), TextSet P w h' s.heap.objs.size (seen x x.cps.size) →
      (∀ b o, b < s.heap.objs.size → s.heap.get? b = some o → h'.get? b = some o) →
      Q (.ref s.heap.objs.size) { s with heap := h', toks := tk }) :
    wpAny (model P w) A (call (.type "set") [.str x t]) Q E s := by
  obtain ⟨c, tl, hmro⟩ := PySem.F.called_set.mro
  have made := PySem.F.called_set.made
  have sub := PySem.F.called_set.sub
  refine wpAny_call (codeAny_of_tree ?_)
  show wpAny _ _ (callAny (.type "set") _) _ _ _
  refine wpAny_pure ⟨Code.quiet_builtin _ (by decide +kernel),
    codeAny_builtin PySem.F.entry_type_call ?_⟩
  rw [Around.under_plain (weight_type_call_type "set" [.str x t] []) rfl]
  have n1 := PySem.F.called_set.notType
  have n2 := PySem.F.called_set.canCreate
  have tc := PySem.F.typeCall_set_1 (.str x t)
  repeat (any_goals (first | assumption | wp_step))
  refine codeAny_mono (code_set_new_1 (.str x t) (E := E) (Q₁ := fun obj s₁ => ∃ led : Bool,
    obj = .ref s.heap.objs.size ∧ s₁ = { s with heap := s.heap.push (rawSet led) }) fun led => ⟨led, rfl, rfl⟩) fun r s₁ got => ?_
  cases r with
  | error e => exact got
  | ok fl =>
    cases fl with
    | ret obj =>
      obtain ⟨led, rfl, rfl⟩ := got
      have at0 : (s.heap.push (rawSet led)).get? s.heap.objs.size = some (rawSet led) := Heap.get?_push_size _ rfl
      have ty : Shared.TypeIs { s with heap := s.heap.push (rawSet led) } (.ref s.heap.objs.size) "set" := ⟨_, at0, rfl⟩
      have l1 := PySem.F.called_set.init.lookup
      have l2 := PySem.F.called_set.init.bind (.ref s.heap.objs.size)
      repeat (any_goals (first | assumption | wp_step))
      refine codeAny_mono (codeAny_call_builtin (R := wants (fun r s₂ => r = .none ∧ ∃ h' tk,
          s₂ = { s with heap := h', toks := tk } ∧ TextSet P w h' s.heap.objs.size (seen x x.cps.size) ∧
          (∀ b o, b < s.heap.objs.size → s.heap.get? b = some o → h'.get? b = some o)) E)
        PySem.F.called_set.init.plain PySem.F.entry_set_init (check_set_init_1 ty ?_)) fun r₂ s₂ got₂ => ?_
      · have u1 : (Value.type "str" == Value.type "dict") = false := by decide
        have u2 := PySem.F.sub_str_set
        have u3 := PySem.F.sub_str_frozenset
        unfold Builtin.«set.__init__» noKeywords Builtin.Frozenset.updateFrom
        generalize hPI : pyIter = PI
        wp_walk
        subst hPI
        refine wpAny_pyIter_str (s := { s with heap := s.heap.push (rawSet led) }) fun o St walks st0 => ?_
        refine wpAny_bind (wpAny_runValue ?_)
        have h3 : A.in1.in1.in1.handled = none := by simp [hh]
        have ne : s.heap.objs.size ≠ (s.heap.push (rawSet led)).objs.size := by
          rw [Heap.size_push]; exact Nat.ne_of_lt (Nat.lt_succ_self _)
        refine set_loop ((walks _ h3).toS) s.heap.objs.size ne small (x.cps.size - 0) 0 _ (by omega) (Nat.zero_le _) st0 ?S0 ?R0
        case S0 =>
          have g0 : ((s.heap.push (rawSet led)).push o).get? s.heap.objs.size = some (rawSet led) := Heap.get?_push_of_some _ at0
          exact SetOf_congr ((setObjOf_fresh (knd := PySem.strKind P w) led).setOf g0 (by unfold scanBound; omega)) (fun _ => rfl) rfl
        case R0 =>
          intro s' mv S'
          obtain ⟨h', g', d', tk', os'⟩ := s'
          have e1 : g' = s.gens := mv.gens
          have e2 : d' = s.drawn := mv.drawn
          have e3 : os' = s.os := mv.os
          subst e1 e2 e3
          refine wpAny_pure ?_
          refine wpAny_pure (a := Fin.done (.ret Value.none)) ⟨rfl, h', tk', rfl, S', fun b o' hb e => ?_⟩
          refine mv.heap b o' (fun z => ?_) (Heap.get?_push_of_some _ (Heap.get?_push_of_some _ e))
          rcases List.mem_cons.mp z with z | z
          · exact Nat.ne_of_lt hb z
          · have z' := List.mem_singleton.mp z
            have z2 : (s.heap.push (rawSet led)).objs.size = s.heap.objs.size + 1 := Heap.size_push ..
            rw [z2] at z'
            exact Nat.ne_of_lt (Nat.lt_succ_of_lt hb) z'
      · cases r₂ with
        | error e => exact got₂
        | ok fl₂ =>
          cases fl₂ with
          | ret r =>
            obtain ⟨rfl, h', tk, rfl, S', k'⟩ := got₂
            repeat (any_goals (first | assumption | wp_step))
            exact h _ _ S' k'
          | _ => exact got₂.elim
    | _ => exact got.elim
end

/-! ### len(set(e)), e a text -/
def tLenSetS (te : TE) : TE := fun σ H Q => te σ H fun v H1 => ∃ x : Str, v = .str x ∧ x.cps.size ≤ 1000 ∧
  Q (.int (dist (seen x x.cps.size)).length) H1
theorem pe_lenSetS {X : Cx} {a : Expr} {te : TE} {p p2 q pos : Pos} (hc : X.calm = true) (hg : Gl X "len") (hm : X.mg "len" = none)
    (hg2 : Gl X "set") (hm2 : X.mg "set" = none) (ha : PE X a te)
    (na : starEach [a] X.env = (false, eval a X.env) :: starEach [] X.env := by rfl) :
    PE X (.Call (.Name "len" p) [.Call (.Name "set" p2) [a] [] q] [] pos) (tLenSetS te) := by
  refine ⟨fun pins s σ H Q I h => Call_ (ld_blt I hg hm boot_len ?_)⟩
  refine callWith_builtin1 (args_cons (Call_ (ld_blt I hg2 hm2 boot_set ?_)) rfl) rfl rfl
  refine callWith_type1 (args_cons (thn (ha.run pins s σ H _ I h) fun v s1 ⟨x, H1, J, r1, q1⟩ => args_nil ?_) na) na rfl
  obtain ⟨x, rfl, small, q1⟩ := q1
  obtain ⟨t, rfl⟩ := r1
  refine call_set_text (J.ok.hd hc) small fun h' tk S kept => args_nil ?_
  obtain ⟨o, es, ep, tb, ho, hex, hd, _, _, _, hf, hn⟩ := S
  have J2 : Inv X pins σ H1 { s1 with heap := h', toks := tk } := J.kept fun b o e => kept b o (Heap.lt_size e) e
  have few : es.size ≤ 1000 := by
    have a1 := dist_le (seen x x.cps.size)
    have a2 := seen_len x x.cps.size
    omega
  exact call_len_set ho hex hd hf (by omega) ⟨.int _, H1, J2.tok _, ⟨_, by rw [hn]⟩, q1⟩

/-! ### s[a:b:c], a text, c above nought -/
def tSl3 (te tl tu ts : TE) : TE := fun σ H Q => te σ H fun v H1 => tl σ H1 fun a H2 => tu σ H2 fun b H3 => ts σ H3 fun c H4 =>
  ∃ (x : Str) (i j k : Int), v = .str x ∧ a = .int i ∧ b = .int j ∧ c = .int k ∧ 0 < k ∧ x.length ≤ sizeLine ∧
    Q (.str (Txt.sliceBy x (some (i, 0)) (some (j, 0)) (k, 0))) H4
theorem sliceBy_tok (x : Str) (i j k : Int) (t1 t2 t3 : Tok) : Txt.sliceBy x (some (i, t1)) (some (j, t2)) (k, t3) = Txt.sliceBy x (some (i, 0)) (some (j, 0)) (k, 0) := rfl
theorem pe_slice3 {X : Cx} {e lo hi st : Expr} {te tl tu ts : TE} {p2 pos : Pos} (he : PE X e te) (hl : PE X lo tl) (hu : PE X hi tu) (hs : PE X st ts) :
    PE X (.Subscript e (.Slice (some lo) (some hi) (some st) p2) pos) (tSl3 te tl tu ts) := by
  refine ⟨fun pins s σ H Q I h => ?_⟩
  refine Subscript_ (thn (he.run pins s σ H _ I h) fun v s1 ⟨x, H1, I1, r1, q1⟩ => ?_)
  refine wpAny_Slice ?_
  rw [evalPart_some]
  refine thn (hl.run pins s1 σ H1 _ I1 q1) fun vl s2 ⟨a, H2, I2, r2, q2⟩ => ?_
  rw [evalPart_some]
  refine thn (hu.run pins s2 σ H2 _ I2 q2) fun vu s3 ⟨b, H3, I3, r3, q3⟩ => ?_
  rw [evalPart_some]
  refine thn (hs.run pins s3 σ H3 _ I3 q3) fun vs s4 ⟨c, H4, I4, r4, q4⟩ => ?_
  obtain ⟨y, i, j, k, rfl, rfl, rfl, rfl, pos, z, q⟩ := q4
  obtain ⟨t0, rfl⟩ := r1
  obtain ⟨t1, rfl⟩ := r2
  obtain ⟨t2, rfl⟩ := r3
  obtain ⟨t3, rfl⟩ := r4
  have J : Inv X pins σ H4 { s4 with heap := s4.heap.push { cls := .type "slice", data := .fields #[.int i t1, .int j t2, .int k t3] } } :=
    I4.kept (t' := s4.toks) fun b ob q => Heap.get?_push_of_some _ q
  have k0 : (k == 0) = false := beq_eq_false_iff_ne.mpr (by omega)
  refine tail_any (ops := [.ref s4.heap.objs.size, .str y t0]) (typeIs_str _ _ _) F.slot_str_getitem.lookup ?_ (by with_unfolding_all rfl)
  refine wpAny_getItem_str_slice (l := some (i, t1)) (u := some (j, t2)) (st := some (k, t3)) ⟨_, Heap.get?_push_size _ rfl, rfl, rfl⟩ k0 ?_
  refine post_val_or_str ⟨Nat.le_trans (Txt.sliceBy_le y (some (i, t1)) (some (j, t2)) (k, t3) (by show k ≠ 0; omega)) z, fun t' m => ?_⟩
  exact ⟨.str (Txt.sliceBy y (some (i, 0)) (some (j, 0)) (k, 0)), H4, J.tok _, ⟨t', rfl⟩, q⟩

/-! ### t.index(x), t a tuple of flat items -/
def rIndexT (K : PySem.W.Frag) : V → List V → Hp → VK → Prop := fun x xs H Q => ∃ (a : Addr) (ys : List V) (y : V) (j : Nat) (z : V),
  x = V.ref a ∧ xs = [y] ∧ SqT K H a ys ∧ flatV y = true ∧ ys.all flatV = true ∧ ys[j]? = some z ∧ eqV z y = true ∧
  (∀ (m : Nat) (z' : V), m < j → ys[m]? = some z' → eqV z' y = false) ∧ Q (.int (j : Nat)) H
theorem mt_indexT {X : Cx} : MtR X "tuple.index" (rIndexT X.K) := by
  intro pins s σ H x xs v us Q I rx rs h
  obtain ⟨a, ys, y, j, z, rfl, rfl, hT, fy, fys, hz, hit, hno, q⟩ := h
  cases rx
  obtain ⟨uy, rfl, ry⟩ := vals1 rs
  obtain ⟨its, rv, ⟨⟨cls, dd, dat, sl⟩, ho, hc, n, hd⟩, _⟩ := I.tuple hT
  simp only at hc hd
  subst hc hd
  have many := rv.length
  have at1 : ∀ (m : Nat) (hm : m < its.toArray.size), ∃ y', ys[m]? = some y' ∧ RelV y' its.toArray[m] ∧ flatV y' = true := fun m hm => by
    have hm' : m < ys.length := by rw [many]; simpa using hm
    have e1 : ys[m]? = some ys[m] := List.getElem?_eq_getElem hm'
    obtain ⟨u, hu, ru⟩ := rv.get e1
    obtain ⟨_, e2⟩ := List.getElem?_eq_some_iff.mp hu
    have e3 : its.toArray[m] = u := by simpa using e2
    exact ⟨_, e1, by rw [e3]; exact ru, flat_at fys e1⟩
  have hj : j < its.toArray.size := by
    have := (List.getElem?_eq_some_iff.mp hz).1
    simp only [List.size_toArray]; omega
  refine call_meets PySem.F.slot_tuple_index ⟨_, ho, rfl⟩ PySem.F.entry_tuple_index (PySem.F.args_tuple_index_2 _ _)
    (TI.tuple_indexAt a its.toArray n dd sl uy (eqU y) j hj ?_ ?_)
    ⟨ho, fun u' hu' => mem_eqAt ry fy rv fys u' (by simpa using hu'), ⟨.int (j : Nat), H, I.tok _, ⟨_, rfl⟩, q⟩⟩
  · obtain ⟨y', e1, r1, f1⟩ := at1 j hj
    rw [hz] at e1
    cases e1
    rw [eqU_of r1 f1]
    exact hit
  · intro m hm hmj
    obtain ⟨y', e1, r1, f1⟩ := at1 m hm
    rw [eqU_of r1 f1]
    exact hno m _ hmj e1

/-! ### t * 1 -/
theorem tuple_mul_one (l : Addr) (items : Array Value) (n : Nat) (dd : Option Addr) (sl : Array (Option Value)) (u : Tok) :
    Meets (Builtin.«tuple.__mul__» ⟨[.ref l, .int 1 u], []⟩) (fun _ R s =>
      s.heap.get? l = some { cls := .type "tuple", dict := dd, data := .seq items n, slots := sl } ∧ R (.ok (.ret (.ref l))) s) :=
  .of_wp fun prog w A R s h => by
    obtain ⟨hp, g, d, tk, os⟩ := s
    obtain ⟨hl, h⟩ := h
    have f1 := AutoSeq1.idx_int
    wp_walk using AutoSeq1.wpAny_loadPart' hl
    exact ⟨_, rfl, h⟩
/-- t * k, from one on: by one it is t itself -/
def rRepK (K : PySem.W.Frag) : R2 := fun x y H Q => ∃ (l : Addr) (k : Int) (xs : List V), x = .ref l ∧ y = .int k ∧ SqT K H l xs ∧ xs ≠ [] ∧
  1 ≤ k ∧ k ≤ 1000 ∧ xs.length ≤ 1000 ∧ (k = 1 → Q (.ref l) H) ∧
  (k ≠ 1 → ∀ p, H p = none → Q (.ref p) (upd H p (.tup (List.replicate k.toNat xs).flatten)))
theorem op_repK {X : Cx} : OpR X (binaryOp .Mult) (rRepK X.K) := by
  intro pins s σ H x y v u Q I rx ry h
  obtain ⟨l, k, xs, rfl, rfl, hT, hne, k1, k2, hz, q1, q2⟩ := h
  by_cases one : k = 1
  · subst one
    cases rx
    obtain ⟨t, rfl⟩ := ry
    obtain ⟨its, r, ⟨⟨cls, dd, dat, sl⟩, ho, hc, n, hd⟩, hs⟩ := I.tuple hT
    simp only at hc hd
    subst hc hd
    exact wpAny_binaryOp_repeat_ref (T := "tuple") (U := "int") (by decide) ⟨_, ho, rfl⟩ (fun s' => typeIs_int s' 1 t)
      noFill_tuple_mul F.fills_int_mul F.slot_int_rmul repeat_tuple F.slot_int_index.lookup
      (call_meets F.slot_int_rmul (typeIs_int s 1 t) F.entry_int_rmul (F.args_int_rmul_2 _ _) (int_rmul_tuple 1 t l its.toArray n dd sl)
        ⟨ho, rfl, ⟨_, ho, rfl⟩, call_meets F.slot_tuple_mul ⟨_, ho, rfl⟩ F.entry_tuple_mul (F.args_tuple_mul_2 _ _)
          (tuple_mul_one l its.toArray n dd sl t) ⟨ho, ⟨.ref l, H, I, rfl, q1 rfl⟩⟩⟩)
  · exact op_repT pins s σ H (.ref l) (.int k) v u Q I rx ry ⟨l, k, xs, rfl, rfl, hT, hne, by omega, k2, hz, q2 one⟩
end Tv

namespace Tv
open PySem PySem.Spec PyProof.Rows L2

/-! ### tables as lists of digits -/
def tab (ds : List Nat) : Str := ⟨(ds.map (48 + ·)).toArray⟩
theorem tab_len (ds : List Nat) : (tab ds).length = ds.length := by
  show (ds.map (48 + ·)).toArray.size = _
  simp
theorem tab_cps (ds : List Nat) : (tab ds).cps.toList = ds.map (48 + ·) := by simp [tab]
theorem tab_size (ds : List Nat) : (tab ds).cps.size = ds.length := by simp [tab]
structure IsTab (ds : List Nat) (n : Nat) : Prop where
  n1 : 1 ≤ n
  n3 : n ≤ 3
  len : ds.length = 3 ^ n
  dig : ∀ d ∈ ds, d < 3
theorem IsTab.cases {ds : List Nat} {n : Nat} (T : IsTab ds n) : (n = 1 ∧ ds.length = 3) ∨ (n = 2 ∧ ds.length = 9) ∨ (n = 3 ∧ ds.length = 27) := by
  have := T.n1
  have := T.n3
  have e := T.len
  have h : n = 1 ∨ n = 2 ∨ n = 3 := by omega
  rcases h with rfl | rfl | rfl
  · exact Or.inl ⟨rfl, e⟩
  · exact Or.inr (Or.inl ⟨rfl, e⟩)
  · exact Or.inr (Or.inr ⟨rfl, e⟩)
theorem IsTab.small {ds : List Nat} {n : Nat} (T : IsTab ds n) : ds.length ≤ 27 := by
  rcases T.cases with ⟨_, e⟩ | ⟨_, e⟩ | ⟨_, e⟩ <;> omega
theorem IsTab.size {ds : List Nat} {n : Nat} (T : IsTab ds n) : (tab ds).length ≤ sizeLine := by
  rw [tab_len]
  exact Nat.le_trans T.small (by decide)
/-- numbers as values -/
def iv (as : List Nat) : List V := as.map fun (a : Nat) => V.int (a : Int)
theorem iv_at {as : List Nat} {i : Nat} {x : V} (h : (iv as)[i]? = some x) : ∃ a : Nat, as[i]? = some a ∧ x = .int (a : Int) := by
  unfold iv at h
  rw [List.getElem?_map] at h
  cases e : as[i]? with
  | none => rw [e] at h; cases h
  | some a => rw [e] at h; exact ⟨a, rfl, (Option.some.inj h).symm⟩
theorem iv_len (as : List Nat) : (iv as).length = as.length := by simp [iv]
theorem iv_get {as : List Nat} {i a : Nat} (h : as[i]? = some a) : (iv as)[i]? = some (.int (a : Int)) := by
  unfold iv
  rw [List.getElem?_map, h]
  rfl
/-- the number that arguments write with base 3 -/
def num (as : List Nat) : Nat := as.foldl (fun at_ x => 3 * at_ + x) 0
theorem num_snoc (as : List Nat) (x : Nat) : num (as ++ [x]) = 3 * num as + x := by simp [num]
theorem num_lt : ∀ (n : Nat) (as : List Nat), as.length = n → (∀ a ∈ as, a < 3) → num as < 3 ^ n
  | 0, as, h, _ => by
    obtain rfl := List.eq_nil_of_length_eq_zero h
    decide
  | n + 1, as, h, hd => by
    have ne : as ≠ [] := fun e => by rw [e] at h; cases h
    have e := List.dropLast_concat_getLast ne
    rw [← e, num_snoc]
    have ih := num_lt n as.dropLast (by rw [List.length_dropLast]; omega) fun a ha => hd a (List.dropLast_subset _ ha)
    have l := hd _ (List.getLast_mem ne)
    rw [Nat.pow_succ]
    omega
/-- all arguments for n places, in their order -/
def tups : Nat → List (List Nat)
  | 0 => [[]]
  | n + 1 => (tups n).flatMap fun r => [r ++ [0], r ++ [1], r ++ [2]]
theorem tups_ok : ∀ n, n ≤ 3 → (tups n).length = 3 ^ n ∧ ∀ i, i < (tups n).length → num ((tups n).getD i []) = i ∧ ((tups n).getD i []).length = n ∧ ((tups n).getD i []).all (· < 3) = true := by decide
/-- the value at some arguments -/
def val (ds as : List Nat) : Nat := ds.getD (num as) 0
theorem IsTab.at {ds as : List Nat} {n : Nat} (T : IsTab ds n) (h : as.length = n) (hd : ∀ a ∈ as, a < 3) : ds[num as]? = some (val ds as) ∧ val ds as < 3 := by
  have l := num_lt n as h hd
  rw [← T.len] at l
  have e : ds[num as]? = some ds[num as] := List.getElem?_eq_getElem l
  have e2 : val ds as = ds[num as] := by
    unfold val
    rw [List.getD_eq_getElem?_getD, e]
    rfl
  refine ⟨by rw [e, e2], ?_⟩
  rw [e2]
  exact T.dig _ (List.getElem_mem l)
theorem int_digit : ∀ d : Nat, d < 3 → PySem.intText? ⟨#[48 + d]⟩ = some (d : Int) := by
  intro d h
  have : d = 0 ∨ d = 1 ∨ d = 2 := by omega
  rcases this with rfl | rfl | rfl <;> decide +kernel
theorem str_digit : ∀ d : Nat, d < 3 → (toString (d : Int) : Str) = ⟨#[48 + d]⟩ := by
  intro d h
  have : d = 0 ∨ d = 1 ∨ d = 2 := by omega
  rcases this with rfl | rfl | rfl <;> decide +kernel

theorem yes_go {σ : L2.St} {H : Hp} {A B : Hp → Prop} (h : A H) : tYes σ H fun b H3 => if b = true then A H3 else B H3 := by
  show (if true = true then A H else B H)
  rw [if_pos rfl]
  exact h
theorem tab_sign {ds : List Nat} {n i c : Nat} (T : IsTab ds n) (h : (tab ds).cps[i]? = some c) : ∃ d, ds[i]? = some d ∧ d < 3 ∧ c = 48 + d := by
  rw [← Array.getElem?_toList, tab_cps, List.getElem?_map] at h
  cases e : ds[i]? with
  | none => rw [e] at h; cases h
  | some d => rw [e] at h; exact ⟨d, rfl, T.dig d (List.mem_of_getElem? e), (Option.some.inj h).symm⟩
/-- the reading of a comprehension over a text's signs -/
theorem lc_str {x : Str} {g : TG} {tt : TT} {te : TE} {vs : List Nat} {σ : L2.St} {H1 : Hp} {D : Addr} {Qd : Hp → Prop} (Pv : Nat → Hp → Prop)
    (h0 : Pv 0 (upd H1 D (.lst [])))
    (hs : ∀ i c H, x.cps[i]? = some c → Pv i H → g (.str ⟨#[c]⟩) (wipe σ vs) H fun σ2 H2 => wipe σ2 vs = wipe σ vs ∧ tt σ2 H2 fun b H3 =>
      if b = true then te σ2 H3 fun y H4 => ∃ acc, H4 D = some (.lst acc) ∧ acc.length < sizeLine ∧ Pv (i + 1) (upd H4 D (.lst (acc ++ [y]))) else Pv (i + 1) H3)
    (hd : ∀ H, Pv x.cps.size H → Qd H) :
    ∃ W : Nat → Nat → Hp → Prop, (∃ m, W 0 m (upd H1 D (.lst []))) ∧ ∀ i m H, W i m H →
      ((Its x).stop i H ∧ Qd H) ∨ ((Its x).go i H ∧ ∃ Nx : Hp → Prop, (∀ H', Nx H' → ∃ m', m' < m ∧ W (i + 1) m' H') ∧
        ∀ v H', (Its x).yld i H v H' → g v (wipe σ vs) H' fun σ2 H2 => wipe σ2 vs = wipe σ vs ∧ tt σ2 H2 fun b H3 =>
          if b = true then te σ2 H3 fun y H4 => ∃ acc, H4 D = some (.lst acc) ∧ acc.length < sizeLine ∧ Nx (upd H4 D (.lst (acc ++ [y]))) else Nx H3) := by
  refine ⟨fun i m H => m = x.cps.size - i ∧ i ≤ x.cps.size ∧ Pv i H, ⟨x.cps.size, by simp, Nat.zero_le _, h0⟩, ?_⟩
  rintro i m H ⟨rfl, le, p⟩
  by_cases lt : i < x.cps.size
  · refine Or.inr ⟨lt, Pv (i + 1), fun H' p' => ⟨x.cps.size - (i + 1), by omega, rfl, lt, p'⟩, ?_⟩
    rintro v H' ⟨rfl, c, hc, rfl⟩
    exact hs i c _ hc p
  · obtain rfl : i = x.cps.size := by omega
    exact Or.inl ⟨Nat.le_refl _, hd H p⟩
section
open Evl
variable {K : PySem.W.Frag} {σ : L2.St} {H : Hp} {te tl tu ts : TE}
theorem ev_lenset {x : Str} (h : Ev te σ H (.str x)) (small : x.cps.size ≤ 1000) : Ev (tLenSetS te) σ H (.int (dist (seen x x.cps.size)).length) :=
  fun H1 e Q q => h H1 e _ fun H2 e2 => ⟨x, rfl, small, q H2 e2⟩
theorem ev_sl3 {x : Str} {i j k : Int} (h : Ev te σ H (.str x)) (h1 : Ev tl σ H (.int i)) (h2 : Ev tu σ H (.int j)) (h3 : Ev ts σ H (.int k)) (pos : 0 < k) (z : x.length ≤ sizeLine) :
    Ev (tSl3 te tl tu ts) σ H (.str (Txt.sliceBy x (some (i, 0)) (some (j, 0)) (k, 0))) :=
  fun H1 e Q q => h H1 e _ fun H2 e2 => h1 H2 (e.trans e2) _ fun H3 e3 => h2 H3 ((e.trans e2).trans e3) _ fun H4 e4 =>
    h3 H4 (((e.trans e2).trans e3).trans e4) _ fun H5 e5 => ⟨x, i, j, k, rfl, rfl, rfl, rfl, pos, z, q H5 (((e2.trans e3).trans e4).trans e5)⟩
theorem ev_str_len {x : Str} (h : Ev te σ H (.str x)) (z : x.length ≤ sizeLine) :
    Ev (tCB (fun xs H Q => ∃ x n, xs = [x] ∧ LenV K x H n ∧ Q (.int (n : Nat)) H) (tCons te tNil)) σ H (.int (x.length : Nat)) :=
  fun H1 e Q q => h H1 e _ fun H2 e2 => ⟨.str x, x.length, rfl, ⟨z, rfl⟩, q H2 e2⟩
theorem ev_anyN {bs : List Bool} (h : EvL te σ H (bs.map V.bl)) : Ev (tCB (rAny K) (tCons te tNil)) σ H (.bl (bs.any id)) :=
  fun H1 e Q q => h H1 e _ fun p H2 _ e2 hp => ⟨p, bs, rfl, sq_of hp, q H2 e2⟩
theorem ev_allN {bs : List Bool} (h : EvL te σ H (bs.map V.bl)) : Ev (tCB (rAll K) (tCons te tNil)) σ H (.bl (bs.all id)) :=
  fun H1 e Q q => h H1 e _ fun p H2 _ e2 hp => ⟨p, bs, rfl, sq_of hp, q H2 e2⟩
theorem eu_tupleN {xs : List V} (h : EvL te σ H xs) : EvU (tCB (fun xs H Q => ∃ p ys, xs = [.ref p] ∧ ((SqL K H p ys ∧ ∀ l, H l = none → Q (.ref l) (upd H l (.tup ys))) ∨ (SqT K H p ys ∧ Q (.ref p) H))) (tCons te tNil)) σ H xs :=
  fun H1 e Q q => h H1 e _ fun p H2 _ e2 h2 => ⟨p, xs, rfl, Or.inl ⟨sq_of h2, fun l hl => q l _ (fresh_back e2 hl) (e2.trans (Ex.new hl)) upd_same⟩⟩
theorem et_yes : EvT tYes σ H true := fun H1 _ _ q => q H1 (Ex.refl H1)
/-- over a text's signs -/
theorem el_lcS {x : Str} {tl : TE} {tt : TT} {j : Nat} {vs : List Nat} (f : Nat → Bool) (v : Nat → V) (h : Ev tl σ H (.str x)) (hz : x.cps.size ≤ 40000)
    (hw : ∀ y, wipe ((wipe σ vs).set j (some y)) vs = wipe σ vs)
    (ht : ∀ (i c : Nat) H1, Ex H H1 → x.cps[i]? = some c → EvT tt ((wipe σ vs).set j (some (.str ⟨#[c]⟩))) H1 (f i))
    (he : ∀ (i c : Nat) H1, Ex H H1 → x.cps[i]? = some c → f i = true → Ev te ((wipe σ vs).set j (some (.str ⟨#[c]⟩))) H1 (v i)) :
    EvL (tLc (iStr tl) (gName j) tt te vs) σ H (given x.cps.size f v) := fun H0 e Q q => h H0 e _ fun H1 e1 => ⟨x, rfl, fun Dl hD =>
  lc_str (x := x) (Cw H1 f v Dl) ⟨hD, Ex.new hD, upd_same⟩ (fun i c H' hi p =>
    ⟨hw _, cw_turn p (by have := (Array.getElem?_eq_some_iff.mp hi).1; omega) (ht i c H1 (e.trans e1) hi) (fun hf => he i c H1 (e.trans e1) hi hf)⟩)
    (fun H' p => q Dl H' (fresh_back e1 p.1) (e1.trans p.2.1) p.2.2)⟩
/-- over a tuple that is made on the way -/
theorem el_lcU {xs : List V} {tl : TE} {tt : TT} {j : Nat} {vs : List Nat} (f : Nat → Bool) (v : Nat → V) (h : EvU tl σ H xs) (hz : xs.length ≤ 40000)
    (hw : ∀ y, wipe ((wipe σ vs).set j (some y)) vs = wipe σ vs)
    (ht : ∀ (i : Nat) (x : V) H1, Ex H H1 → xs[i]? = some x → EvT tt ((wipe σ vs).set j (some x)) H1 (f i))
    (he : ∀ (i : Nat) (x : V) H1, Ex H H1 → xs[i]? = some x → f i = true → Ev te ((wipe σ vs).set j (some x)) H1 (v i)) :
    EvL (tLc (iTup K tl) (gName j) tt te vs) σ H (given xs.length f v) := fun H0 e Q q => h H0 e _ fun a H1 ha e1 hx => ⟨a, rfl, ⟨xs, st_of hx⟩, fun Dl hD =>
  lc_tup (xs := xs) (Cw H1 f v Dl) ⟨hD, Ex.new hD, upd_same⟩ (fun i H' _ p => st_of (p.2.1 a _ hx)) (fun i x H' hi p =>
    ⟨hw _, cw_turn p (by have := (List.getElem?_eq_some_iff.mp hi).1; omega) (ht i x H1 (e.trans e1) hi) (fun hf => he i x H1 (e.trans e1) hi hf)⟩)
    (fun H' p => q Dl H' (fresh_back e1 p.1) (e1.trans p.2.1) p.2.2)⟩
theorem ev_inSign {ta tb : TE} {c : Nat} {z : Str} (ha : Ev ta σ H (.str ⟨#[c]⟩)) (hb : Ev tb σ H (.str z)) :
    Ev (tOp (fun x y H Q => ∃ (c : Nat) (z : Str), x = .str ⟨#[c]⟩ ∧ y = .str z ∧ Q (.bl (decide (c ∈ z.cps.toList))) H) ta tb) σ H (.bl (decide (c ∈ z.cps.toList))) :=
  ev_op ha hb fun H1 _ Q q => ⟨c, z, rfl, rfl, q H1 (Ex.refl H1)⟩
theorem ev_count {ta tb : TE} {x y : Str} (ha : Ev ta σ H (.str x)) (hb : Ev tb σ H (.str y)) :
    Ev (tBM K "str" (fun x xs H Q => ∃ a b, x = .str a ∧ xs = [.str b] ∧ Q (.int (Txt.count a b)) H) ta (tCons tb tNil)) σ H (.int (Txt.count x y)) :=
  fun H1 e Q q => ha H1 e _ fun H2 e2 => ⟨rfl, hb H2 (e.trans e2) _ fun H3 e3 => ⟨x, y, rfl, rfl, q H3 (e2.trans e3)⟩⟩
def nth (l : List V) (i : Nat) : V := l.getD i .non
theorem nth_of {l : List V} {i : Nat} {x : V} (h : l[i]? = some x) : nth l i = x := by
  unfold nth
  rw [List.getD_eq_getElem?_getD, h]
  rfl
theorem given_all (l : List V) (g : V → V) : given l.length (fun _ => true) (fun i => g (nth l i)) = l.map g := by
  unfold given
  refine List.ext_getElem? fun i => ?_
  rw [List.filter_eq_self.mpr (fun _ _ => rfl), List.getElem?_map, List.getElem?_map]
  by_cases h : i < l.length
  · rw [List.getElem?_range h, List.getElem?_eq_getElem h]
    show some (g (nth l i)) = some (g l[i])
    rw [nth_of (List.getElem?_eq_getElem h)]
  · rw [List.getElem?_eq_none (by simpa using h), List.getElem?_eq_none (by omega)]
    rfl
theorem given_mem {n : Nat} {f : Nat → Bool} {v : Nat → V} {x : V} (h : x ∈ given n f v) : ∃ i, i < n ∧ f i = true ∧ x = v i := by
  unfold given at h
  obtain ⟨i, hi, rfl⟩ := List.mem_map.mp h
  obtain ⟨h1, h2⟩ := List.mem_filter.mp hi
  exact ⟨i, List.mem_range.mp h1, h2, rfl⟩
theorem eu_repK {ta tb : TE} {x : V} {n : Nat} (h1 : EvU ta σ H [x]) (h2 : Ev tb σ H (.int (n : Int))) (n1 : 1 ≤ n) (n2 : n ≤ 1000) :
    EvU (tOp (rRepK K) ta tb) σ H (List.replicate n x) := fun H1 e Q q => h1 H1 e _ fun p H2 hp e2 hx => h2 H2 (e.trans e2) _ fun H3 e3 => by
  refine ⟨p, (n : Int), [x], rfl, rfl, st_of (e3 _ _ hx), by simp, by omega, by omega, by show 1 ≤ 1000; decide, fun one => ?_, fun two p2 hp2 => ?_⟩
  · obtain rfl : n = 1 := by omega
    exact q p H3 hp (e2.trans e3) (e3 _ _ hx)
  · refine q p2 _ (fresh_back (e2.trans e3) hp2) ((e2.trans e3).trans (Ex.new hp2)) ?_
    rw [upd_same, Int.toNat_natCast]
    congr 2
    simp
theorem ev_def2U {sp : Sp} {v z : V} {xs : List V} {ta tb : TE} (h1 : Ev ta σ H z) (h2 : EvU tb σ H xs)
    (hs : ∀ p H1, Ex H H1 → H1 p = some (.tup xs) → ∀ Q : VK, (∀ H2, Ex H1 H2 → Q v H2) → sp [z, .ref p] H1 Q E0) : Ev (tDef sp (tCons ta (tCons tb tNil))) σ H v :=
  fun H1 e Q q => h1 H1 e _ fun H2 e2 => h2 H2 (e.trans e2) _ fun p H3 _ e3 hp => hs p H3 ((e.trans e2).trans e3) hp Q fun H4 e4 => q H4 ((e2.trans e3).trans e4)
theorem ev_def {sp : Sp} {v : V} {ta : TA} {vs : List V} (h : EvA ta σ H vs) (hs : ∀ H1, Ex H H1 → ∀ Q : VK, (∀ H2, Ex H1 H2 → Q v H2) → sp vs H1 Q E0) : Ev (tDef sp ta) σ H v :=
  fun H1 e Q q => h H1 e _ fun H2 e2 => hs H2 (e.trans e2) Q fun H3 e3 => q H3 (e2.trans e3)
end

/-! ### rows of tuples -/
abbrev IsRow (H : Hp) (x : V) (as : List Nat) : Prop := ∃ a, x = .ref a ∧ H a = some (.tup (iv as))
abbrev Rows (H : Hp) (xs : List V) (L : List (List Nat)) : Prop := Paired (IsRow H) xs L
theorem Rows.mono {H H' : Hp} (e : Evl.Ex H H') : ∀ {xs : List V} {L : List (List Nat)}, Rows H xs L → Rows H' xs L
  | _, _, .nil => .nil
  | _, _, .cons ⟨a, h1, h2⟩ t => .cons ⟨a, h1, e _ _ h2⟩ (Rows.mono e t)
theorem Rows.but {p : Addr} {H H' : Hp} (e : ∀ b o, b ≠ p → H b = some o → H' b = some o) (np : ∀ l, H p ≠ some (.tup l)) : ∀ {xs : List V} {L : List (List Nat)}, Rows H xs L → Rows H' xs L
  | _, _, .nil => .nil
  | _, _, .cons ⟨a, h1, h2⟩ t => .cons ⟨a, h1, e _ _ (fun z => np _ (z ▸ h2)) h2⟩ (Rows.but e np t)
theorem Rows.len {H : Hp} {xs : List V} {L : List (List Nat)} (r : Rows H xs L) : xs.length = L.length := Paired.length r
theorem Rows.append {H : Hp} : ∀ {xs ys : List V} {L M : List (List Nat)}, Rows H xs L → Rows H ys M → Rows H (xs ++ ys) (L ++ M)
  | _, _, _, _, .nil, s => s
  | _, _, _, _, .cons r t, s => .cons r (Rows.append t s)
theorem Rows.get {H : Hp} : ∀ {xs : List V} {L : List (List Nat)} {i : Nat} {x : V}, Rows H xs L → xs[i]? = some x → ∃ as, L[i]? = some as ∧ IsRow H x as
  | _, _, _, _, .nil, h => by simp at h
  | _, _, 0, _, .cons r t, h => by simp at h; subst h; exact ⟨_, rfl, r⟩
  | _, _, i + 1, _, .cons r t, h => by
    obtain ⟨as, h1, h2⟩ := Rows.get (i := i) t (by simpa using h)
    exact ⟨as, by simpa using h1, h2⟩
/-- a comprehension of two clauses: the outer one over a list -/
theorem lc2_out {K : PySem.W.Frag} {a : Addr} {xs : List V} {H0 : Hp} {Qd : Hp → Prop} {Bd : V → Hp → (Hp → Prop) → Prop} (Pv : Nat → Hp → Prop) (h0 : Pv 0 H0)
    (hl : ∀ i H, i ≤ xs.length → Pv i H → SqL K H a xs) (hs : ∀ i x H, xs[i]? = some x → Pv i H → Bd x H (Pv (i + 1))) (hd : ∀ H, Pv xs.length H → Qd H) :
    ∃ W : Nat → Nat → Hp → Prop, (∃ m, W 0 m H0) ∧ ∀ i m H, W i m H → ((Itl K a).stop i H ∧ Qd H) ∨
      ((Itl K a).go i H ∧ ∃ Nx : Hp → Prop, (∀ H', Nx H' → ∃ m', m' < m ∧ W (i + 1) m' H') ∧ ∀ x H', (Itl K a).yld i H x H' → Bd x H' Nx) := by
  refine ⟨fun i m H => m = xs.length - i ∧ i ≤ xs.length ∧ Pv i H, ⟨xs.length, by simp, Nat.zero_le _, h0⟩, ?_⟩
  rintro i m H ⟨rfl, le, p⟩
  have here := hl i H le p
  by_cases lt : i < xs.length
  · refine Or.inr ⟨⟨xs, xs[i], here, List.getElem?_eq_getElem lt⟩, Pv (i + 1), fun H' p' => ⟨xs.length - (i + 1), by omega, rfl, lt, p'⟩, ?_⟩
    rintro x H' ⟨rfl, hx⟩
    exact hs i x _ (hx xs here) p
  · obtain rfl : i = xs.length := by omega
    exact Or.inl ⟨⟨xs, here, Nat.le_refl _⟩, hd H p⟩
/-- .. over a tuple -/
theorem lc2_tup {K : PySem.W.Frag} {a : Addr} {xs : List V} {H0 : Hp} {Qd : Hp → Prop} {Bd : V → Hp → (Hp → Prop) → Prop} (Pv : Nat → Hp → Prop) (h0 : Pv 0 H0)
    (hl : ∀ i H, i ≤ xs.length → Pv i H → SqT K H a xs) (hs : ∀ i x H, xs[i]? = some x → Pv i H → Bd x H (Pv (i + 1))) (hd : ∀ H, Pv xs.length H → Qd H) :
    ∃ W : Nat → Nat → Hp → Prop, (∃ m, W 0 m H0) ∧ ∀ i m H, W i m H → ((Itt K a).stop i H ∧ Qd H) ∨
      ((Itt K a).go i H ∧ ∃ Nx : Hp → Prop, (∀ H', Nx H' → ∃ m', m' < m ∧ W (i + 1) m' H') ∧ ∀ x H', (Itt K a).yld i H x H' → Bd x H' Nx) := by
  refine ⟨fun i m H => m = xs.length - i ∧ i ≤ xs.length ∧ Pv i H, ⟨xs.length, by simp, Nat.zero_le _, h0⟩, ?_⟩
  rintro i m H ⟨rfl, le, p⟩
  have here := hl i H le p
  by_cases lt : i < xs.length
  · refine Or.inr ⟨⟨xs, xs[i], here, List.getElem?_eq_getElem lt⟩, Pv (i + 1), fun H' p' => ⟨xs.length - (i + 1), by omega, rfl, lt, p'⟩, ?_⟩
    rintro x H' ⟨rfl, hx⟩
    exact hs i x _ (hx xs here) p
  · obtain rfl : i = xs.length := by omega
    exact Or.inl ⟨⟨xs, here, Nat.le_refl _⟩, hd H p⟩
def ext (r : List Nat) : List (List Nat) := [r ++ [0], r ++ [1], r ++ [2]]
theorem tups_succ (n : Nat) : tups (n + 1) = (tups n).flatMap ext := rfl
theorem flat_take {L : List (List Nat)} {i : Nat} {r : List Nat} (h : L[i]? = some r) : (L.take (i + 1)).flatMap ext = (L.take i).flatMap ext ++ ext r := by
  rw [List.take_succ, h, List.flatMap_append]
  simp
theorem flat_small {n i : Nat} (h : n ≤ 3) : ((tups n).take i).length ≤ 27 ∧ (((tups n).take i).flatMap ext).length ≤ 81 := by
  have e : ∀ L : List (List Nat), (L.flatMap ext).length = 3 * L.length := by
    intro L
    induction L with
    | nil => rfl
    | cons a r ih =>
      rw [List.flatMap_cons, List.length_append, ih, List.length_cons]
      show 3 + 3 * r.length = _
      omega
  have h1 : (tups n).length ≤ 27 := by
    rw [(tups_ok n h).1]
    exact Nat.le_trans (Nat.pow_le_pow_right (by decide) h) (by decide)
  rw [e, List.length_take]
  omega
/-- tuple + a tuple of one: a row more -/
theorem catA_row {K : PySem.W.Frag} {H : Hp} {x : V} {as : List Nat} {k : Nat} (r : IsRow H x as) (z : as.length ≤ 100) {q : Addr} (hq : H q = some (.tup [V.int (k : Int)])) {Q : VK}
    (h : ∀ y H', Evl.Ex H H' → IsRow H' y (as ++ [k]) → Q y H') : rCatA K x (.ref q) H Q := by
  obtain ⟨a, rfl, ha⟩ := r
  have e2 : iv as ++ [V.int (k : Int)] = iv (as ++ [k]) := by unfold iv; rw [List.map_append]; rfl
  refine ⟨a, q, _, _, rfl, rfl, SqT.of ha, SqT.of hq, ?_, fun e => ?_, fun _ e => (by cases e), fun _ _ p hp => ?_⟩
  · rw [iv_len]
    exact Nat.le_trans (Nat.add_le_add_right z 1) (by decide)
  · refine h (.ref q) H (Evl.Ex.refl H) ⟨q, rfl, ?_⟩
    rw [hq, ← e2, e]
    rfl
  · refine h (.ref p) _ (Evl.Ex.new hp) ⟨p, rfl, ?_⟩
    rw [upd_same, e2]
theorem tups_short {n j : Nat} {r : List Nat} (h : n ≤ 3) (e : (tups n)[j]? = some r) : r.length ≤ 100 := by
  obtain ⟨lt, e2⟩ := List.getElem?_eq_some_iff.mp e
  have h1 := ((tups_ok n h).2 j lt).2.1
  rw [List.getD_eq_getElem?_getD, e] at h1
  have : r.length = n := h1
  omega
theorem ext_take (r : List Nat) {m : Nat} (h : m < 3) : (ext r).take (m + 1) = (ext r).take m ++ [r ++ [m]] := by
  have : m = 0 ∨ m = 1 ∨ m = 2 := by omega
  rcases this with rfl | rfl | rfl <;> rfl
theorem iv3_at {m : Nat} {x : V} (h : (iv [0, 1, 2])[m]? = some x) : m < 3 ∧ x = .int (m : Int) := by
  match m, h with
  | 0, h => exact ⟨by decide, (Option.some.inj h).symm⟩
  | 1, h => exact ⟨by decide, (Option.some.inj h).symm⟩
  | 2, h => exact ⟨by decide, (Option.some.inj h).symm⟩

/-! ### texts put together of signs -/
def rJoin (K : PySem.W.Frag) : V → List V → Hp → VK → Prop := fun x xs H Q => ∃ a p, ∃ ys : List Str, x = .str a ∧ xs = [.ref p] ∧
  (SqL K H p (ys.map V.str) ∨ SqT K H p (ys.map V.str)) ∧ (ys.map (·.length)).sum + ys.length * a.length ≤ 16777216 ∧ Q (.str (Txt.join a ys)) H
theorem join_fold : ∀ (ds : List Nat) (acc : Array Nat), (ds.map fun d => (⟨#[48 + d]⟩ : Str)).foldl (fun a p => a ++ (Str.ofString "").cps ++ p.cps) acc = acc ++ (ds.map (48 + ·)).toArray
  | [], acc => by simp
  | d :: r, acc => by
    rw [List.map_cons, List.foldl_cons, join_fold r]
    have e : (Str.ofString "").cps = #[] := rfl
    rw [e]
    simp
theorem join_tab (ds : List Nat) : Txt.join (Str.ofString "") (ds.map fun d => (⟨#[48 + d]⟩ : Str)) = tab ds := by
  cases ds with
  | nil => rfl
  | cons d r =>
    show Builtin.Str.glued (Str.ofString "") (⟨#[48 + d]⟩ :: r.map fun d => (⟨#[48 + d]⟩ : Str)) = _
    unfold Builtin.Str.glued tab
    rw [List.drop_one, List.tail_cons, join_fold r]
    simp
section
open Evl
variable {K : PySem.W.Frag} {σ : L2.St} {H : Hp} {te : TE}
theorem ev_joinL {a : Str} {ys : List Str} {to : TE} (h1 : Ev to σ H (.str a)) (h2 : EvL te σ H (ys.map V.str)) (z : (ys.map (·.length)).sum + ys.length * a.length ≤ 16777216) :
    Ev (tM1 (rJoin K) to te) σ H (.str (Txt.join a ys)) := fun H1 e Q q => h1 H1 e _ fun H2 e2 => ⟨⟨a, rfl⟩, h2 H2 (e.trans e2) _ fun p H3 _ e3 h3 =>
  ⟨a, p, ys, rfl, rfl, Or.inl (sq_of h3), z, q H3 (e2.trans e3)⟩⟩
theorem ev_joinTab {ds : List Nat} {to : TE} (h1 : Ev to σ H (.str (Str.ofString ""))) (h2 : EvL te σ H ((ds.map fun d => (⟨#[48 + d]⟩ : Str)).map V.str)) (z : ds.length ≤ 1000) :
    Ev (tM1 (rJoin K) to te) σ H (.str (tab ds)) := by
  rw [← join_tab]
  refine ev_joinL h1 h2 ?_
  have e : ((ds.map fun d => (⟨#[48 + d]⟩ : Str)).map (·.length)).sum = ds.length := by
    clear h2 z
    induction ds with
    | nil => rfl
    | cons d r ih =>
      rw [List.map_cons, List.map_cons, List.sum_cons, ih, List.length_cons]
      show 1 + r.length = _
      omega
  have e0 : (Str.ofString "").length = 0 := rfl
  rw [e, e0, List.length_map]
  omega
/-- over a tuple that stands -/
theorem el_lcT {a : Addr} {xs : List V} {tl : TE} {tt : TT} {j : Nat} {vs : List Nat} (f : Nat → Bool) (v : Nat → V) (h : Ev tl σ H (.ref a)) (hx : SqT K H a xs) (hz : xs.length ≤ 40000)
    (hw : ∀ y, wipe ((wipe σ vs).set j (some y)) vs = wipe σ vs)
    (ht : ∀ (i : Nat) (x : V) H1, Ex H H1 → xs[i]? = some x → EvT tt ((wipe σ vs).set j (some x)) H1 (f i))
    (he : ∀ (i : Nat) (x : V) H1, Ex H H1 → xs[i]? = some x → f i = true → Ev te ((wipe σ vs).set j (some x)) H1 (v i)) :
    EvL (tLc (iTup K tl) (gName j) tt te vs) σ H (given xs.length f v) := fun H0 e Q q => h H0 e _ fun H1 e1 => ⟨a, rfl, ⟨xs, ex_t (e.trans e1) hx⟩, fun Dl hD =>
  lc_tup (xs := xs) (Cw H1 f v Dl) ⟨hD, Ex.new hD, upd_same⟩ (fun i H' _ p => ex_t ((e.trans e1).trans p.2.1) hx) (fun i x H' hi p =>
    ⟨hw _, cw_turn p (by have := (List.getElem?_eq_some_iff.mp hi).1; omega) (ht i x H1 (e.trans e1) hi) (fun hf => he i x H1 (e.trans e1) hi hf)⟩)
    (fun H' p => q Dl H' (fresh_back e1 p.1) (e1.trans p.2.1) p.2.2)⟩
theorem given_iv {α : Type} (d0 : α) (as : List α) (g : α → V) : given as.length (fun _ => true) (fun i => g (as.getD i d0)) = as.map g := by
  unfold given
  refine List.ext_getElem? fun i => ?_
  rw [List.filter_eq_self.mpr (fun _ _ => rfl), List.getElem?_map, List.getElem?_map]
  by_cases h : i < as.length
  · rw [List.getElem?_range h, List.getElem?_eq_getElem h]
    show some (g (as.getD i d0)) = some (g as[i])
    rw [List.getD_eq_getElem?_getD, List.getElem?_eq_getElem h]
    rfl
  · rw [List.getElem?_eq_none (by simpa using h), List.getElem?_eq_none (by omega)]
    rfl
theorem ev_strInt {d : Nat} (h : Ev te σ H (.int (d : Int))) (d3 : d < 3) :
    Ev (tCB (fun xs H Q => ∃ i : Int, xs = [.int i] ∧ i.natAbs.log2 < 1920 ∧ Q (.str (toString i)) H) (tCons te tNil)) σ H (.str ⟨#[48 + d]⟩) :=
  fun H1 e Q q => h H1 e _ fun H2 e2 => ⟨(d : Int), rfl, by have : d = 0 ∨ d = 1 ∨ d = 2 := by omega
                                                            rcases this with rfl | rfl | rfl <;> decide, by have := q H2 e2; rw [← str_digit d d3] at this; exact this⟩
end

/-! ### rows made of rows -/
section
open Evl
variable {K : PySem.W.Frag} {σ : L2.St} {H : Hp} {ta tb te : TE}
def EvRow (te : TE) (σ : L2.St) (H : Hp) (as : List Nat) : Prop := ∀ H1, Ex H H1 → ∀ Q : VK, (∀ y H2, Ex H1 H2 → IsRow H2 y as → Q y H2) → te σ H1 Q
theorem evr_take {p : Addr} {as : List Nat} {k : Nat} {tk : TE} (h : Ev te σ H (.ref p)) (hp : H p = some (.tup (iv as))) (hk : Ev tk σ H (.int (k : Int))) (lt : k < as.length) :
    EvRow (tSl (rSlA K) te tNoPart (tPart tk)) σ H (as.take k) := fun H1 e Q q => h H1 e _ fun H2 e2 => hk H2 (e.trans e2) _ fun H3 e3 => by
  refine ⟨(k : Int), rfl, p, iv as, rfl, st_of (e3 _ _ (e2 _ _ (e _ _ hp))), fun z => ?_, fun _ r hr => ?_⟩
  · rw [HT.sIx_nat, iv_len] at z
    omega
  · refine q (.ref r) _ ((e2.trans e3).trans (Ex.new hr)) ⟨r, rfl, ?_⟩
    rw [upd_same]
    unfold cutV
    rw [HT.sIx_none, HT.sIx_nat, List.drop_zero, Nat.sub_zero, iv_len, Nat.min_eq_left (by omega)]
    unfold iv
    rw [List.map_take]
theorem evr_drop {p : Addr} {as : List Nat} {k : Nat} {tk : TE} (h : Ev te σ H (.ref p)) (hp : H p = some (.tup (iv as))) (hk : Ev tk σ H (.int ((k : Int) + 1))) (lt : k < as.length) :
    EvRow (tSl (rSlA K) te (tPart tk) tNoPart) σ H (as.drop (k + 1)) := fun H1 e Q q => h H1 e _ fun H2 e2 => hk H2 (e.trans e2) _ fun H3 e3 => by
  have ek : (k : Int) + 1 = ((k + 1 : Nat) : Int) := by omega
  refine ⟨(k : Int) + 1, rfl, p, iv as, rfl, st_of (e3 _ _ (e2 _ _ (e _ _ hp))), fun z => ?_, fun _ r hr => ?_⟩
  · rw [ek, HT.sIx_nat, iv_len] at z
    omega
  · refine q (.ref r) _ ((e2.trans e3).trans (Ex.new hr)) ⟨r, rfl, ?_⟩
    rw [upd_same]
    unfold cutV
    rw [ek, HT.sIx_none, HT.sIx_nat, iv_len, Nat.min_eq_left (by omega)]
    unfold iv
    rw [List.take_of_length_le (by simp), List.map_drop]
theorem evr_one {k : Nat} (h : Ev te σ H (.int (k : Int))) : EvRow (tTup (tCons te tNil)) σ H [k] := fun H1 e Q q => h H1 e _ fun H2 e2 =>
  ⟨by show 1 ≤ sizeLine; decide, fun r hr => q (.ref r) _ (e2.trans (Ex.new hr)) ⟨r, rfl, upd_same⟩⟩
theorem evr_cat {as bs : List Nat} (ha : EvRow ta σ H as) (hb : EvRow tb σ H bs) (z : as.length + bs.length ≤ 1000) : EvRow (tOp (rCatA K) ta tb) σ H (as ++ bs) :=
  fun H1 e Q q => ha H1 e _ fun x H2 e2 ⟨a, ex, hx⟩ => hb H2 (e.trans e2) _ fun y H3 e3 ⟨b, ey, hy⟩ => by
    subst ex
    subst ey
    have hx3 := e3 _ _ hx
    refine ⟨a, b, iv as, iv bs, rfl, rfl, st_of hx3, st_of hy, by rw [iv_len, iv_len]; exact Nat.le_trans z (by decide), fun h => ?_, fun h h2 => ?_, fun h h2 r hr => ?_⟩
    · have : as = [] := by cases as with
        | nil => rfl
        | cons a b => cases h
      subst this
      exact q (.ref b) H3 (e2.trans e3) ⟨b, rfl, hy⟩
    · have : bs = [] := by cases bs with
        | nil => rfl
        | cons a b => cases h2
      subst this
      rw [List.append_nil] at q
      exact q (.ref a) H3 (e2.trans e3) ⟨a, rfl, hx3⟩
    · refine q (.ref r) _ ((e2.trans e3).trans (Ex.new hr)) ⟨r, rfl, ?_⟩
      rw [upd_same]
      unfold iv
      rw [List.map_append]
theorem ev_defRow {sp : Sp} {v z : V} {as : List Nat} (h1 : Ev ta σ H z) (h2 : EvRow tb σ H as)
    (hs : ∀ p H1, Ex H H1 → H1 p = some (.tup (iv as)) → ∀ Q : VK, (∀ H2, Ex H1 H2 → Q v H2) → sp [z, .ref p] H1 Q E0) : Ev (tDef sp (tCons ta (tCons tb tNil))) σ H v :=
  fun H1 e Q q => h1 H1 e _ fun H2 e2 => h2 H2 (e.trans e2) _ fun y H3 e3 ⟨p, ey, hp⟩ => by
    subst ey
    exact hs p H3 ((e.trans e2).trans e3) hp Q fun H4 e4 => q H4 ((e2.trans e3).trans e4)
theorem el_rep3 {xs : List V} (h : EvL ta σ H xs) (z : xs.length ≤ 1000) : EvL (tOp rRep ta (tC (.int 3))) σ H (xs ++ (xs ++ xs)) := fun H1 e Q q => h H1 e _ fun p H2 hp e2 hx =>
  ⟨p, 3, xs, rfl, rfl, hx, by decide, by decide, Nat.le_trans (by show xs.length * 3 ≤ 3000; omega) (by decide), fun r hr => q r _ (fresh_back e2 hr) (e2.trans (Ex.new hr)) (by
    rw [upd_same]
    congr 2
    show xs ++ (xs ++ (xs ++ [])) = _
    rw [List.append_nil])⟩
end
theorem set_split (as : List Nat) (k e : Nat) (h : k < as.length) : as.take k ++ [e] ++ as.drop (k + 1) = as.set k e := by
  rw [List.set_eq_take_append_cons_drop, if_pos h]
  simp
theorem gen_app {f : Hp → Prop} {H0 : Hp} (h : ∀ H1, H1 = H0 → f H1) : f H0 := h H0 rfl
/-- digits as signs -/
def signs_ (ds : List Nat) : List V := (ds.map fun d => (⟨#[48 + d]⟩ : Str)).map V.str
theorem signs_snoc (ds : List Nat) (d : Nat) : signs_ ds ++ [V.str ⟨#[48 + d]⟩] = signs_ (ds ++ [d]) := by unfold signs_; rw [List.map_append, List.map_append]; rfl
end Tv

namespace Tv
open PySem PySem.Spec PyProof.Rows L2 Evl
mutual
theorem dp_mono {K : PySem.W.Frag} {H H' : Hp} (e : Ex H H') : ∀ {v : V} {d : PyData}, Dp K H v d → Dp K H' v d
  | _, _, .non => .non
  | _, _, .bl b => .bl b
  | _, _, .int i => .int i
  | _, _, .str x => .str x
  | _, _, .lst h a => .lst (ex_l e h) (dps_mono e a)
  | _, _, .tup h a => .tup (ex_t e h) (dps_mono e a)
theorem dps_mono {K : PySem.W.Frag} {H H' : Hp} (e : Ex H H') : ∀ {vs : List V} {ds : List PyData}, DpAll K H vs ds → DpAll K H' vs ds
  | _, _, .nil => .nil
  | _, _, .cons a b => .cons (dp_mono e a) (dps_mono e b)
end
/-- small data: ints to 28, truth values -/
def Sm : PyData → Prop
  | .int i => 0 ≤ i ∧ i ≤ 28
  | .bool _ => True
  | _ => False
/-- what a law shows: a list of at most three small ones or tuples of at most three small ones -/
def Sh (d : PyData) : Prop := Sm d ∨ ∃ es, d = .tuple es ∧ es.length ≤ 3 ∧ ∀ e ∈ es, Sm e
theorem small_shown : ∀ n : Nat, n ≤ 28 → ((toString (n : Int) : Str)).length ≤ 4 ∧ (n : Int).natAbs.log2 < 1920 := by decide +kernel
theorem Sm.shown {d : PyData} (h : Sm d) : d.shown.length ≤ 5 := by
  match d, h with
  | .int i, h =>
    obtain ⟨n, rfl⟩ := Int.eq_ofNat_of_zero_le h.1
    exact Nat.le_succ_of_le (small_shown n (by have := h.2; omega)).1
  | .bool true, _ => decide +kernel
  | .bool false, _ => decide +kernel
theorem Sm.showable {d : PyData} (h : Sm d) : d.showable = true := by
  match d, h with
  | .int i, h =>
    obtain ⟨n, rfl⟩ := Int.eq_ofNat_of_zero_le h.1
    exact decide_eq_true (small_shown n (by have := h.2; omega)).2
  | .bool _, _ => rfl
theorem Sm.noDict {d : PyData} (h : Sm d) : d.hasDict = false ∧ d.depth = 0 := by
  match d, h with
  | .int i, h => exact ⟨rfl, rfl⟩
  | .bool _, _ => exact ⟨rfl, rfl⟩

theorem strs_len (x y : Str) : (x ++ y).length = x.length + y.length := Str.length_append ..
theorem list_len (ts : List Str) : (listText ts).length ≤ piled ts + 4 := by
  unfold listText
  rw [strs_len]
  have e1 : (Str.ofString "]").length = 1 := rfl
  cases ts with
  | nil => decide +kernel
  | cons a r =>
    have h := textFrom_length_pos r 1 (Str.ofString "[" ++ Str.ofString "" ++ a) (by decide)
    have e : textFrom 0 (Str.ofString "[") (a :: r) = textFrom 1 (Str.ofString "[" ++ Str.ofString "" ++ a) r := rfl
    rw [e, h, strs_len, strs_len, piled_cons, e1]
    have e2 : (Str.ofString "[").length = 1 := rfl
    have e3 : (Str.ofString "").length = 0 := rfl
    omega
theorem tuple_len (ts : List Str) : (tupleText ts).length ≤ piled ts + 4 := by
  unfold tupleText
  rw [strs_len, strs_len]
  have e1 : (Str.ofString "(").length = 1 := rfl
  have e2 : (Str.ofString (if (ts.length == 1) = true then ",)" else ")")).length ≤ 2 := by split <;> decide
  have e3 : (Str.join (Str.ofString ", ") ts).length ≤ piled ts := by
    cases ts with
    | nil => decide
    | cons a r =>
      have := join_length_add (a :: r) (by simp)
      omega
  omega
theorem piled_le (n : Nat) : ∀ ds : List PyData, (∀ d ∈ ds, d.shown.length ≤ n) → piled (PyData.shownAll ds) ≤ (n + 2) * ds.length
  | [], _ => Nat.zero_le _
  | d :: r, h => by
    have h1 := h d List.mem_cons_self
    have h2 := piled_le n r fun x hx => h x (List.mem_cons_of_mem _ hx)
    show piled (d.shown :: PyData.shownAll r) ≤ _
    rw [piled_cons, List.length_cons, Nat.mul_add, Nat.mul_one]
    omega
theorem all_of (ds : List PyData) (h : ∀ d ∈ ds, d.showable = true ∧ d.hasDict = false ∧ d.depth ≤ 5) : PyData.showableAll ds = true ∧ PyData.hasDictAll ds = false ∧ PyData.depthAll ds ≤ 5 := by
  induction ds with
  | nil => exact ⟨rfl, rfl, Nat.zero_le _⟩
  | cons d r ih =>
    obtain ⟨a, b, c⟩ := h d List.mem_cons_self
    obtain ⟨a', b', c'⟩ := ih fun x hx => h x (List.mem_cons_of_mem _ hx)
    refine ⟨?_, ?_, ?_⟩
    · show (d.showable && PyData.showableAll r) = true
      rw [a, a']; rfl
    · show (d.hasDict || PyData.hasDictAll r) = false
      rw [b, b']; rfl
    · show max d.depth (PyData.depthAll r) ≤ 5
      omega
theorem Sh.facts {d : PyData} (h : Sh d) : d.shown.length ≤ 30 ∧ d.showable = true ∧ d.hasDict = false ∧ d.depth ≤ 5 := by
  rcases h with h | ⟨es, rfl, few, hs⟩
  · exact ⟨Nat.le_trans h.shown (by decide), h.showable, h.noDict.1, by rw [h.noDict.2]; decide⟩
  · have h1 := piled_le 5 es fun d hd => (hs d hd).shown
    have h2 := tuple_len (PyData.shownAll es)
    obtain ⟨a, b, c⟩ := all_of es fun d hd => ⟨(hs d hd).showable, (hs d hd).noDict.1, by rw [(hs d hd).noDict.2]; decide⟩
    refine ⟨?_, a, b, ?_⟩
    · show (tupleText (PyData.shownAll es)).length ≤ 30
      omega
    · have c' : PyData.depthAll es = 0 := by
        clear h1 h2 a b c few
        induction es with
        | nil => rfl
        | cons d r ih =>
          show max d.depth (PyData.depthAll r) = 0
          rw [(hs d List.mem_cons_self).noDict.2, ih fun x hx => hs x (List.mem_cons_of_mem _ hx)]
          rfl
      show PyData.depthAll es + 1 ≤ 5
      omega
/-- what repr asks of a list that is shown -/
def Fine (d : PyData) : Prop := d.showable = true ∧ d.hasDict = false ∧ d.depth ≤ 20 ∧ d.shown.length ≤ sizeLine
theorem fine_list {ds : List PyData} (few : ds.length ≤ 3) (h : ∀ d ∈ ds, Sh d) : Fine (.list ds) := by
  obtain ⟨a, b, c⟩ := all_of ds fun d hd => (h d hd).facts.2
  refine ⟨a, b, by show PyData.depthAll ds + 1 ≤ 20; omega, ?_⟩
  have h1 := piled_le 30 ds fun d hd => (h d hd).facts.1
  have h2 := list_len (PyData.shownAll ds)
  show (listText (PyData.shownAll ds)).length ≤ sizeLine
  exact Nat.le_trans (by omega : _ ≤ 200) (by decide)

/-! ### what evaluates to data -/
section
variable {K : PySem.W.Frag} {σ : L2.St} {H : Hp} {te ta tb : TE} {t : TA}
def EvD (K : PySem.W.Frag) (te : TE) (σ : L2.St) (H : Hp) (d : PyData) : Prop := ∀ H1, Ex H H1 → ∀ Q : VK, (∀ v H2, Ex H1 H2 → Dp K H2 v d → Q v H2) → te σ H1 Q
def EvR (K : PySem.W.Frag) (te : TE) (σ : L2.St) (H : Hp) (d : PyData) : Prop := ∀ H1, Ex H H1 → ∀ Q : VK, (∀ p H2, Ex H1 H2 → Dp K H2 (.ref p) d → Q (.ref p) H2) → te σ H1 Q
def EvDs (K : PySem.W.Frag) (t : TA) (σ : L2.St) (H : Hp) (ds : List PyData) : Prop := ∀ H1, Ex H H1 → ∀ Q : List V → Hp → Prop, (∀ vs H2, Ex H1 H2 → DpAll K H2 vs ds → Q vs H2) → t σ H1 Q
theorem evds_nil : EvDs K tNil σ H [] := fun H1 _ Q q => q [] H1 (Ex.refl H1) .nil
theorem evds_cons {d : PyData} {ds : List PyData} (h : EvD K te σ H d) (hr : EvDs K t σ H ds) : EvDs K (tCons te t) σ H (d :: ds) := fun H1 e Q q =>
  h H1 e _ fun v H2 e2 dv => hr H2 (e.trans e2) _ fun vs H3 e3 dr => q _ H3 (e2.trans e3) (.cons (dp_mono e3 dv) dr)
theorem dps_len {H : Hp} : ∀ {vs : List V} {ds : List PyData}, DpAll K H vs ds → vs.length = ds.length
  | _, _, .nil => rfl
  | _, _, .cons _ b => congrArg (· + 1) (dps_len b)
theorem evr_lst {ds : List PyData} (h : EvDs K t σ H ds) (z : ds.length ≤ 1000) : EvR K (tLst t) σ H (.list ds) := fun H1 e Q q =>
  h H1 e _ fun vs H2 e2 dv => ⟨by rw [dps_len dv]; exact Nat.le_trans z (by decide), fun p hp => q p _ (e2.trans (Ex.new hp)) (.lst (sq_of upd_same) (dps_mono (Ex.new hp) dv))⟩
theorem evd_int {i : Int} (h : Ev te σ H (.int i)) : EvD K te σ H (.int i) := fun H1 e Q q => h H1 e _ fun H2 e2 => q _ H2 e2 (.int i)
theorem evd_bl {b : Bool} (h : Ev te σ H (.bl b)) : EvD K te σ H (.bool b) := fun H1 e Q q => h H1 e _ fun H2 e2 => q _ H2 e2 (.bl b)
/-- what stands for data at every later heap -/
theorem evd_ref {p : Addr} {d : PyData} (h : Ev te σ H (.ref p)) (hd : Dp K H (.ref p) d) : EvD K te σ H d := fun H1 e Q q => h H1 e _ fun H2 e2 => q _ H2 e2 (dp_mono (e.trans e2) hd)
def dInts (as : List Int) : List PyData := as.map PyData.int
theorem dp_ints {H : Hp} : ∀ as : List Int, DpAll K H (as.map V.int) (dInts as)
  | [] => .nil
  | a :: r => .cons (.int a) (dp_ints r)
theorem evd_tup {as : List Int} (h : EvU te σ H (as.map V.int)) : EvD K te σ H (.tuple (dInts as)) := fun H1 e Q q => h H1 e _ fun p H2 _ e2 hp => q _ H2 e2 (.tup (st_of hp) (dp_ints as))
theorem evd_rep2 {d : PyData} (h : EvD K te σ H d) : EvR K (tOp rRep (tLst (tCons te tNil)) (tC (.int 2))) σ H (.list [d, d]) := fun H1 e Q q =>
  h H1 e _ fun v H2 e2 dv => ⟨by show 1 ≤ sizeLine; decide, fun p hp => ⟨p, 2, [v], rfl, rfl, upd_same, by decide, by decide, by show 1 * 2 ≤ sizeLine; decide, fun r hr => by
    have e3 := (Ex.new (o := .lst [v]) hp).trans (Ex.new (o := .lst [v, v]) hr)
    exact q r _ (e2.trans e3) (.lst (sq_of upd_same) (.cons (dp_mono e3 dv) (.cons (dp_mono e3 dv) .nil)))⟩⟩
theorem et_shows {d : PyData} (f : Fine d) (h1 : EvR K ta σ H d) (h2 : EvR K tb σ H d) :
    EvT (tTest (tOp rNe (tCB (rRepr K) (tCons ta tNil)) (tCB (rRepr K) (tCons tb tNil)))) σ H false := fun H1 e Q q =>
  h1 H1 e _ fun p H2 e2 d1 => ⟨p, d, rfl, d1, f.1, f.2.1, f.2.2.1, f.2.2.2, h2 H2 (e.trans e2) _ fun p2 H3 e3 d2 =>
    ⟨p2, d, rfl, d2, f.1, f.2.1, f.2.2.1, f.2.2.2, rfl, false, by rw [decide_eq_true rfl]; rfl, q H3 (e2.trans e3)⟩⟩
/-- a test that fails: on -/
theorem q_pass {D : Ends} {t : TT} {tu tz : TS} (h : EvT t σ H false) (k : ∀ H1, Ex H H1 → tz D σ H1) : tSeq (tIfS t tu tNext) tz D σ H :=
  q_when h (fun z => nomatch z) fun _ => k
theorem s_pass {D : Ends} {t : TT} {tu : TS} (h : EvT t σ H false) (k : ∀ H1, Ex H H1 → D.nx σ H1) : tIfS t tu tNext D σ H :=
  s_when h (fun z => nomatch z) fun _ => k
theorem ev_defK {sp : Sp} {v : V} {vs : List V} (h : EvA t σ H vs) (hs : ∀ H1, Ex H H1 → ∀ Q : VK, (∀ H2, Ex H1 H2 → Q v H2) → sp vs.reverse H1 Q E0) : Ev (tDefK sp t) σ H v :=
  fun H1 e Q q => h H1 e _ fun H2 e2 => hs H2 (e.trans e2) Q fun H3 e3 => q H3 (e2.trans e3)
theorem eu_def {sp : Sp} {xs vs : List V} (h : EvA t σ H vs) (hs : ∀ H1, Ex H H1 → ∀ Q : VK, (∀ p H2, H1 p = none → Ex H1 H2 → H2 p = some (.tup xs) → Q (.ref p) H2) → sp vs H1 Q E0) : EvU (tDef sp t) σ H xs :=
  fun H1 e Q q => h H1 e _ fun H2 e2 => hs H2 (e.trans e2) Q fun p H3 hp e3 h3 => q p H3 (fresh_back e2 hp) (e2.trans e3) h3
theorem eu_defK {sp : Sp} {xs vs : List V} (h : EvA t σ H vs) (hs : ∀ H1, Ex H H1 → ∀ Q : VK, (∀ p H2, H1 p = none → Ex H1 H2 → H2 p = some (.tup xs) → Q (.ref p) H2) → sp vs.reverse H1 Q E0) : EvU (tDefK sp t) σ H xs :=
  fun H1 e Q q => h H1 e _ fun H2 e2 => hs H2 (e.trans e2) Q fun p H3 hp e3 h3 => q p H3 (fresh_back e2 hp) (e2.trans e3) h3
theorem el_def {sp : Sp} {xs vs : List V} (h : EvA t σ H vs) (hs : ∀ H1, Ex H H1 → ∀ Q : VK, (∀ p H2, H1 p = none → Ex H1 H2 → H2 p = some (.lst xs) → Q (.ref p) H2) → sp vs H1 Q E0) : EvL (tDef sp t) σ H xs :=
  fun H1 e Q q => h H1 e _ fun H2 e2 => hs H2 (e.trans e2) Q fun p H3 hp e3 h3 => q p H3 (fresh_back e2 hp) (e2.trans e3) h3
end
end Tv

namespace Tv
open PySem PySem.Spec PyProof.Rows L2 Evl
/-! ### rows of anything, all ways to take one of each lot -/
abbrev IsRowV (H : Hp) (x : V) (r : List V) : Prop := ∃ a, x = .ref a ∧ H a = some (.tup r)
abbrev RowsV (H : Hp) (xs : List V) (L : List (List V)) : Prop := Paired (IsRowV H) xs L
theorem RowsV.mono {H H' : Hp} (e : Ex H H') : ∀ {xs : List V} {L : List (List V)}, RowsV H xs L → RowsV H' xs L
  | _, _, .nil => .nil
  | _, _, .cons ⟨a, h1, h2⟩ t => .cons ⟨a, h1, e _ _ h2⟩ (RowsV.mono e t)
theorem RowsV.but {p : Addr} {H H' : Hp} (e : ∀ b o, b ≠ p → H b = some o → H' b = some o) (np : ∀ l, H p ≠ some (.tup l)) : ∀ {xs : List V} {L : List (List V)}, RowsV H xs L → RowsV H' xs L
  | _, _, .nil => .nil
  | _, _, .cons ⟨a, h1, h2⟩ t => .cons ⟨a, h1, e _ _ (fun z => np _ (z ▸ h2)) h2⟩ (RowsV.but e np t)
theorem RowsV.len {H : Hp} {xs : List V} {L : List (List V)} (r : RowsV H xs L) : xs.length = L.length := Paired.length r
theorem RowsV.append {H : Hp} : ∀ {xs ys : List V} {L M : List (List V)}, RowsV H xs L → RowsV H ys M → RowsV H (xs ++ ys) (L ++ M)
  | _, _, _, _, .nil, s => s
  | _, _, _, _, .cons r t, s => .cons r (RowsV.append t s)
theorem RowsV.get {H : Hp} : ∀ {xs : List V} {L : List (List V)} {i : Nat} {x : V}, RowsV H xs L → xs[i]? = some x → ∃ as, L[i]? = some as ∧ IsRowV H x as
  | _, _, _, _, .nil, h => by simp at h
  | _, _, 0, _, .cons r t, h => by simp at h; subst h; exact ⟨_, rfl, r⟩
  | _, _, i + 1, _, .cons r t, h => by
    obtain ⟨as, h1, h2⟩ := RowsV.get (i := i) t (by simpa using h)
    exact ⟨as, by simpa using h1, h2⟩
theorem Rows.ofV {H : Hp} : ∀ {xs : List V} {L : List (List Nat)}, RowsV H xs (L.map iv) → Rows H xs L
  | _, [], .nil => .nil
  | _, _ :: _, .cons r t => .cons r (Rows.ofV t)
theorem Rows.toV {H : Hp} : ∀ {xs : List V} {L : List (List Nat)}, Rows H xs L → RowsV H xs (L.map iv)
  | _, _, .nil => .nil
  | _, _, .cons r t => .cons r (Rows.toV t)
def grow (r : List V) (xs : List V) : List (List V) := xs.map fun x => r ++ [x]
def growAll (L : List (List V)) (xs : List V) : List (List V) := L.flatMap fun r => grow r xs
def ways (xss : List (List V)) : List (List V) := xss.foldl growAll [[]]
theorem ways_snoc (xss : List (List V)) (xs : List V) : ways (xss ++ [xs]) = growAll (ways xss) xs := by simp [ways]
theorem ways_take {xss : List (List V)} {i : Nat} {xs : List V} (h : xss[i]? = some xs) : ways (xss.take (i + 1)) = growAll (ways (xss.take i)) xs := by
  rw [List.take_succ, h]
  exact ways_snoc _ _
theorem growAll_len (L : List (List V)) (xs : List V) : (growAll L xs).length = L.length * xs.length := by
  unfold growAll grow
  induction L with
  | nil => simp
  | cons a r ih =>
    rw [List.flatMap_cons, List.length_append, ih, List.length_cons, Nat.succ_mul, List.length_map]
    omega
theorem ways_row : ∀ {xss : List (List V)} {r : List V}, r ∈ ways xss → r.length = xss.length := by
  intro xss
  induction h : xss.length generalizing xss with
  | zero =>
    intro r hr
    obtain rfl := List.eq_nil_of_length_eq_zero h
    simp [ways] at hr
    subst hr
    rfl
  | succ n ih =>
    intro r hr
    have ne : xss ≠ [] := fun e => by rw [e] at h; cases h
    rw [← List.dropLast_concat_getLast ne, ways_snoc] at hr
    unfold growAll grow at hr
    obtain ⟨q, hq, hr⟩ := List.mem_flatMap.mp hr
    obtain ⟨x, _, rfl⟩ := List.mem_map.mp hr
    have := ih (xss := xss.dropLast) (by rw [List.length_dropLast]; omega) hq
    rw [List.length_append, this]
    rfl
theorem grow_take {L : List (List V)} {xs : List V} {i : Nat} {r : List V} (h : L[i]? = some r) : growAll (L.take (i + 1)) xs = growAll (L.take i) xs ++ grow r xs := by
  unfold growAll
  rw [List.take_succ, h, List.flatMap_append]
  simp
theorem grow_one {r xs : List V} {m : Nat} {x : V} (h : xs[m]? = some x) : grow r (xs.take (m + 1)) = grow r (xs.take m) ++ [r ++ [x]] := by
  unfold grow
  rw [List.take_succ, h, List.map_append]
  rfl
theorem ways_iv : ∀ n : Nat, ways (List.replicate n (iv [0, 1, 2])) = (tups n).map iv
  | 0 => rfl
  | n + 1 => by
    rw [List.replicate_succ', ways_snoc, ways_iv n, tups_succ]
    unfold growAll
    rw [List.flatMap_map, List.map_flatMap]
    congr 1
    funext r
    show grow (iv r) (iv [0, 1, 2]) = (ext r).map iv
    unfold grow ext iv
    simp
/-- tuple + a tuple of one: a row more, of anything -/
theorem catA_rowV {K : PySem.W.Frag} {H : Hp} {x y : V} {as : List V} (r : IsRowV H x as) (z : as.length ≤ 100) {q : Addr} (hq : H q = some (.tup [y])) {Q : VK}
    (h : ∀ u H', Ex H H' → IsRowV H' u (as ++ [y]) → Q u H') : rCatA K x (.ref q) H Q := by
  obtain ⟨a, rfl, ha⟩ := r
  refine ⟨a, q, _, _, rfl, rfl, SqT.of ha, SqT.of hq, ?_, fun e => ?_, fun _ e => (by cases e), fun _ _ p hp => ?_⟩
  · exact Nat.le_trans (Nat.add_le_add_right z 1) (by decide)
  · refine h (.ref q) H (Ex.refl H) ⟨q, rfl, ?_⟩
    rw [hq, e]
    rfl
  · exact h (.ref p) _ (Ex.new hp) ⟨p, rfl, upd_same⟩
/-- the inner clause's invariant: the new rows so far -/
abbrev Grown (D : Addr) (H2 : Hp) (L : List (List V)) (xs : List V) (j : Nat) (r : List V) (m : Nat) (H4 : Hp) : Prop :=
  Ex H2 H4 ∧ ∃ zs, H4 D = some (.lst zs) ∧ RowsV H4 zs (growAll (L.take j) xs ++ grow r (xs.take m))
theorem grown_turn {K : PySem.W.Frag} {D : Addr} {H2 H4 : Hp} {L : List (List V)} {xs ys : List V} {j : Nat} {r : List V} {m : Nat} {x y : V} {tr tx : TE} {σ : L2.St} (hD : H2 D = none)
    (R : RowsV H2 ys L) (at_j : ys[j]? = some x) (at_r : L[j]? = some r) (at_y : xs[m]? = some y) (short : r.length ≤ 100) (few : L.length * xs.length ≤ 60000) (p : Grown D H2 L xs j r m H4)
    (evr : Ev tr σ H2 x) (evx : Ev tx σ H4 y) :
    (tOp (rCatA K) tr (tTup (tCons tx tNil))) σ H4 fun y H5 => ∃ acc, H5 D = some (.lst acc) ∧ acc.length < sizeLine ∧ Grown D H2 L xs j r (m + 1) (upd H5 D (.lst (acc ++ [y]))) := by
  obtain ⟨e4, zs, hD4, R4⟩ := p
  refine evr H4 e4 _ fun H5 e5 => ?_
  refine evx H5 e5 _ fun H6 e6 => ⟨by show 1 ≤ sizeLine; decide, fun q hq => ?_⟩
  have e46 := (e5.trans e6).trans (Ex.new (o := .tup [y]) hq)
  have rx : IsRowV (upd H6 q (.tup [y])) x r := by
    obtain ⟨as, g1, g2⟩ := (R.mono (e4.trans e46)).get at_j
    rw [at_r] at g1
    cases g1
    exact g2
  refine catA_rowV rx short upd_same fun u H7 e7 ru => ?_
  have e47 := e46.trans e7
  refine ⟨zs, e47 _ _ hD4, ?_, Ex.mut (e4.trans e47) hD, zs ++ [u], upd_same, ?_⟩
  · rw [R4.len, List.length_append, growAll_len]
    have s1 : (grow r (xs.take m)).length ≤ xs.length := by unfold grow; rw [List.length_map, List.length_take]; omega
    have jl := (List.getElem?_eq_some_iff.mp at_r).1
    have s2 : (L.take j).length + 1 ≤ L.length := by rw [List.length_take]; omega
    have s3 : ((L.take j).length + 1) * xs.length ≤ 60000 := Nat.le_trans (Nat.mul_le_mul_right _ s2) few
    rw [Nat.succ_mul] at s3
    exact Nat.lt_of_le_of_lt (by omega : _ ≤ 60000) (by decide)
  · rw [grow_one at_y, ← List.append_assoc]
    refine RowsV.append ?_ (.cons ?_ .nil)
    · exact (R4.mono e47).but (p := D) (fun b o nb h => by rw [upd_ne nb]; exact h) (fun l h => by rw [e47 _ _ hD4] at h; cases h)
    · obtain ⟨ya, rfl, hya⟩ := ru
      exact ⟨ya, rfl, by rw [upd_ne (fun z => by rw [z, e47 _ _ hD4] at hya; cases hya)]; exact hya⟩
theorem grown_end {D : Addr} {H2 H4 : Hp} {L : List (List V)} {xs : List V} {j : Nat} {r : List V} (at_r : L[j]? = some r) (p : Grown D H2 L xs j r xs.length H4) :
    Ex H2 H4 ∧ ∃ ys, H4 D = some (.lst ys) ∧ RowsV H4 ys (growAll (L.take (j + 1)) xs) := by
  obtain ⟨e4, zs, hD4, R4⟩ := p
  refine ⟨e4, zs, hD4, ?_⟩
  rw [grow_take at_r]
  rw [List.take_length] at R4
  exact R4
/-- an inner clause over a text's signs -/
theorem lc2_str {x : Str} {H0 : Hp} {Qd : Hp → Prop} {Bd : V → Hp → (Hp → Prop) → Prop} (Pv : Nat → Hp → Prop) (h0 : Pv 0 H0)
    (hs : ∀ i c H, x.cps[i]? = some c → Pv i H → Bd (.str ⟨#[c]⟩) H (Pv (i + 1))) (hd : ∀ H, Pv x.cps.size H → Qd H) :
    ∃ W : Nat → Nat → Hp → Prop, (∃ m, W 0 m H0) ∧ ∀ i m H, W i m H → ((Its x).stop i H ∧ Qd H) ∨
      ((Its x).go i H ∧ ∃ Nx : Hp → Prop, (∀ H', Nx H' → ∃ m', m' < m ∧ W (i + 1) m' H') ∧ ∀ x_1 H', (Its x).yld i H x_1 H' → Bd x_1 H' Nx) := by
  refine ⟨fun i m H => m = x.cps.size - i ∧ i ≤ x.cps.size ∧ Pv i H, ⟨_, rfl, Nat.zero_le _, h0⟩, ?_⟩
  rintro i m H ⟨rfl, le, p⟩
  by_cases lt : i < x.cps.size
  · refine Or.inr ⟨lt, Pv (i + 1), fun H' p' => ⟨x.cps.size - (i + 1), by omega, rfl, lt, p'⟩, ?_⟩
    rintro v H' ⟨rfl, c, hc, rfl⟩
    exact hs i c _ hc p
  · obtain rfl : i = x.cps.size := by omega
    exact Or.inl ⟨Nat.le_refl _, hd H p⟩
/-- a text's signs as values -/
def signsOf (x : Str) : List V := x.cps.toList.map fun c => V.str ⟨#[c]⟩
theorem signsOf_at {x : Str} {i c : Nat} (h : x.cps[i]? = some c) : (signsOf x)[i]? = some (.str ⟨#[c]⟩) := by
  unfold signsOf
  rw [List.getElem?_map, Array.getElem?_toList, h]
  rfl
theorem signsOf_len (x : Str) : (signsOf x).length = x.cps.size := by simp [signsOf]
/-- a list n times -/
theorem el_repN {K : PySem.W.Frag} {σ : L2.St} {H : Hp} {ta tb : TE} {xs : List V} {n : Nat} (h : EvL ta σ H xs) (h2 : Ev tb σ H (.int (n : Int))) (z : xs.length * n ≤ 3000) (n2 : n ≤ 1000) :
    EvL (tOp rRep ta tb) σ H (List.replicate n xs).flatten := fun H1 e Q q => h H1 e _ fun p H2 hp e2 hx => h2 H2 (e.trans e2) _ fun H3 e3 =>
  ⟨p, (n : Int), xs, rfl, rfl, e3 _ _ hx, by omega, by omega, by rw [Int.toNat_natCast]; exact Nat.le_trans z (by decide), fun r hr => q r _ (fresh_back (e2.trans e3) hr) ((e2.trans e3).trans (Ex.new hr)) (by
    rw [upd_same, Int.toNat_natCast])⟩
theorem flat_one {α : Type} (n : Nat) (x : α) : (List.replicate n [x]).flatten = List.replicate n x := by
  induction n with
  | zero => rfl
  | succ n ih => rw [List.replicate_succ, List.flatten_cons, ih, List.replicate_succ]; rfl
end Tv

namespace Tv
open PySem PySem.Spec PyProof.Rows L2
/-! ### zip(*texts) where the tuple goes to one name -/
abbrev zipObj (f0 b1 : Value) (TI TO : Addr) : Obj := { cls := .type "zip", dict := none, data := .fields #[f0, b1, .bool false, .ref TI, .ref TO], slots := #[] }
/-- what the zip says of the tuple that it gave last: nothing, or where it stands -/
def Owned (f0 : Value) : Prop := f0 = .none ∨ ∃ T : Nat, f0 = rawInt (T : Nat)
def Twice (b1 : Value) : Prop := b1 = .bool false ∨ b1 = .bool true
section
variable {prog : Program} {w : World} {A : Around} {E : Value → Shared → Prop} {s : Shared}
theorem alive_look {a : Addr} {Q : Option Obj → Shared → Prop} (h : Q (s.heap.get? a) s) : wpAny (model prog w) A (loadIfAlive a) Q E s := fun Γ p _ => by
  show Sem.wp _ _ (.loadIfAlive a .pure) _ _ _ _
  rw [Sem.wp_loadIfAlive]
  exact (Sem.wp_pure ..).mpr h
theorem str_at {h h' : Heap} {a : Addr} {ty : String} {x : Str} {t : Tok} {i : Nat} (S : h.IsStrIter a ty x t i) (k : ∀ o, h.get? a = some o → h'.get? a = some o) : h'.IsStrIter a ty x t i :=
  let ⟨o, e, r⟩ := S; ⟨o, k o e, r⟩
theorem same_self (z : Addr) (h : Heap) : Heap.SameBut z h h := ⟨rfl, fun _ _ => rfl⟩
theorem free_or_not {z TI TO : Addr} {f0 b1 : Value} {Q : Bool → Shared → Prop} (at_z : s.heap.get? z = some (zipObj f0 b1 TI TO)) (own : Owned f0) (twice : Twice b1)
    (k : ∀ b h' b2, h'.get? z = some (zipObj f0 b2 TI TO) → Twice b2 → Heap.SameBut z s.heap h' → Q b { s with heap := h' }) :
    wpAny (model prog w) A (Builtin.SmallTypes.ownedTupleIsFree (.ref z)) Q E s := by
  unfold Builtin.SmallTypes.ownedTupleIsFree
  refine wpAny_bind (wpAny_field at_z rfl (x := f0) rfl ?_)
  rcases own with rfl | ⟨T, rfl⟩
  · exact wpAny_pure (k true s.heap b1 at_z twice (same_self ..))
  · show wpAny _ _ (loadIfAlive T >>= _) _ _ _
    refine wpAny_bind (alive_look ?_)
    cases s.heap.get? T with
    | none => exact wpAny_pure (k true s.heap b1 at_z twice (same_self ..))
    | some o =>
      show wpAny _ _ (field (.ref z) 1 >>= _) _ _ _
      refine wpAny_bind (wpAny_field at_z rfl (x := b1) rfl ?_)
      rcases twice with rfl | rfl
      · show wpAny _ _ (setField (.ref z) 1 (.bool true) >>= _) _ _ _
        refine wpAny_bind (wpAny_setField_rec at_z (by simp) fun h' at_z' same => ?_)
        exact wpAny_pure (k false h' (.bool true) at_z' (.inr rfl) same)
      · exact wpAny_pure (k false s.heap (.bool true) at_z (.inr rfl) (same_self ..))
end

/-- 1 texts drawn side by side: the cells, at the turn i -/
structure Side1 (h : Heap) (z TI TO : Addr) (i1 : Addr) (x1 : Str) (t1 : Tok) (i : Nat) : Prop where
  zip : ∃ f0 b1, h.get? z = some (zipObj f0 b1 TI TO) ∧ Owned f0 ∧ Twice b1
  src : h.get? TI = some { cls := .type "tuple", data := .seq #[.ref i1] }
  out : ∃ v1, h.get? TO = some { cls := .type "tuple", data := .seq #[v1] }
  it1 : h.IsStrIter i1 "str_ascii_iterator" x1 t1 i
section
variable {prog : Program} {w : World} {A : Around} {E : Value → Shared → Prop} {s : Shared} {z TI TO i1 : Addr} {x1 : Str} {t1 : Tok} {i : Nat}
theorem side1_keep {h h' : Heap} (S : Side1 h z TI TO i1 x1 t1 i) (k : ∀ b ∈ [z, TI, TO, i1], ∀ o, h.get? b = some o → h'.get? b = some o) : Side1 h' z TI TO i1 x1 t1 i := by
  obtain ⟨⟨f0, b1, a1, a2, a3⟩, b, ⟨v1, c⟩, d1⟩ := S
  exact ⟨⟨f0, b1, k _ (by simp) _ a1, a2, a3⟩, k _ (by simp) _ b, ⟨v1, k _ (by simp) _ c⟩, str_at d1 fun o q => k _ (by simp) o q⟩
theorem side1_item (hh : A.handled = none) (apart : [z, TI, TO, i1].Nodup) (S : Side1 s.heap z TI TO i1 x1 t1 i) {c1 : Nat} (h1 : x1.cps[i]? = some c1) {Q : Value → Shared → Prop}
    (got : ∀ h' tk u1, Side1 h' z TI TO i1 x1 t1 (i + 1) → h'.get? s.heap.objs.size = some { cls := .type "tuple", data := .seq #[.str ⟨#[c1]⟩ u1] } → h'.objs.size = s.heap.objs.size + 1 →
      (∀ b o, b ≠ z → b ≠ TO → b ≠ i1 → s.heap.get? b = some o → h'.get? b = some o) → Q (.ref s.heap.objs.size) { s with heap := h', toks := tk }) :
    wpAny (model prog w) A (Builtin.«zip.__next__» ⟨[.ref z], []⟩) (fun fin s' => ∃ v, fin = .done (.ret v) ∧ Q v s') E s := by
  have ne_z_TI : z ≠ TI := by rintro rfl; simp at apart
  have ne_z_TO : z ≠ TO := by rintro rfl; simp at apart
  have ne_z_i1 : z ≠ i1 := by rintro rfl; simp at apart
  have ne_TI_TO : TI ≠ TO := by rintro rfl; simp at apart
  have ne_TI_i1 : TI ≠ i1 := by rintro rfl; simp at apart
  have ne_TO_i1 : TO ≠ i1 := by rintro rfl; simp at apart
  obtain ⟨hp, g, d, tk0, os⟩ := s
  obtain ⟨⟨f0, b1, at_z, own, twice⟩, at_src, ⟨v1, at_out⟩, d1⟩ := S
  show wpAny _ _ (field (.ref z) 2 >>= _) _ _ _
  refine wpAny_bind (wpAny_field at_z rfl (x := .bool false) rfl ?_)
  show wpAny _ _ (field (.ref z) 3 >>= _) _ _ _
  refine wpAny_bind (wpAny_field at_z rfl (x := .ref TI) rfl (wpAny_bind (wpAny_seqItems at_src rfl ?_)))
  show wpAny _ _ (Builtin.SmallTypes.ownedTupleIsFree (.ref z) >>= _) _ _ _
  refine wpAny_bind (free_or_not at_z own twice fun b hx b2 at_z1 twice2 same1 => ?_)
  replace same1 : Heap.SameBut z hp hx := same1
  have out1 := same1.extBut _ _ ne_z_TO.symm at_out
  have src1 := same1.extBut _ _ ne_z_TI.symm at_src
  have e1 : hx.IsStrIter i1 "str_ascii_iterator" x1 t1 i := d1.extBut same1.extBut ne_z_i1.symm
  cases b with
  | true =>
    simp only [if_true]
    refine wpAny_bind (wpAny_rule (wpAny_bind (wpAny_field (s := ⟨hx, g, d, tk0, os⟩) at_z1 rfl (x := .ref TO) rfl (wpAny_bind (wpAny_setField_rec (s := ⟨hx, g, d, tk0, os⟩) at_z1 (by simp) fun j0 at_zj samej => ?_)))))
    replace at_zj : j0.get? z = some (zipObj .ellipsis b2 TI TO) := at_zj
    replace samej : Heap.SameBut z hx j0 := samej
    have out_0 := samej.extBut _ _ ne_z_TO.symm out1
    refine wpAny_bind ?_
    simp only [List.zipIdx_cons, List.zipIdx_nil, List.forIn_cons, List.forIn_nil]
    refine wpAny_bind (wpAny_bind (wpAny_onRaise ?_))
    show wpAny _ _ (Builtin.SmallTypes.nextOf (.ref i1) >>= _) _ _ ⟨j0, g, d, tk0, os⟩
    refine wpAny_bind (wpAny_nextOf_ascii_item (s := ⟨j0, g, d, tk0, os⟩) ((e1).extBut samej.extBut ne_z_i1.symm) h1 fun p1 new1 samep1 => wpAny_pure ?_)
    replace samep1 : Heap.SameBut i1 j0 p1 := samep1
    have mid1 := samep1.extBut _ _ ne_TO_i1 out_0
    refine wpAny_bind (wpAny_seqItems (s := ⟨p1, g, d, tk0 + 1, os⟩) mid1 rfl (wpAny_bind (wpAny_updateSeq (s := ⟨p1, g, d, tk0 + 1, os⟩) mid1 rfl ?_)))
    generalize eq1 : p1.update TO _ = j1
    have out_1 : j1.get? TO = some { cls := .type "tuple", data := .seq #[.str ⟨#[c1]⟩ (tk0)] } := by
      rw [← eq1, Heap.get?_update_self _ mid1 rfl]
      simp [Obj.mapSeq]
    have sameo1 : Heap.SameBut TO p1 j1 := by rw [← eq1]; exact Heap.SameBut.update ..
    refine wpAny_bind (wpAny_letGo (wpAny_pure (wpAny_pure ?_)))
    refine wpAny_bind (wpAny_seqItems (s := ⟨j1, g, d, tk0 + 1, os⟩) out_1 rfl (wpAny_bind (wpAny_newTuple ?_)))
    have at_zn : j1.get? z = some (zipObj .ellipsis b2 TI TO) := (sameo1.extBut _ _ ne_z_TO (samep1.extBut _ _ ne_z_i1 at_zj))
    have size_n : j1.objs.size = hp.objs.size := by rw [sameo1.1, samep1.1, samej.1, same1.1]
    have lt_z : z < j1.objs.size := Heap.lt_size at_zn
    show wpAny _ _ (Builtin.SmallTypes.ownedTupleHandOut (.ref z) (.ref j1.objs.size) >>= _) _ _ ⟨j1.push { cls := .type "tuple", data := .seq #[.str ⟨#[c1]⟩ (tk0)] }, g, d, tk0 + 1, os⟩
    refine wpAny_bind ?_
    unfold Builtin.SmallTypes.ownedTupleHandOut
    have at_zt : (j1.push { cls := .type "tuple", data := .seq #[.str ⟨#[c1]⟩ (tk0)] }).get? z = some (zipObj .ellipsis b2 TI TO) := Heap.get?_push_of_some _ at_zn
    refine wpAny_bind (wpAny_setField_rec at_zt (by simp) fun m1 at_m1 same_m1 => ?_)
    replace at_m1 : m1.get? z = some (zipObj (rawInt j1.objs.size) b2 TI TO) := at_m1
    refine wpAny_setField_rec at_m1 (by simp) fun m2 at_m2 same_m2 => ?_
    replace at_m2 : m2.get? z = some (zipObj (rawInt j1.objs.size) (.bool false) TI TO) := at_m2
    replace same_m1 : Heap.SameBut z (j1.push { cls := .type "tuple", data := .seq #[.str ⟨#[c1]⟩ (tk0)] }) m1 := same_m1
    replace same_m2 : Heap.SameBut z m1 m2 := same_m2
    have up : ∀ b o, b ≠ z → j1.get? b = some o → m2.get? b = some o := fun b o c e => same_m2.extBut _ _ c (same_m1.extBut _ _ c (Heap.get?_push_of_some _ e))
    refine wpAny_pure ⟨_, rfl, ?_⟩
    have made := same_m2.extBut _ _ (Nat.ne_of_gt lt_z) (same_m1.extBut _ _ (Nat.ne_of_gt lt_z) (Heap.get?_push_size j1 (o := { cls := .type "tuple", data := .seq #[.str ⟨#[c1]⟩ (tk0)] }) rfl))
    have size_m : m2.objs.size = hp.objs.size + 1 := by rw [same_m2.1, same_m1.1, Heap.size_push, size_n]
    rw [size_n] at made
    show Q (.ref j1.objs.size) ⟨m2, g, d, tk0 + 1, os⟩
    rw [size_n]
    refine got m2 (tk0 + 1) (tk0) ⟨⟨_, _, at_m2, .inr ⟨_, rfl⟩, .inl rfl⟩, up _ _ ne_z_TI.symm ((sameo1.extBut _ _ ne_TI_TO (samep1.extBut _ _ ne_TI_i1 (samej.extBut _ _ ne_z_TI.symm src1)))), ⟨_, up _ _ ne_z_TO.symm out_1⟩, str_at ((new1).extBut sameo1.extBut ne_TO_i1.symm) fun o q => up _ o ne_z_i1.symm q⟩ made size_m fun b o cz cT n1 e => up b o cz ((sameo1.extBut _ _ cT (samep1.extBut _ _ n1 (samej.extBut _ _ cz (same1.extBut _ _ cz e)))))
  | false =>
    simp only [Bool.false_eq_true, if_false]
    refine wpAny_bind ?_
    simp only [List.forIn_toArray, List.forIn_cons, List.forIn_nil]
    refine wpAny_bind (wpAny_bind (wpAny_holding ?_))
    show wpAny _ _ (Builtin.SmallTypes.nextOf (.ref i1) >>= _) _ _ ⟨hx, g, d, tk0, os⟩
    refine wpAny_bind (wpAny_nextOf_ascii_item (s := ⟨hx, g, d, tk0, os⟩) (e1) h1 fun p1 new1 samep1 => wpAny_pure (wpAny_pure (wpAny_pure ?_)))
    replace samep1 : Heap.SameBut i1 hx p1 := samep1
    have size_n : p1.objs.size = hp.objs.size := by rw [samep1.1, same1.1]
    refine wpAny_bind (wpAny_newTuple (hsz := by show 1 ≤ sizeLine; decide) (wpAny_pure ⟨_, rfl, ?_⟩))
    have made := Heap.get?_push_size p1 (o := { cls := .type "tuple", data := .seq #[.str ⟨#[c1]⟩ (tk0)] }) rfl
    show Q (.ref p1.objs.size) ⟨p1.push { cls := .type "tuple", data := .seq #[.str ⟨#[c1]⟩ (tk0)] }, g, d, tk0 + 1, os⟩
    rw [size_n] at made ⊢
    refine got _ (tk0 + 1) (tk0) ⟨⟨_, _, Heap.get?_push_of_some _ ((samep1.extBut _ _ ne_z_i1 at_z1)), own, twice2⟩, Heap.get?_push_of_some _ ((samep1.extBut _ _ ne_TI_i1 src1)), ⟨_, Heap.get?_push_of_some _ ((samep1.extBut _ _ ne_TO_i1 out1))⟩, str_at (new1) fun o q => Heap.get?_push_of_some _ q⟩ made (by rw [Heap.size_push, size_n]) fun b o cz cT n1 e => Heap.get?_push_of_some _ ((samep1.extBut _ _ n1 (same1.extBut _ _ cz e)))
theorem side1_end (hh : A.handled = none) (apart : [z, TI, TO, i1].Nodup) (S : Side1 s.heap z TI TO i1 x1 t1 i) (h1 : x1.cps[i]? = none) {Q : Fin → Shared → Prop}
    (fin : ∀ h' e, (∀ b o, b ≠ z → b ≠ TO → b ≠ i1 → s.heap.get? b = some o → h'.get? b = some o) → (∃ o, h'.get? e = some o ∧ o.cls = .type "StopIteration") → E (.ref e) { s with heap := h' }) :
    wpAny (model prog w) A (Builtin.«zip.__next__» ⟨[.ref z], []⟩) Q E s := by
  have ne_z_TI : z ≠ TI := by rintro rfl; simp at apart
  have ne_z_TO : z ≠ TO := by rintro rfl; simp at apart
  have ne_z_i1 : z ≠ i1 := by rintro rfl; simp at apart
  have ne_TI_TO : TI ≠ TO := by rintro rfl; simp at apart
  have ne_TI_i1 : TI ≠ i1 := by rintro rfl; simp at apart
  have ne_TO_i1 : TO ≠ i1 := by rintro rfl; simp at apart
  obtain ⟨hp, g, d, tk0, os⟩ := s
  obtain ⟨⟨f0, b1, at_z, own, twice⟩, at_src, ⟨v1, at_out⟩, d1⟩ := S
  show wpAny _ _ (field (.ref z) 2 >>= _) _ _ _
  refine wpAny_bind (wpAny_field at_z rfl (x := .bool false) rfl ?_)
  show wpAny _ _ (field (.ref z) 3 >>= _) _ _ _
  refine wpAny_bind (wpAny_field at_z rfl (x := .ref TI) rfl (wpAny_bind (wpAny_seqItems at_src rfl ?_)))
  show wpAny _ _ (Builtin.SmallTypes.ownedTupleIsFree (.ref z) >>= _) _ _ _
  refine wpAny_bind (free_or_not at_z own twice fun b hx b2 at_z1 twice2 same1 => ?_)
  replace same1 : Heap.SameBut z hp hx := same1
  have e1 : hx.IsStrIter i1 "str_ascii_iterator" x1 t1 i := d1.extBut same1.extBut ne_z_i1.symm
  cases b with
  | true =>
    simp only [if_true]
    refine wpAny_bind (wpAny_rule (wpAny_bind (wpAny_field (s := ⟨hx, g, d, tk0, os⟩) at_z1 rfl (x := .ref TO) rfl (wpAny_bind (wpAny_setField_rec (s := ⟨hx, g, d, tk0, os⟩) at_z1 (by simp) fun j0 at_zj samej => ?_)))))
    replace at_zj : j0.get? z = some (zipObj .ellipsis b2 TI TO) := at_zj
    replace samej : Heap.SameBut z hx j0 := samej
    refine wpAny_bind ?_
    simp only [List.zipIdx_cons, List.zipIdx_nil, List.forIn_cons, List.forIn_nil]
    refine wpAny_bind (wpAny_bind (wpAny_onRaise ?_))
    show wpAny _ _ (Builtin.SmallTypes.nextOf (.ref i1) >>= _) _ _ ⟨j0, g, d, tk0, os⟩
    refine wpAny_bind (wpAny_nextOf_ascii_end (s := ⟨j0, g, d, tk0, os⟩) hh (e1.extBut samej.extBut ne_z_i1.symm) h1 fun p1 e samep ⟨oe, at_e, cls_e⟩ => ?_)
    replace samep : Heap.ExtBut i1 j0 p1 := samep
    have at_zp : p1.get? z = some (zipObj .ellipsis b2 TI TO) := samep _ _ ne_z_i1 at_zj
    have e_z : e ≠ z := fun q => by rw [q] at at_e; rw [at_zp] at at_e; cases at_e; simp at cls_e
    refine wpAny_setField_rec (s := ⟨p1, g, d, tk0, os⟩) at_zp (by simp) fun p2 _ same2 => ?_
    exact fin p2 e (fun b o cz _ n1  q => same2.extBut _ _ cz (samep _ _ n1 (samej.extBut _ _ cz (same1.extBut _ _ cz q)))) ⟨oe, same2.extBut _ _ e_z at_e, cls_e⟩
  | false =>
    simp only [Bool.false_eq_true, if_false]
    refine wpAny_bind ?_
    simp only [List.forIn_toArray, List.forIn_cons, List.forIn_nil]
    refine wpAny_bind (wpAny_bind (wpAny_holding ?_))
    show wpAny _ _ (Builtin.SmallTypes.nextOf (.ref i1) >>= _) _ _ ⟨hx, g, d, tk0, os⟩
    refine wpAny_bind (wpAny_nextOf_ascii_end (s := ⟨hx, g, d, tk0, os⟩) hh e1 h1 fun p1 e samep there => ?_)
    replace samep : Heap.ExtBut i1 hx p1 := samep
    exact fin p1 e (fun b o cz _ n1  q => samep _ _ n1 (same1.extBut _ _ cz q)) there
theorem next1_item (hh : A.handled = none) (apart : [z, TI, TO, i1].Nodup) (S : Side1 s.heap z TI TO i1 x1 t1 i) {c1 : Nat} (h1 : x1.cps[i]? = some c1) {Q : Option Value → Shared → Prop}
    (got : ∀ h' tk u1, Side1 h' z TI TO i1 x1 t1 (i + 1) → h'.get? s.heap.objs.size = some { cls := .type "tuple", data := .seq #[.str ⟨#[c1]⟩ u1] } → h'.objs.size = s.heap.objs.size + 1 →
      (∀ b o, b ≠ z → b ≠ TO → b ≠ i1 → s.heap.get? b = some o → h'.get? b = some o) → Q (some (.ref s.heap.objs.size)) { s with heap := h', toks := tk }) :
    wpAny (model prog w) A (pyNext (.ref z)) Q E s := by
  obtain ⟨f0, b1, at_z, _⟩ := S.zip
  have isZip : s.TypeIs (.ref z) "zip" := ⟨_, at_z, rfl⟩
  unfold pyNext
  exact wpAny_bind (wpAny_attempt (wpAny_callSpecial?_slot (name := Str.ofString "__next__") isZip F.slot_zip_next (wpAny_call_entry F.slot_zip_next isZip F.entry_zip_next
    (side1_item (A := A.in1) (show A.in1.handled = none from hh) apart S h1 fun h' tk u1 q1 q2 q3 q4 => wpAny_pure (got h' tk u1 q1 q2 q3 q4)) (F.args_zip_next_1 _))))
theorem next1_end (hh : A.handled = none) (apart : [z, TI, TO, i1].Nodup) (S : Side1 s.heap z TI TO i1 x1 t1 i) (h1 : x1.cps[i]? = none) {Q : Option Value → Shared → Prop}
    (fin : ∀ h', (∀ b o, b ≠ z → b ≠ TO → b ≠ i1 → s.heap.get? b = some o → h'.get? b = some o) → Q none { s with heap := h' }) :
    wpAny (model prog w) A (pyNext (.ref z)) Q E s := by
  obtain ⟨f0, b1, at_z, _⟩ := S.zip
  have isZip : s.TypeIs (.ref z) "zip" := ⟨_, at_z, rfl⟩
  unfold pyNext
  refine wpAny_bind (wpAny_attempt (wpAny_callSpecial?_slot (name := Str.ofString "__next__") isZip F.slot_zip_next (wpAny_call_entry F.slot_zip_next isZip F.entry_zip_next
    (side1_end (A := A.in1) (show A.in1.handled = none from hh) apart S h1 fun h' e keep there => ?_) (F.args_zip_next_1 _))))
  obtain ⟨oe, at_e, cls_e⟩ := there
  exact wpAny_bind (wpAny_isInstance (T := "StopIteration") (b := true) ⟨oe, at_e, cls_e⟩ isSubtype_stop (wpAny_pure (fin h' keep)))
end
/-- 2 texts drawn side by side: the cells, at the turn i -/
structure Side2 (h : Heap) (z TI TO : Addr) (i1 i2 : Addr) (x1 x2 : Str) (t1 t2 : Tok) (i : Nat) : Prop where
  zip : ∃ f0 b1, h.get? z = some (zipObj f0 b1 TI TO) ∧ Owned f0 ∧ Twice b1
  src : h.get? TI = some { cls := .type "tuple", data := .seq #[.ref i1, .ref i2] }
  out : ∃ v1 v2, h.get? TO = some { cls := .type "tuple", data := .seq #[v1, v2] }
  it1 : h.IsStrIter i1 "str_ascii_iterator" x1 t1 i
  it2 : h.IsStrIter i2 "str_ascii_iterator" x2 t2 i
section
variable {prog : Program} {w : World} {A : Around} {E : Value → Shared → Prop} {s : Shared} {z TI TO i1 i2 : Addr} {x1 x2 : Str} {t1 t2 : Tok} {i : Nat}
theorem side2_keep {h h' : Heap} (S : Side2 h z TI TO i1 i2 x1 x2 t1 t2 i) (k : ∀ b ∈ [z, TI, TO, i1, i2], ∀ o, h.get? b = some o → h'.get? b = some o) : Side2 h' z TI TO i1 i2 x1 x2 t1 t2 i := by
  obtain ⟨⟨f0, b1, a1, a2, a3⟩, b, ⟨v1, v2, c⟩, d1, d2⟩ := S
  exact ⟨⟨f0, b1, k _ (by simp) _ a1, a2, a3⟩, k _ (by simp) _ b, ⟨v1, v2, k _ (by simp) _ c⟩, str_at d1 fun o q => k _ (by simp) o q, str_at d2 fun o q => k _ (by simp) o q⟩
theorem side2_item (hh : A.handled = none) (apart : [z, TI, TO, i1, i2].Nodup) (S : Side2 s.heap z TI TO i1 i2 x1 x2 t1 t2 i) {c1 c2 : Nat} (h1 : x1.cps[i]? = some c1) (h2 : x2.cps[i]? = some c2) {Q : Value → Shared → Prop}
    (got : ∀ h' tk u1 u2, Side2 h' z TI TO i1 i2 x1 x2 t1 t2 (i + 1) → h'.get? s.heap.objs.size = some { cls := .type "tuple", data := .seq #[.str ⟨#[c1]⟩ u1, .str ⟨#[c2]⟩ u2] } → h'.objs.size = s.heap.objs.size + 1 →
      (∀ b o, b ≠ z → b ≠ TO → b ≠ i1 → b ≠ i2 → s.heap.get? b = some o → h'.get? b = some o) → Q (.ref s.heap.objs.size) { s with heap := h', toks := tk }) :
    wpAny (model prog w) A (Builtin.«zip.__next__» ⟨[.ref z], []⟩) (fun fin s' => ∃ v, fin = .done (.ret v) ∧ Q v s') E s := by
  have ne_z_TI : z ≠ TI := by rintro rfl; simp at apart
  have ne_z_TO : z ≠ TO := by rintro rfl; simp at apart
  have ne_z_i1 : z ≠ i1 := by rintro rfl; simp at apart
  have ne_z_i2 : z ≠ i2 := by rintro rfl; simp at apart
  have ne_TI_TO : TI ≠ TO := by rintro rfl; simp at apart
  have ne_TI_i1 : TI ≠ i1 := by rintro rfl; simp at apart
  have ne_TI_i2 : TI ≠ i2 := by rintro rfl; simp at apart
  have ne_TO_i1 : TO ≠ i1 := by rintro rfl; simp at apart
  have ne_TO_i2 : TO ≠ i2 := by rintro rfl; simp at apart
  have ne_i1_i2 : i1 ≠ i2 := by rintro rfl; simp at apart
  obtain ⟨hp, g, d, tk0, os⟩ := s
  obtain ⟨⟨f0, b1, at_z, own, twice⟩, at_src, ⟨v1, v2, at_out⟩, d1, d2⟩ := S
  show wpAny _ _ (field (.ref z) 2 >>= _) _ _ _
  refine wpAny_bind (wpAny_field at_z rfl (x := .bool false) rfl ?_)
  show wpAny _ _ (field (.ref z) 3 >>= _) _ _ _
  refine wpAny_bind (wpAny_field at_z rfl (x := .ref TI) rfl (wpAny_bind (wpAny_seqItems at_src rfl ?_)))
  show wpAny _ _ (Builtin.SmallTypes.ownedTupleIsFree (.ref z) >>= _) _ _ _
  refine wpAny_bind (free_or_not at_z own twice fun b hx b2 at_z1 twice2 same1 => ?_)
  replace same1 : Heap.SameBut z hp hx := same1
  have out1 := same1.extBut _ _ ne_z_TO.symm at_out
  have src1 := same1.extBut _ _ ne_z_TI.symm at_src
  have e1 : hx.IsStrIter i1 "str_ascii_iterator" x1 t1 i := d1.extBut same1.extBut ne_z_i1.symm
  have e2 : hx.IsStrIter i2 "str_ascii_iterator" x2 t2 i := d2.extBut same1.extBut ne_z_i2.symm
  cases b with
  | true =>
    simp only [if_true]
    refine wpAny_bind (wpAny_rule (wpAny_bind (wpAny_field (s := ⟨hx, g, d, tk0, os⟩) at_z1 rfl (x := .ref TO) rfl (wpAny_bind (wpAny_setField_rec (s := ⟨hx, g, d, tk0, os⟩) at_z1 (by simp) fun j0 at_zj samej => ?_)))))
    replace at_zj : j0.get? z = some (zipObj .ellipsis b2 TI TO) := at_zj
    replace samej : Heap.SameBut z hx j0 := samej
    have out_0 := samej.extBut _ _ ne_z_TO.symm out1
    refine wpAny_bind ?_
    simp only [List.zipIdx_cons, List.zipIdx_nil, List.forIn_cons, List.forIn_nil]
    refine wpAny_bind (wpAny_bind (wpAny_onRaise ?_))
    show wpAny _ _ (Builtin.SmallTypes.nextOf (.ref i1) >>= _) _ _ ⟨j0, g, d, tk0, os⟩
    refine wpAny_bind (wpAny_nextOf_ascii_item (s := ⟨j0, g, d, tk0, os⟩) ((e1).extBut samej.extBut ne_z_i1.symm) h1 fun p1 new1 samep1 => wpAny_pure ?_)
    replace samep1 : Heap.SameBut i1 j0 p1 := samep1
    have mid1 := samep1.extBut _ _ ne_TO_i1 out_0
    refine wpAny_bind (wpAny_seqItems (s := ⟨p1, g, d, tk0 + 1, os⟩) mid1 rfl (wpAny_bind (wpAny_updateSeq (s := ⟨p1, g, d, tk0 + 1, os⟩) mid1 rfl ?_)))
    generalize eq1 : p1.update TO _ = j1
    have out_1 : j1.get? TO = some { cls := .type "tuple", data := .seq #[.str ⟨#[c1]⟩ (tk0), v2] } := by
      rw [← eq1, Heap.get?_update_self _ mid1 rfl]
      simp [Obj.mapSeq]
    have sameo1 : Heap.SameBut TO p1 j1 := by rw [← eq1]; exact Heap.SameBut.update ..
    refine wpAny_bind (wpAny_letGo (wpAny_pure ?_))
    refine wpAny_bind (wpAny_bind (wpAny_onRaise ?_))
    show wpAny _ _ (Builtin.SmallTypes.nextOf (.ref i2) >>= _) _ _ ⟨j1, g, d, tk0 + 1, os⟩
    refine wpAny_bind (wpAny_nextOf_ascii_item (s := ⟨j1, g, d, tk0 + 1, os⟩) ((((e2).extBut samej.extBut ne_z_i2.symm).extBut samep1.extBut ne_i1_i2.symm).extBut sameo1.extBut ne_TO_i2.symm) h2 fun p2 new2 samep2 => wpAny_pure ?_)
    replace samep2 : Heap.SameBut i2 j1 p2 := samep2
    have mid2 := samep2.extBut _ _ ne_TO_i2 out_1
    refine wpAny_bind (wpAny_seqItems (s := ⟨p2, g, d, tk0 + 1 + 1, os⟩) mid2 rfl (wpAny_bind (wpAny_updateSeq (s := ⟨p2, g, d, tk0 + 1 + 1, os⟩) mid2 rfl ?_)))
    generalize eq2 : p2.update TO _ = j2
    have out_2 : j2.get? TO = some { cls := .type "tuple", data := .seq #[.str ⟨#[c1]⟩ (tk0), .str ⟨#[c2]⟩ (tk0 + 1)] } := by
      rw [← eq2, Heap.get?_update_self _ mid2 rfl]
      simp [Obj.mapSeq]
    have sameo2 : Heap.SameBut TO p2 j2 := by rw [← eq2]; exact Heap.SameBut.update ..
    refine wpAny_bind (wpAny_letGo (wpAny_pure (wpAny_pure ?_)))
    refine wpAny_bind (wpAny_seqItems (s := ⟨j2, g, d, tk0 + 1 + 1, os⟩) out_2 rfl (wpAny_bind (wpAny_newTuple ?_)))
    have at_zn : j2.get? z = some (zipObj .ellipsis b2 TI TO) := (sameo2.extBut _ _ ne_z_TO (samep2.extBut _ _ ne_z_i2 (sameo1.extBut _ _ ne_z_TO (samep1.extBut _ _ ne_z_i1 at_zj))))
    have size_n : j2.objs.size = hp.objs.size := by rw [sameo2.1, samep2.1, sameo1.1, samep1.1, samej.1, same1.1]
    have lt_z : z < j2.objs.size := Heap.lt_size at_zn
    show wpAny _ _ (Builtin.SmallTypes.ownedTupleHandOut (.ref z) (.ref j2.objs.size) >>= _) _ _ ⟨j2.push { cls := .type "tuple", data := .seq #[.str ⟨#[c1]⟩ (tk0), .str ⟨#[c2]⟩ (tk0 + 1)] }, g, d, tk0 + 1 + 1, os⟩
    refine wpAny_bind ?_
    unfold Builtin.SmallTypes.ownedTupleHandOut
    have at_zt : (j2.push { cls := .type "tuple", data := .seq #[.str ⟨#[c1]⟩ (tk0), .str ⟨#[c2]⟩ (tk0 + 1)] }).get? z = some (zipObj .ellipsis b2 TI TO) := Heap.get?_push_of_some _ at_zn
    refine wpAny_bind (wpAny_setField_rec at_zt (by simp) fun m1 at_m1 same_m1 => ?_)
    replace at_m1 : m1.get? z = some (zipObj (rawInt j2.objs.size) b2 TI TO) := at_m1
    refine wpAny_setField_rec at_m1 (by simp) fun m2 at_m2 same_m2 => ?_
    replace at_m2 : m2.get? z = some (zipObj (rawInt j2.objs.size) (.bool false) TI TO) := at_m2
    replace same_m1 : Heap.SameBut z (j2.push { cls := .type "tuple", data := .seq #[.str ⟨#[c1]⟩ (tk0), .str ⟨#[c2]⟩ (tk0 + 1)] }) m1 := same_m1
    replace same_m2 : Heap.SameBut z m1 m2 := same_m2
    have up : ∀ b o, b ≠ z → j2.get? b = some o → m2.get? b = some o := fun b o c e => same_m2.extBut _ _ c (same_m1.extBut _ _ c (Heap.get?_push_of_some _ e))
    refine wpAny_pure ⟨_, rfl, ?_⟩
    have made := same_m2.extBut _ _ (Nat.ne_of_gt lt_z) (same_m1.extBut _ _ (Nat.ne_of_gt lt_z) (Heap.get?_push_size j2 (o := { cls := .type "tuple", data := .seq #[.str ⟨#[c1]⟩ (tk0), .str ⟨#[c2]⟩ (tk0 + 1)] }) rfl))
    have size_m : m2.objs.size = hp.objs.size + 1 := by rw [same_m2.1, same_m1.1, Heap.size_push, size_n]
    rw [size_n] at made
    show Q (.ref j2.objs.size) ⟨m2, g, d, tk0 + 1 + 1, os⟩
    rw [size_n]
    refine got m2 (tk0 + 1 + 1) (tk0) (tk0 + 1) ⟨⟨_, _, at_m2, .inr ⟨_, rfl⟩, .inl rfl⟩, up _ _ ne_z_TI.symm ((sameo2.extBut _ _ ne_TI_TO (samep2.extBut _ _ ne_TI_i2 (sameo1.extBut _ _ ne_TI_TO (samep1.extBut _ _ ne_TI_i1 (samej.extBut _ _ ne_z_TI.symm src1)))))), ⟨_, _, up _ _ ne_z_TO.symm out_2⟩, str_at ((((new1).extBut sameo1.extBut ne_TO_i1.symm).extBut samep2.extBut ne_i1_i2).extBut sameo2.extBut ne_TO_i1.symm) fun o q => up _ o ne_z_i1.symm q, str_at ((new2).extBut sameo2.extBut ne_TO_i2.symm) fun o q => up _ o ne_z_i2.symm q⟩ made size_m fun b o cz cT n1 n2 e => up b o cz ((sameo2.extBut _ _ cT (samep2.extBut _ _ n2 (sameo1.extBut _ _ cT (samep1.extBut _ _ n1 (samej.extBut _ _ cz (same1.extBut _ _ cz e)))))))
  | false =>
    simp only [Bool.false_eq_true, if_false]
    refine wpAny_bind ?_
    simp only [List.forIn_toArray, List.forIn_cons, List.forIn_nil]
    refine wpAny_bind (wpAny_bind (wpAny_holding ?_))
    show wpAny _ _ (Builtin.SmallTypes.nextOf (.ref i1) >>= _) _ _ ⟨hx, g, d, tk0, os⟩
    refine wpAny_bind (wpAny_nextOf_ascii_item (s := ⟨hx, g, d, tk0, os⟩) (e1) h1 fun p1 new1 samep1 => wpAny_pure (wpAny_pure ?_))
    replace samep1 : Heap.SameBut i1 hx p1 := samep1
    refine wpAny_bind (wpAny_bind (wpAny_holding ?_))
    show wpAny _ _ (Builtin.SmallTypes.nextOf (.ref i2) >>= _) _ _ ⟨p1, g, d, tk0 + 1, os⟩
    refine wpAny_bind (wpAny_nextOf_ascii_item (s := ⟨p1, g, d, tk0 + 1, os⟩) ((e2).extBut samep1.extBut ne_i1_i2.symm) h2 fun p2 new2 samep2 => wpAny_pure (wpAny_pure (wpAny_pure ?_)))
    replace samep2 : Heap.SameBut i2 p1 p2 := samep2
    have size_n : p2.objs.size = hp.objs.size := by rw [samep2.1, samep1.1, same1.1]
    refine wpAny_bind (wpAny_newTuple (hsz := by show 2 ≤ sizeLine; decide) (wpAny_pure ⟨_, rfl, ?_⟩))
    have made := Heap.get?_push_size p2 (o := { cls := .type "tuple", data := .seq #[.str ⟨#[c1]⟩ (tk0), .str ⟨#[c2]⟩ (tk0 + 1)] }) rfl
    show Q (.ref p2.objs.size) ⟨p2.push { cls := .type "tuple", data := .seq #[.str ⟨#[c1]⟩ (tk0), .str ⟨#[c2]⟩ (tk0 + 1)] }, g, d, tk0 + 1 + 1, os⟩
    rw [size_n] at made ⊢
    refine got _ (tk0 + 1 + 1) (tk0) (tk0 + 1) ⟨⟨_, _, Heap.get?_push_of_some _ ((samep2.extBut _ _ ne_z_i2 (samep1.extBut _ _ ne_z_i1 at_z1))), own, twice2⟩, Heap.get?_push_of_some _ ((samep2.extBut _ _ ne_TI_i2 (samep1.extBut _ _ ne_TI_i1 src1))), ⟨_, _, Heap.get?_push_of_some _ ((samep2.extBut _ _ ne_TO_i2 (samep1.extBut _ _ ne_TO_i1 out1)))⟩, str_at ((new1).extBut samep2.extBut ne_i1_i2) fun o q => Heap.get?_push_of_some _ q, str_at (new2) fun o q => Heap.get?_push_of_some _ q⟩ made (by rw [Heap.size_push, size_n]) fun b o cz cT n1 n2 e => Heap.get?_push_of_some _ ((samep2.extBut _ _ n2 (samep1.extBut _ _ n1 (same1.extBut _ _ cz e))))
theorem side2_end (hh : A.handled = none) (apart : [z, TI, TO, i1, i2].Nodup) (S : Side2 s.heap z TI TO i1 i2 x1 x2 t1 t2 i) (h1 : x1.cps[i]? = none) {Q : Fin → Shared → Prop}
    (fin : ∀ h' e, (∀ b o, b ≠ z → b ≠ TO → b ≠ i1 → b ≠ i2 → s.heap.get? b = some o → h'.get? b = some o) → (∃ o, h'.get? e = some o ∧ o.cls = .type "StopIteration") → E (.ref e) { s with heap := h' }) :
    wpAny (model prog w) A (Builtin.«zip.__next__» ⟨[.ref z], []⟩) Q E s := by
  have ne_z_TI : z ≠ TI := by rintro rfl; simp at apart
  have ne_z_TO : z ≠ TO := by rintro rfl; simp at apart
  have ne_z_i1 : z ≠ i1 := by rintro rfl; simp at apart
  have ne_z_i2 : z ≠ i2 := by rintro rfl; simp at apart
  have ne_TI_TO : TI ≠ TO := by rintro rfl; simp at apart
  have ne_TI_i1 : TI ≠ i1 := by rintro rfl; simp at apart
  have ne_TI_i2 : TI ≠ i2 := by rintro rfl; simp at apart
  have ne_TO_i1 : TO ≠ i1 := by rintro rfl; simp at apart
  have ne_TO_i2 : TO ≠ i2 := by rintro rfl; simp at apart
  have ne_i1_i2 : i1 ≠ i2 := by rintro rfl; simp at apart
  obtain ⟨hp, g, d, tk0, os⟩ := s
  obtain ⟨⟨f0, b1, at_z, own, twice⟩, at_src, ⟨v1, v2, at_out⟩, d1, d2⟩ := S
  show wpAny _ _ (field (.ref z) 2 >>= _) _ _ _
  refine wpAny_bind (wpAny_field at_z rfl (x := .bool false) rfl ?_)
  show wpAny _ _ (field (.ref z) 3 >>= _) _ _ _
  refine wpAny_bind (wpAny_field at_z rfl (x := .ref TI) rfl (wpAny_bind (wpAny_seqItems at_src rfl ?_)))
  show wpAny _ _ (Builtin.SmallTypes.ownedTupleIsFree (.ref z) >>= _) _ _ _
  refine wpAny_bind (free_or_not at_z own twice fun b hx b2 at_z1 twice2 same1 => ?_)
  replace same1 : Heap.SameBut z hp hx := same1
  have e1 : hx.IsStrIter i1 "str_ascii_iterator" x1 t1 i := d1.extBut same1.extBut ne_z_i1.symm
  cases b with
  | true =>
    simp only [if_true]
    refine wpAny_bind (wpAny_rule (wpAny_bind (wpAny_field (s := ⟨hx, g, d, tk0, os⟩) at_z1 rfl (x := .ref TO) rfl (wpAny_bind (wpAny_setField_rec (s := ⟨hx, g, d, tk0, os⟩) at_z1 (by simp) fun j0 at_zj samej => ?_)))))
    replace at_zj : j0.get? z = some (zipObj .ellipsis b2 TI TO) := at_zj
    replace samej : Heap.SameBut z hx j0 := samej
    refine wpAny_bind ?_
    simp only [List.zipIdx_cons, List.zipIdx_nil, List.forIn_cons, List.forIn_nil]
    refine wpAny_bind (wpAny_bind (wpAny_onRaise ?_))
    show wpAny _ _ (Builtin.SmallTypes.nextOf (.ref i1) >>= _) _ _ ⟨j0, g, d, tk0, os⟩
    refine wpAny_bind (wpAny_nextOf_ascii_end (s := ⟨j0, g, d, tk0, os⟩) hh (e1.extBut samej.extBut ne_z_i1.symm) h1 fun p1 e samep ⟨oe, at_e, cls_e⟩ => ?_)
    replace samep : Heap.ExtBut i1 j0 p1 := samep
    have at_zp : p1.get? z = some (zipObj .ellipsis b2 TI TO) := samep _ _ ne_z_i1 at_zj
    have e_z : e ≠ z := fun q => by rw [q] at at_e; rw [at_zp] at at_e; cases at_e; simp at cls_e
    refine wpAny_setField_rec (s := ⟨p1, g, d, tk0, os⟩) at_zp (by simp) fun p2 _ same2 => ?_
    exact fin p2 e (fun b o cz _ n1 _ q => same2.extBut _ _ cz (samep _ _ n1 (samej.extBut _ _ cz (same1.extBut _ _ cz q)))) ⟨oe, same2.extBut _ _ e_z at_e, cls_e⟩
  | false =>
    simp only [Bool.false_eq_true, if_false]
    refine wpAny_bind ?_
    simp only [List.forIn_toArray, List.forIn_cons, List.forIn_nil]
    refine wpAny_bind (wpAny_bind (wpAny_holding ?_))
    show wpAny _ _ (Builtin.SmallTypes.nextOf (.ref i1) >>= _) _ _ ⟨hx, g, d, tk0, os⟩
    refine wpAny_bind (wpAny_nextOf_ascii_end (s := ⟨hx, g, d, tk0, os⟩) hh e1 h1 fun p1 e samep there => ?_)
    replace samep : Heap.ExtBut i1 hx p1 := samep
    exact fin p1 e (fun b o cz _ n1 _ q => samep _ _ n1 (same1.extBut _ _ cz q)) there
theorem next2_item (hh : A.handled = none) (apart : [z, TI, TO, i1, i2].Nodup) (S : Side2 s.heap z TI TO i1 i2 x1 x2 t1 t2 i) {c1 c2 : Nat} (h1 : x1.cps[i]? = some c1) (h2 : x2.cps[i]? = some c2) {Q : Option Value → Shared → Prop}
    (got : ∀ h' tk u1 u2, Side2 h' z TI TO i1 i2 x1 x2 t1 t2 (i + 1) → h'.get? s.heap.objs.size = some { cls := .type "tuple", data := .seq #[.str ⟨#[c1]⟩ u1, .str ⟨#[c2]⟩ u2] } → h'.objs.size = s.heap.objs.size + 1 →
      (∀ b o, b ≠ z → b ≠ TO → b ≠ i1 → b ≠ i2 → s.heap.get? b = some o → h'.get? b = some o) → Q (some (.ref s.heap.objs.size)) { s with heap := h', toks := tk }) :
    wpAny (model prog w) A (pyNext (.ref z)) Q E s := by
  obtain ⟨f0, b1, at_z, _⟩ := S.zip
  have isZip : s.TypeIs (.ref z) "zip" := ⟨_, at_z, rfl⟩
  unfold pyNext
  exact wpAny_bind (wpAny_attempt (wpAny_callSpecial?_slot (name := Str.ofString "__next__") isZip F.slot_zip_next (wpAny_call_entry F.slot_zip_next isZip F.entry_zip_next
    (side2_item (A := A.in1) (show A.in1.handled = none from hh) apart S h1 h2 fun h' tk u1 u2 q1 q2 q3 q4 => wpAny_pure (got h' tk u1 u2 q1 q2 q3 q4)) (F.args_zip_next_1 _))))
theorem next2_end (hh : A.handled = none) (apart : [z, TI, TO, i1, i2].Nodup) (S : Side2 s.heap z TI TO i1 i2 x1 x2 t1 t2 i) (h1 : x1.cps[i]? = none) {Q : Option Value → Shared → Prop}
    (fin : ∀ h', (∀ b o, b ≠ z → b ≠ TO → b ≠ i1 → b ≠ i2 → s.heap.get? b = some o → h'.get? b = some o) → Q none { s with heap := h' }) :
    wpAny (model prog w) A (pyNext (.ref z)) Q E s := by
  obtain ⟨f0, b1, at_z, _⟩ := S.zip
  have isZip : s.TypeIs (.ref z) "zip" := ⟨_, at_z, rfl⟩
  unfold pyNext
  refine wpAny_bind (wpAny_attempt (wpAny_callSpecial?_slot (name := Str.ofString "__next__") isZip F.slot_zip_next (wpAny_call_entry F.slot_zip_next isZip F.entry_zip_next
    (side2_end (A := A.in1) (show A.in1.handled = none from hh) apart S h1 fun h' e keep there => ?_) (F.args_zip_next_1 _))))
  obtain ⟨oe, at_e, cls_e⟩ := there
  exact wpAny_bind (wpAny_isInstance (T := "StopIteration") (b := true) ⟨oe, at_e, cls_e⟩ isSubtype_stop (wpAny_pure (fin h' keep)))
end
/-- 3 texts drawn side by side: the cells, at the turn i -/
structure Side3 (h : Heap) (z TI TO : Addr) (i1 i2 i3 : Addr) (x1 x2 x3 : Str) (t1 t2 t3 : Tok) (i : Nat) : Prop where
  zip : ∃ f0 b1, h.get? z = some (zipObj f0 b1 TI TO) ∧ Owned f0 ∧ Twice b1
  src : h.get? TI = some { cls := .type "tuple", data := .seq #[.ref i1, .ref i2, .ref i3] }
  out : ∃ v1 v2 v3, h.get? TO = some { cls := .type "tuple", data := .seq #[v1, v2, v3] }
  it1 : h.IsStrIter i1 "str_ascii_iterator" x1 t1 i
  it2 : h.IsStrIter i2 "str_ascii_iterator" x2 t2 i
  it3 : h.IsStrIter i3 "str_ascii_iterator" x3 t3 i
section
variable {prog : Program} {w : World} {A : Around} {E : Value → Shared → Prop} {s : Shared} {z TI TO i1 i2 i3 : Addr} {x1 x2 x3 : Str} {t1 t2 t3 : Tok} {i : Nat}
theorem side3_keep {h h' : Heap} (S : Side3 h z TI TO i1 i2 i3 x1 x2 x3 t1 t2 t3 i) (k : ∀ b ∈ [z, TI, TO, i1, i2, i3], ∀ o, h.get? b = some o → h'.get? b = some o) : Side3 h' z TI TO i1 i2 i3 x1 x2 x3 t1 t2 t3 i := by
  obtain ⟨⟨f0, b1, a1, a2, a3⟩, b, ⟨v1, v2, v3, c⟩, d1, d2, d3⟩ := S
  exact ⟨⟨f0, b1, k _ (by simp) _ a1, a2, a3⟩, k _ (by simp) _ b, ⟨v1, v2, v3, k _ (by simp) _ c⟩, str_at d1 fun o q => k _ (by simp) o q, str_at d2 fun o q => k _ (by simp) o q, str_at d3 fun o q => k _ (by simp) o q⟩
theorem side3_item (hh : A.handled = none) (apart : [z, TI, TO, i1, i2, i3].Nodup) (S : Side3 s.heap z TI TO i1 i2 i3 x1 x2 x3 t1 t2 t3 i) {c1 c2 c3 : Nat} (h1 : x1.cps[i]? = some c1) (h2 : x2.cps[i]? = some c2) (h3 : x3.cps[i]? = some c3) {Q : Value → Shared → Prop}
    (got : ∀ h' tk u1 u2 u3, Side3 h' z TI TO i1 i2 i3 x1 x2 x3 t1 t2 t3 (i + 1) → h'.get? s.heap.objs.size = some { cls := .type "tuple", data := .seq #[.str ⟨#[c1]⟩ u1, .str ⟨#[c2]⟩ u2, .str ⟨#[c3]⟩ u3] } → h'.objs.size = s.heap.objs.size + 1 →
      (∀ b o, b ≠ z → b ≠ TO → b ≠ i1 → b ≠ i2 → b ≠ i3 → s.heap.get? b = some o → h'.get? b = some o) → Q (.ref s.heap.objs.size) { s with heap := h', toks := tk }) :
    wpAny (model prog w) A (Builtin.«zip.__next__» ⟨[.ref z], []⟩) (fun fin s' => ∃ v, fin = .done (.ret v) ∧ Q v s') E s := by
  have ne_z_TI : z ≠ TI := by rintro rfl; simp at apart
  have ne_z_TO : z ≠ TO := by rintro rfl; simp at apart
  have ne_z_i1 : z ≠ i1 := by rintro rfl; simp at apart
  have ne_z_i2 : z ≠ i2 := by rintro rfl; simp at apart
  have ne_z_i3 : z ≠ i3 := by rintro rfl; simp at apart
  have ne_TI_TO : TI ≠ TO := by rintro rfl; simp at apart
  have ne_TI_i1 : TI ≠ i1 := by rintro rfl; simp at apart
  have ne_TI_i2 : TI ≠ i2 := by rintro rfl; simp at apart
  have ne_TI_i3 : TI ≠ i3 := by rintro rfl; simp at apart
  have ne_TO_i1 : TO ≠ i1 := by rintro rfl; simp at apart
  have ne_TO_i2 : TO ≠ i2 := by rintro rfl; simp at apart
  have ne_TO_i3 : TO ≠ i3 := by rintro rfl; simp at apart
  have ne_i1_i2 : i1 ≠ i2 := by rintro rfl; simp at apart
  have ne_i1_i3 : i1 ≠ i3 := by rintro rfl; simp at apart
  have ne_i2_i3 : i2 ≠ i3 := by rintro rfl; simp at apart
  obtain ⟨hp, g, d, tk0, os⟩ := s
  obtain ⟨⟨f0, b1, at_z, own, twice⟩, at_src, ⟨v1, v2, v3, at_out⟩, d1, d2, d3⟩ := S
  show wpAny _ _ (field (.ref z) 2 >>= _) _ _ _
  refine wpAny_bind (wpAny_field at_z rfl (x := .bool false) rfl ?_)
  show wpAny _ _ (field (.ref z) 3 >>= _) _ _ _
  refine wpAny_bind (wpAny_field at_z rfl (x := .ref TI) rfl (wpAny_bind (wpAny_seqItems at_src rfl ?_)))
  show wpAny _ _ (Builtin.SmallTypes.ownedTupleIsFree (.ref z) >>= _) _ _ _
  refine wpAny_bind (free_or_not at_z own twice fun b hx b2 at_z1 twice2 same1 => ?_)
  replace same1 : Heap.SameBut z hp hx := same1
  have out1 := same1.extBut _ _ ne_z_TO.symm at_out
  have src1 := same1.extBut _ _ ne_z_TI.symm at_src
  have e1 : hx.IsStrIter i1 "str_ascii_iterator" x1 t1 i := d1.extBut same1.extBut ne_z_i1.symm
  have e2 : hx.IsStrIter i2 "str_ascii_iterator" x2 t2 i := d2.extBut same1.extBut ne_z_i2.symm
  have e3 : hx.IsStrIter i3 "str_ascii_iterator" x3 t3 i := d3.extBut same1.extBut ne_z_i3.symm
  cases b with
  | true =>
    simp only [if_true]
    refine wpAny_bind (wpAny_rule (wpAny_bind (wpAny_field (s := ⟨hx, g, d, tk0, os⟩) at_z1 rfl (x := .ref TO) rfl (wpAny_bind (wpAny_setField_rec (s := ⟨hx, g, d, tk0, os⟩) at_z1 (by simp) fun j0 at_zj samej => ?_)))))
    replace at_zj : j0.get? z = some (zipObj .ellipsis b2 TI TO) := at_zj
    replace samej : Heap.SameBut z hx j0 := samej
    have out_0 := samej.extBut _ _ ne_z_TO.symm out1
    refine wpAny_bind ?_
    simp only [List.zipIdx_cons, List.zipIdx_nil, List.forIn_cons, List.forIn_nil]
    refine wpAny_bind (wpAny_bind (wpAny_onRaise ?_))
    show wpAny _ _ (Builtin.SmallTypes.nextOf (.ref i1) >>= _) _ _ ⟨j0, g, d, tk0, os⟩
    refine wpAny_bind (wpAny_nextOf_ascii_item (s := ⟨j0, g, d, tk0, os⟩) ((e1).extBut samej.extBut ne_z_i1.symm) h1 fun p1 new1 samep1 => wpAny_pure ?_)
    replace samep1 : Heap.SameBut i1 j0 p1 := samep1
    have mid1 := samep1.extBut _ _ ne_TO_i1 out_0
    refine wpAny_bind (wpAny_seqItems (s := ⟨p1, g, d, tk0 + 1, os⟩) mid1 rfl (wpAny_bind (wpAny_updateSeq (s := ⟨p1, g, d, tk0 + 1, os⟩) mid1 rfl ?_)))
    generalize eq1 : p1.update TO _ = j1
    have out_1 : j1.get? TO = some { cls := .type "tuple", data := .seq #[.str ⟨#[c1]⟩ (tk0), v2, v3] } := by
      rw [← eq1, Heap.get?_update_self _ mid1 rfl]
      simp [Obj.mapSeq]
    have sameo1 : Heap.SameBut TO p1 j1 := by rw [← eq1]; exact Heap.SameBut.update ..
    refine wpAny_bind (wpAny_letGo (wpAny_pure ?_))
    refine wpAny_bind (wpAny_bind (wpAny_onRaise ?_))
    show wpAny _ _ (Builtin.SmallTypes.nextOf (.ref i2) >>= _) _ _ ⟨j1, g, d, tk0 + 1, os⟩
    refine wpAny_bind (wpAny_nextOf_ascii_item (s := ⟨j1, g, d, tk0 + 1, os⟩) ((((e2).extBut samej.extBut ne_z_i2.symm).extBut samep1.extBut ne_i1_i2.symm).extBut sameo1.extBut ne_TO_i2.symm) h2 fun p2 new2 samep2 => wpAny_pure ?_)
    replace samep2 : Heap.SameBut i2 j1 p2 := samep2
    have mid2 := samep2.extBut _ _ ne_TO_i2 out_1
    refine wpAny_bind (wpAny_seqItems (s := ⟨p2, g, d, tk0 + 1 + 1, os⟩) mid2 rfl (wpAny_bind (wpAny_updateSeq (s := ⟨p2, g, d, tk0 + 1 + 1, os⟩) mid2 rfl ?_)))
    generalize eq2 : p2.update TO _ = j2
    have out_2 : j2.get? TO = some { cls := .type "tuple", data := .seq #[.str ⟨#[c1]⟩ (tk0), .str ⟨#[c2]⟩ (tk0 + 1), v3] } := by
      rw [← eq2, Heap.get?_update_self _ mid2 rfl]
      simp [Obj.mapSeq]
    have sameo2 : Heap.SameBut TO p2 j2 := by rw [← eq2]; exact Heap.SameBut.update ..
    refine wpAny_bind (wpAny_letGo (wpAny_pure ?_))
    refine wpAny_bind (wpAny_bind (wpAny_onRaise ?_))
    show wpAny _ _ (Builtin.SmallTypes.nextOf (.ref i3) >>= _) _ _ ⟨j2, g, d, tk0 + 1 + 1, os⟩
    refine wpAny_bind (wpAny_nextOf_ascii_item (s := ⟨j2, g, d, tk0 + 1 + 1, os⟩) ((((((e3).extBut samej.extBut ne_z_i3.symm).extBut samep1.extBut ne_i1_i3.symm).extBut sameo1.extBut ne_TO_i3.symm).extBut samep2.extBut ne_i2_i3.symm).extBut sameo2.extBut ne_TO_i3.symm) h3 fun p3 new3 samep3 => wpAny_pure ?_)
    replace samep3 : Heap.SameBut i3 j2 p3 := samep3
    have mid3 := samep3.extBut _ _ ne_TO_i3 out_2
    refine wpAny_bind (wpAny_seqItems (s := ⟨p3, g, d, tk0 + 1 + 1 + 1, os⟩) mid3 rfl (wpAny_bind (wpAny_updateSeq (s := ⟨p3, g, d, tk0 + 1 + 1 + 1, os⟩) mid3 rfl ?_)))
    generalize eq3 : p3.update TO _ = j3
    have out_3 : j3.get? TO = some { cls := .type "tuple", data := .seq #[.str ⟨#[c1]⟩ (tk0), .str ⟨#[c2]⟩ (tk0 + 1), .str ⟨#[c3]⟩ (tk0 + 1 + 1)] } := by
      rw [← eq3, Heap.get?_update_self _ mid3 rfl]
      simp [Obj.mapSeq]
    have sameo3 : Heap.SameBut TO p3 j3 := by rw [← eq3]; exact Heap.SameBut.update ..
    refine wpAny_bind (wpAny_letGo (wpAny_pure (wpAny_pure ?_)))
    refine wpAny_bind (wpAny_seqItems (s := ⟨j3, g, d, tk0 + 1 + 1 + 1, os⟩) out_3 rfl (wpAny_bind (wpAny_newTuple ?_)))
    have at_zn : j3.get? z = some (zipObj .ellipsis b2 TI TO) := (sameo3.extBut _ _ ne_z_TO (samep3.extBut _ _ ne_z_i3 (sameo2.extBut _ _ ne_z_TO (samep2.extBut _ _ ne_z_i2 (sameo1.extBut _ _ ne_z_TO (samep1.extBut _ _ ne_z_i1 at_zj))))))
    have size_n : j3.objs.size = hp.objs.size := by rw [sameo3.1, samep3.1, sameo2.1, samep2.1, sameo1.1, samep1.1, samej.1, same1.1]
    have lt_z : z < j3.objs.size := Heap.lt_size at_zn
    show wpAny _ _ (Builtin.SmallTypes.ownedTupleHandOut (.ref z) (.ref j3.objs.size) >>= _) _ _ ⟨j3.push { cls := .type "tuple", data := .seq #[.str ⟨#[c1]⟩ (tk0), .str ⟨#[c2]⟩ (tk0 + 1), .str ⟨#[c3]⟩ (tk0 + 1 + 1)] }, g, d, tk0 + 1 + 1 + 1, os⟩
    refine wpAny_bind ?_
    unfold Builtin.SmallTypes.ownedTupleHandOut
    have at_zt : (j3.push { cls := .type "tuple", data := .seq #[.str ⟨#[c1]⟩ (tk0), .str ⟨#[c2]⟩ (tk0 + 1), .str ⟨#[c3]⟩ (tk0 + 1 + 1)] }).get? z = some (zipObj .ellipsis b2 TI TO) := Heap.get?_push_of_some _ at_zn
    refine wpAny_bind (wpAny_setField_rec at_zt (by simp) fun m1 at_m1 same_m1 => ?_)
    replace at_m1 : m1.get? z = some (zipObj (rawInt j3.objs.size) b2 TI TO) := at_m1
    refine wpAny_setField_rec at_m1 (by simp) fun m2 at_m2 same_m2 => ?_
    replace at_m2 : m2.get? z = some (zipObj (rawInt j3.objs.size) (.bool false) TI TO) := at_m2
    replace same_m1 : Heap.SameBut z (j3.push { cls := .type "tuple", data := .seq #[.str ⟨#[c1]⟩ (tk0), .str ⟨#[c2]⟩ (tk0 + 1), .str ⟨#[c3]⟩ (tk0 + 1 + 1)] }) m1 := same_m1
    replace same_m2 : Heap.SameBut z m1 m2 := same_m2
    have up : ∀ b o, b ≠ z → j3.get? b = some o → m2.get? b = some o := fun b o c e => same_m2.extBut _ _ c (same_m1.extBut _ _ c (Heap.get?_push_of_some _ e))
    refine wpAny_pure ⟨_, rfl, ?_⟩
    have made := same_m2.extBut _ _ (Nat.ne_of_gt lt_z) (same_m1.extBut _ _ (Nat.ne_of_gt lt_z) (Heap.get?_push_size j3 (o := { cls := .type "tuple", data := .seq #[.str ⟨#[c1]⟩ (tk0), .str ⟨#[c2]⟩ (tk0 + 1), .str ⟨#[c3]⟩ (tk0 + 1 + 1)] }) rfl))
    have size_m : m2.objs.size = hp.objs.size + 1 := by rw [same_m2.1, same_m1.1, Heap.size_push, size_n]
    rw [size_n] at made
    show Q (.ref j3.objs.size) ⟨m2, g, d, tk0 + 1 + 1 + 1, os⟩
    rw [size_n]
    refine got m2 (tk0 + 1 + 1 + 1) (tk0) (tk0 + 1) (tk0 + 1 + 1) ⟨⟨_, _, at_m2, .inr ⟨_, rfl⟩, .inl rfl⟩, up _ _ ne_z_TI.symm ((sameo3.extBut _ _ ne_TI_TO (samep3.extBut _ _ ne_TI_i3 (sameo2.extBut _ _ ne_TI_TO (samep2.extBut _ _ ne_TI_i2 (sameo1.extBut _ _ ne_TI_TO (samep1.extBut _ _ ne_TI_i1 (samej.extBut _ _ ne_z_TI.symm src1)))))))), ⟨_, _, _, up _ _ ne_z_TO.symm out_3⟩, str_at ((((((new1).extBut sameo1.extBut ne_TO_i1.symm).extBut samep2.extBut ne_i1_i2).extBut sameo2.extBut ne_TO_i1.symm).extBut samep3.extBut ne_i1_i3).extBut sameo3.extBut ne_TO_i1.symm) fun o q => up _ o ne_z_i1.symm q, str_at ((((new2).extBut sameo2.extBut ne_TO_i2.symm).extBut samep3.extBut ne_i2_i3).extBut sameo3.extBut ne_TO_i2.symm) fun o q => up _ o ne_z_i2.symm q, str_at ((new3).extBut sameo3.extBut ne_TO_i3.symm) fun o q => up _ o ne_z_i3.symm q⟩ made size_m fun b o cz cT n1 n2 n3 e => up b o cz ((sameo3.extBut _ _ cT (samep3.extBut _ _ n3 (sameo2.extBut _ _ cT (samep2.extBut _ _ n2 (sameo1.extBut _ _ cT (samep1.extBut _ _ n1 (samej.extBut _ _ cz (same1.extBut _ _ cz e)))))))))
  | false =>
    simp only [Bool.false_eq_true, if_false]
    refine wpAny_bind ?_
    simp only [List.forIn_toArray, List.forIn_cons, List.forIn_nil]
    refine wpAny_bind (wpAny_bind (wpAny_holding ?_))
    show wpAny _ _ (Builtin.SmallTypes.nextOf (.ref i1) >>= _) _ _ ⟨hx, g, d, tk0, os⟩
    refine wpAny_bind (wpAny_nextOf_ascii_item (s := ⟨hx, g, d, tk0, os⟩) (e1) h1 fun p1 new1 samep1 => wpAny_pure (wpAny_pure ?_))
    replace samep1 : Heap.SameBut i1 hx p1 := samep1
    refine wpAny_bind (wpAny_bind (wpAny_holding ?_))
    show wpAny _ _ (Builtin.SmallTypes.nextOf (.ref i2) >>= _) _ _ ⟨p1, g, d, tk0 + 1, os⟩
    refine wpAny_bind (wpAny_nextOf_ascii_item (s := ⟨p1, g, d, tk0 + 1, os⟩) ((e2).extBut samep1.extBut ne_i1_i2.symm) h2 fun p2 new2 samep2 => wpAny_pure (wpAny_pure ?_))
    replace samep2 : Heap.SameBut i2 p1 p2 := samep2
    refine wpAny_bind (wpAny_bind (wpAny_holding ?_))
    show wpAny _ _ (Builtin.SmallTypes.nextOf (.ref i3) >>= _) _ _ ⟨p2, g, d, tk0 + 1 + 1, os⟩
    refine wpAny_bind (wpAny_nextOf_ascii_item (s := ⟨p2, g, d, tk0 + 1 + 1, os⟩) (((e3).extBut samep1.extBut ne_i1_i3.symm).extBut samep2.extBut ne_i2_i3.symm) h3 fun p3 new3 samep3 => wpAny_pure (wpAny_pure (wpAny_pure ?_)))
    replace samep3 : Heap.SameBut i3 p2 p3 := samep3
    have size_n : p3.objs.size = hp.objs.size := by rw [samep3.1, samep2.1, samep1.1, same1.1]
    refine wpAny_bind (wpAny_newTuple (hsz := by show 3 ≤ sizeLine; decide) (wpAny_pure ⟨_, rfl, ?_⟩))
    have made := Heap.get?_push_size p3 (o := { cls := .type "tuple", data := .seq #[.str ⟨#[c1]⟩ (tk0), .str ⟨#[c2]⟩ (tk0 + 1), .str ⟨#[c3]⟩ (tk0 + 1 + 1)] }) rfl
    show Q (.ref p3.objs.size) ⟨p3.push { cls := .type "tuple", data := .seq #[.str ⟨#[c1]⟩ (tk0), .str ⟨#[c2]⟩ (tk0 + 1), .str ⟨#[c3]⟩ (tk0 + 1 + 1)] }, g, d, tk0 + 1 + 1 + 1, os⟩
    rw [size_n] at made ⊢
    refine got _ (tk0 + 1 + 1 + 1) (tk0) (tk0 + 1) (tk0 + 1 + 1) ⟨⟨_, _, Heap.get?_push_of_some _ ((samep3.extBut _ _ ne_z_i3 (samep2.extBut _ _ ne_z_i2 (samep1.extBut _ _ ne_z_i1 at_z1)))), own, twice2⟩, Heap.get?_push_of_some _ ((samep3.extBut _ _ ne_TI_i3 (samep2.extBut _ _ ne_TI_i2 (samep1.extBut _ _ ne_TI_i1 src1)))), ⟨_, _, _, Heap.get?_push_of_some _ ((samep3.extBut _ _ ne_TO_i3 (samep2.extBut _ _ ne_TO_i2 (samep1.extBut _ _ ne_TO_i1 out1))))⟩, str_at (((new1).extBut samep2.extBut ne_i1_i2).extBut samep3.extBut ne_i1_i3) fun o q => Heap.get?_push_of_some _ q, str_at ((new2).extBut samep3.extBut ne_i2_i3) fun o q => Heap.get?_push_of_some _ q, str_at (new3) fun o q => Heap.get?_push_of_some _ q⟩ made (by rw [Heap.size_push, size_n]) fun b o cz cT n1 n2 n3 e => Heap.get?_push_of_some _ ((samep3.extBut _ _ n3 (samep2.extBut _ _ n2 (samep1.extBut _ _ n1 (same1.extBut _ _ cz e)))))
theorem side3_end (hh : A.handled = none) (apart : [z, TI, TO, i1, i2, i3].Nodup) (S : Side3 s.heap z TI TO i1 i2 i3 x1 x2 x3 t1 t2 t3 i) (h1 : x1.cps[i]? = none) {Q : Fin → Shared → Prop}
    (fin : ∀ h' e, (∀ b o, b ≠ z → b ≠ TO → b ≠ i1 → b ≠ i2 → b ≠ i3 → s.heap.get? b = some o → h'.get? b = some o) → (∃ o, h'.get? e = some o ∧ o.cls = .type "StopIteration") → E (.ref e) { s with heap := h' }) :
    wpAny (model prog w) A (Builtin.«zip.__next__» ⟨[.ref z], []⟩) Q E s := by
  have ne_z_TI : z ≠ TI := by rintro rfl; simp at apart
  have ne_z_TO : z ≠ TO := by rintro rfl; simp at apart
  have ne_z_i1 : z ≠ i1 := by rintro rfl; simp at apart
  have ne_z_i2 : z ≠ i2 := by rintro rfl; simp at apart
  have ne_z_i3 : z ≠ i3 := by rintro rfl; simp at apart
  have ne_TI_TO : TI ≠ TO := by rintro rfl; simp at apart
  have ne_TI_i1 : TI ≠ i1 := by rintro rfl; simp at apart
  have ne_TI_i2 : TI ≠ i2 := by rintro rfl; simp at apart
  have ne_TI_i3 : TI ≠ i3 := by rintro rfl; simp at apart
  have ne_TO_i1 : TO ≠ i1 := by rintro rfl; simp at apart
  have ne_TO_i2 : TO ≠ i2 := by rintro rfl; simp at apart
  have ne_TO_i3 : TO ≠ i3 := by rintro rfl; simp at apart
  have ne_i1_i2 : i1 ≠ i2 := by rintro rfl; simp at apart
  have ne_i1_i3 : i1 ≠ i3 := by rintro rfl; simp at apart
  have ne_i2_i3 : i2 ≠ i3 := by rintro rfl; simp at apart
  obtain ⟨hp, g, d, tk0, os⟩ := s
  obtain ⟨⟨f0, b1, at_z, own, twice⟩, at_src, ⟨v1, v2, v3, at_out⟩, d1, d2, d3⟩ := S
  show wpAny _ _ (field (.ref z) 2 >>= _) _ _ _
  refine wpAny_bind (wpAny_field at_z rfl (x := .bool false) rfl ?_)
  show wpAny _ _ (field (.ref z) 3 >>= _) _ _ _
  refine wpAny_bind (wpAny_field at_z rfl (x := .ref TI) rfl (wpAny_bind (wpAny_seqItems at_src rfl ?_)))
  show wpAny _ _ (Builtin.SmallTypes.ownedTupleIsFree (.ref z) >>= _) _ _ _
  refine wpAny_bind (free_or_not at_z own twice fun b hx b2 at_z1 twice2 same1 => ?_)
  replace same1 : Heap.SameBut z hp hx := same1
  have e1 : hx.IsStrIter i1 "str_ascii_iterator" x1 t1 i := d1.extBut same1.extBut ne_z_i1.symm
  cases b with
  | true =>
    simp only [if_true]
    refine wpAny_bind (wpAny_rule (wpAny_bind (wpAny_field (s := ⟨hx, g, d, tk0, os⟩) at_z1 rfl (x := .ref TO) rfl (wpAny_bind (wpAny_setField_rec (s := ⟨hx, g, d, tk0, os⟩) at_z1 (by simp) fun j0 at_zj samej => ?_)))))
    replace at_zj : j0.get? z = some (zipObj .ellipsis b2 TI TO) := at_zj
    replace samej : Heap.SameBut z hx j0 := samej
    refine wpAny_bind ?_
    simp only [List.zipIdx_cons, List.zipIdx_nil, List.forIn_cons, List.forIn_nil]
    refine wpAny_bind (wpAny_bind (wpAny_onRaise ?_))
    show wpAny _ _ (Builtin.SmallTypes.nextOf (.ref i1) >>= _) _ _ ⟨j0, g, d, tk0, os⟩
    refine wpAny_bind (wpAny_nextOf_ascii_end (s := ⟨j0, g, d, tk0, os⟩) hh (e1.extBut samej.extBut ne_z_i1.symm) h1 fun p1 e samep ⟨oe, at_e, cls_e⟩ => ?_)
    replace samep : Heap.ExtBut i1 j0 p1 := samep
    have at_zp : p1.get? z = some (zipObj .ellipsis b2 TI TO) := samep _ _ ne_z_i1 at_zj
    have e_z : e ≠ z := fun q => by rw [q] at at_e; rw [at_zp] at at_e; cases at_e; simp at cls_e
    refine wpAny_setField_rec (s := ⟨p1, g, d, tk0, os⟩) at_zp (by simp) fun p2 _ same2 => ?_
    exact fin p2 e (fun b o cz _ n1 _ _ q => same2.extBut _ _ cz (samep _ _ n1 (samej.extBut _ _ cz (same1.extBut _ _ cz q)))) ⟨oe, same2.extBut _ _ e_z at_e, cls_e⟩
  | false =>
    simp only [Bool.false_eq_true, if_false]
    refine wpAny_bind ?_
    simp only [List.forIn_toArray, List.forIn_cons, List.forIn_nil]
    refine wpAny_bind (wpAny_bind (wpAny_holding ?_))
    show wpAny _ _ (Builtin.SmallTypes.nextOf (.ref i1) >>= _) _ _ ⟨hx, g, d, tk0, os⟩
    refine wpAny_bind (wpAny_nextOf_ascii_end (s := ⟨hx, g, d, tk0, os⟩) hh e1 h1 fun p1 e samep there => ?_)
    replace samep : Heap.ExtBut i1 hx p1 := samep
    exact fin p1 e (fun b o cz _ n1 _ _ q => samep _ _ n1 (same1.extBut _ _ cz q)) there
theorem next3_item (hh : A.handled = none) (apart : [z, TI, TO, i1, i2, i3].Nodup) (S : Side3 s.heap z TI TO i1 i2 i3 x1 x2 x3 t1 t2 t3 i) {c1 c2 c3 : Nat} (h1 : x1.cps[i]? = some c1) (h2 : x2.cps[i]? = some c2) (h3 : x3.cps[i]? = some c3) {Q : Option Value → Shared → Prop}
    (got : ∀ h' tk u1 u2 u3, Side3 h' z TI TO i1 i2 i3 x1 x2 x3 t1 t2 t3 (i + 1) → h'.get? s.heap.objs.size = some { cls := .type "tuple", data := .seq #[.str ⟨#[c1]⟩ u1, .str ⟨#[c2]⟩ u2, .str ⟨#[c3]⟩ u3] } → h'.objs.size = s.heap.objs.size + 1 →
      (∀ b o, b ≠ z → b ≠ TO → b ≠ i1 → b ≠ i2 → b ≠ i3 → s.heap.get? b = some o → h'.get? b = some o) → Q (some (.ref s.heap.objs.size)) { s with heap := h', toks := tk }) :
    wpAny (model prog w) A (pyNext (.ref z)) Q E s := by
  obtain ⟨f0, b1, at_z, _⟩ := S.zip
  have isZip : s.TypeIs (.ref z) "zip" := ⟨_, at_z, rfl⟩
  unfold pyNext
  exact wpAny_bind (wpAny_attempt (wpAny_callSpecial?_slot (name := Str.ofString "__next__") isZip F.slot_zip_next (wpAny_call_entry F.slot_zip_next isZip F.entry_zip_next
    (side3_item (A := A.in1) (show A.in1.handled = none from hh) apart S h1 h2 h3 fun h' tk u1 u2 u3 q1 q2 q3 q4 => wpAny_pure (got h' tk u1 u2 u3 q1 q2 q3 q4)) (F.args_zip_next_1 _))))
theorem next3_end (hh : A.handled = none) (apart : [z, TI, TO, i1, i2, i3].Nodup) (S : Side3 s.heap z TI TO i1 i2 i3 x1 x2 x3 t1 t2 t3 i) (h1 : x1.cps[i]? = none) {Q : Option Value → Shared → Prop}
    (fin : ∀ h', (∀ b o, b ≠ z → b ≠ TO → b ≠ i1 → b ≠ i2 → b ≠ i3 → s.heap.get? b = some o → h'.get? b = some o) → Q none { s with heap := h' }) :
    wpAny (model prog w) A (pyNext (.ref z)) Q E s := by
  obtain ⟨f0, b1, at_z, _⟩ := S.zip
  have isZip : s.TypeIs (.ref z) "zip" := ⟨_, at_z, rfl⟩
  unfold pyNext
  refine wpAny_bind (wpAny_attempt (wpAny_callSpecial?_slot (name := Str.ofString "__next__") isZip F.slot_zip_next (wpAny_call_entry F.slot_zip_next isZip F.entry_zip_next
    (side3_end (A := A.in1) (show A.in1.handled = none from hh) apart S h1 fun h' e keep there => ?_) (F.args_zip_next_1 _))))
  obtain ⟨oe, at_e, cls_e⟩ := there
  exact wpAny_bind (wpAny_isInstance (T := "StopIteration") (b := true) ⟨oe, at_e, cls_e⟩ isSubtype_stop (wpAny_pure (fin h' keep)))
end
end Tv

namespace Tv
open PySem PySem.Spec PyProof.Rows L2
def signAt (i : Nat) (y : Str) : V := .str ⟨#[y.cps.getD i 0]⟩
/-- texts of m signs side by side, a new tuple of signs each turn -/
def Itn (ys : List Str) (m : Nat) : It :=
  ⟨fun i _ => i < m, fun i H v H' => ∃ T, v = .ref T ∧ H T = none ∧ H' = upd H T (.tup (ys.map (signAt i))), fun i _ => m ≤ i⟩
theorem sign_there {x : Str} {i : Nat} (h : i < x.cps.size) : x.cps[i]? = some (x.cps.getD i 0) := by
  rw [Array.getElem?_eq_getElem h, Array.getD_eq_getD_getElem?, Array.getElem?_eq_getElem h]
  rfl
theorem iter_self {prog : Program} {w : World} {A : Around} {E : Value → Shared → Prop} {s : Shared} {z TI TO : Addr} {f0 b1 : Value} {Q : Value → Shared → Prop}
    (at_z : s.heap.get? z = some (zipObj f0 b1 TI TO)) (h : Q (.ref z) s) : wpAny (model prog w) A (pyIter (.ref z)) Q E s := by
  have isZip : s.TypeIs (.ref z) "zip" := ⟨_, at_z, rfl⟩
  refine wpAny_pyIter_slot isZip F.slot_zip_iter (wpAny_call_entry F.slot_zip_iter isZip F.entry_zip_iter ?_ (F.args_zip_iter_1 _))
  show wpAny _ _ (ret (.ref z)) _ _ s
  exact wpAny_pure ⟨_, rfl, "zip", _, isZip, F.slot_zip_next.lookup, h⟩

section
variable {P : Program} {w : World} {A : Around} {E : Value → Shared → Prop} {s : Shared} {x1 : Str} {t1 : Tok}
abbrev laid1_1 (h : Heap) (x1 : Str) (t1 : Tok) : Heap := Heap.push h { cls := .type "str_ascii_iterator", data := .fields #[.str x1 t1, .int 0 0] }
abbrev laid1_2 (h : Heap) (x1 : Str) (t1 : Tok) : Heap := Heap.push (laid1_1 h x1 t1) { cls := .type "tuple", data := .seq #[.ref h.objs.size] }
abbrev laid1_3 (h : Heap) (x1 : Str) (t1 : Tok) : Heap := Heap.push (laid1_2 h x1 t1) { cls := .type "tuple", data := .seq #[.none] }
abbrev laid1_4 (h : Heap) (x1 : Str) (t1 : Tok) : Heap := Heap.push (laid1_3 h x1 t1) (zipObj .none (.bool false) (laid1_1 h x1 t1).objs.size (laid1_2 h x1 t1).objs.size)
theorem new1_meets : Meets (Builtin.«zip.__new__» ⟨[.type "zip", .str x1 t1], []⟩) (fun _ R s => x1.cps.all (· < 128) = true ∧ R (.ok (.ret (.ref (laid1_3 s.heap x1 t1).objs.size))) { s with heap := (laid1_4 s.heap x1 t1) }) :=
  .of_wp fun prog w A R s h => by
    obtain ⟨hp, g, d, tk, os⟩ := s
    obtain ⟨a1, h⟩ := h
    have is_zip := sub_zip
    wp_walk using wpAny_pyIter_ascii a1
    exact ⟨_, rfl, h⟩
theorem tcheck1 (v1 : Value) : checkTypeCall "zip" ⟨[v1], []⟩ = pure () := by kernel_rfl
theorem ncheck1 (v1 : Value) : checkBuiltinCall "zip.__new__" ⟨[.type "zip", v1], []⟩ = pure () := by kernel_rfl
theorem icheck1 (obj v1 : Value) : argsOk "object.__init__" ⟨[obj, v1], []⟩ := by unfold argsOk; kernel_rfl
theorem call_zip1 {N : Nat} (eN : s.heap.objs.size = N) (a1 : x1.cps.all (· < 128) = true) {Q : Value → Shared → Prop} (got : ∀ h', Side1 h' (N + 3) (N + 1) (N + 2) N x1 t1 0 → (∀ b o, s.heap.get? b = some o → h'.get? b = some o) → Q (.ref (N + 3)) { s with heap := h' }) :
    wpAny (model P w) A (call (.type "zip") [.str x1 t1]) Q E s := by
  refine callType_new F.called_zip (by decide) (tcheck1 _ ) (ncheck1 _ ) (fun obj => icheck1 obj _ ) F.entry_zip_new new1_meets ⟨a1, ?_⟩
  have size1 : (laid1_1 s.heap x1 t1).objs.size = N + 1 := by rw [Heap.size_push, eN]
  have size2 : (laid1_2 s.heap x1 t1).objs.size = N + 2 := by rw [Heap.size_push, size1]
  have size3 : (laid1_3 s.heap x1 t1).objs.size = N + 3 := by rw [Heap.size_push, size2]
  have size4 : (laid1_4 s.heap x1 t1).objs.size = N + 4 := by rw [Heap.size_push, size3]
  have at1 : (laid1_4 s.heap x1 t1).get? s.heap.objs.size = some _ := (Heap.get?_push_of_some _ (Heap.get?_push_of_some _ (Heap.get?_push_of_some _ (Heap.get?_push_size _ rfl))))
  rw [eN] at at1
  have at_src : (laid1_4 s.heap x1 t1).get? (laid1_1 s.heap x1 t1).objs.size = some _ := (Heap.get?_push_of_some _ (Heap.get?_push_of_some _ (Heap.get?_push_size _ rfl)))
  rw [size1] at at_src
  have at_out : (laid1_4 s.heap x1 t1).get? (laid1_2 s.heap x1 t1).objs.size = some _ := (Heap.get?_push_of_some _ (Heap.get?_push_size _ rfl))
  rw [size2] at at_out
  have at_z : (laid1_4 s.heap x1 t1).get? (laid1_3 s.heap x1 t1).objs.size = some _ := (Heap.get?_push_size _ rfl)
  rw [size3, size1, size2] at at_z
  have src' : (laid1_4 s.heap x1 t1).get? (N + 1) = some { cls := .type "tuple", data := .seq #[.ref N] } := by
    rw [at_src, eN]
  show _ ∧ _
  rw [size3]
  exact ⟨⟨_, at_z, rfl⟩, got _ ⟨⟨_, _, at_z, .inl rfl, .inl rfl⟩, src', ⟨_, at_out⟩, ⟨_, at1, rfl, rfl⟩⟩ fun b o e => (Heap.get?_push_of_some _ (Heap.get?_push_of_some _ (Heap.get?_push_of_some _ (Heap.get?_push_of_some _ e))))⟩
theorem turn_side1 {K : PySem.W.Frag} {nm : Str} {np : Pos} {m : Nat} {z TI TO i1 : Addr} (apart : [z, TI, TO, i1].Nodup) (l1 : x1.cps.size = m) :
    Turn P w K (.Name nm np) (Itn [x1] m) [z, TI, TO, i1] z (fun i h => Side1 h z TI TO i1 x1 t1 i) where
  mem := by simp
  obj := fun i h S b hb => by
    obtain ⟨⟨f0, b1, q1, _⟩, q2, ⟨_, q3⟩, ⟨o1, e1, _, d1⟩⟩ := S
    have where_ : b = z ∨ b = TI ∨ b = TO ∨ b = i1 := by simpa using hb
    rcases where_ with rfl | rfl | rfl | rfl
    · exact ⟨_, q1, fun v q => nomatch q⟩
    · exact ⟨_, q2, fun v q => nomatch q⟩
    · exact ⟨_, q3, fun v q => nomatch q⟩
    · exact ⟨o1, e1, fun v q => by rw [d1] at q; cases q⟩
  keep := fun i h h' S k => side1_keep S k
  item := by
    rintro X rfl rfl rfl calm i pins s σ H E I fp S lt
    have lt' : i < m := lt
    have c1 : x1.cps[i]? = some (x1.cps.getD i 0) := sign_there (by omega)
    have below : ∀ b ∈ [z, TI, TO, i1], b < s.heap.objs.size := fun b hb => by
      obtain ⟨⟨f0, b1, q1, _⟩, q2, ⟨_, q3⟩, ⟨o1, e1, _, d1⟩⟩ := S
      have where_ : b = z ∨ b = TI ∨ b = TO ∨ b = i1 := by simpa using hb
      rcases where_ with rfl | rfl | rfl | rfl
      · exact Heap.lt_size q1
      · exact Heap.lt_size q2
      · exact Heap.lt_size q3
      · exact Heap.lt_size e1
    refine next1_item (I.ok.hd calm) apart S c1 fun h' tk u1 S' made size_ keep => ?_
    have new : ObjOk X.prog X.w (upd H s.heap.objs.size (.tup ([x1].map (signAt i)))) h' s.heap.objs.size (.tup ([x1].map (signAt i))) :=
      ⟨by show 1 ≤ sizeLine; decide, _, .cons ⟨_, rfl⟩ .nil, ⟨_, made, rfl, _, rfl⟩⟩
    have J := I.turnedNew (t' := tk) (ch := [z, TI, TO, i1]) (fun b o nb q => keep b o (fun e => nb (by simp [e])) (fun e => nb (by simp [e])) (fun e => nb (by simp [e])) q) fp (Nat.le_refl _) new
    refine ⟨.ref s.heap.objs.size, rfl, wpAny_pure ⟨.ref s.heap.objs.size, _, J, rfl, ⟨_, rfl, I.hok.fresh (Nat.le_refl _), rfl⟩, S', fun b hb => ?_⟩⟩
    rw [upd_ne (Nat.ne_of_lt (below b hb))]
    exact (fp b hb).1
  done := by
    rintro X rfl rfl rfl calm i pins s σ H E I fp S stop
    have stop' : m ≤ i := stop
    have c1 : x1.cps[i]? = none := Array.getElem?_eq_none (by omega)
    exact next1_end (I.ok.hd calm) apart S c1 fun h' keep => ⟨rfl, I.turnedL (t' := s.toks) (ch := [z, TI, TO, i1]) (fun b o nb q => keep b o (fun e => nb (by simp [e])) (fun e => nb (by simp [e])) (fun e => nb (by simp [e])) q) fp⟩
  self := fun A i s Q E S h => by
    obtain ⟨f0, b1, at_z, _⟩ := S.zip
    exact iter_self at_z h
end
section
variable {P : Program} {w : World} {A : Around} {E : Value → Shared → Prop} {s : Shared} {x1 x2 : Str} {t1 t2 : Tok}
theorem call_zip2 {N : Nat} (eN : s.heap.objs.size = N) (a1 : x1.cps.all (· < 128) = true) (a2 : x2.cps.all (· < 128) = true) {Q : Value → Shared → Prop} (got : ∀ h', Side2 h' (N + 4) (N + 2) (N + 3) N (N + 1) x1 x2 t1 t2 0 → (∀ b o, s.heap.get? b = some o → h'.get? b = some o) → Q (.ref (N + 4)) { s with heap := h' }) :
    wpAny (model P w) A (call (.type "zip") [.str x1 t1, .str x2 t2]) Q E s := by
  subst eN
  have ty1 : strIterType x1 = "str_ascii_iterator" := by simp [strIterType, a1]
  have ty2 : strIterType x2 = "str_ascii_iterator" := by simp [strIterType, a2]
  refine zip_begins2 (begins_text x1 t1) (begins_text x2 t2) trivial trivial fun h' q1 q2 q3 w1 w2 _ keep => got h' ⟨⟨_, _, q1, .inl rfl, .inl rfl⟩, q2, ⟨_, _, q3⟩, ⟨_, w1, congrArg Value.type ty1, rfl⟩, ⟨_, w2, congrArg Value.type ty2, rfl⟩⟩ keep
theorem turn_side2 {K : PySem.W.Frag} {nm : Str} {np : Pos} {m : Nat} {z TI TO i1 i2 : Addr} (apart : [z, TI, TO, i1, i2].Nodup) (l1 : x1.cps.size = m) (l2 : x2.cps.size = m) :
    Turn P w K (.Name nm np) (Itn [x1, x2] m) [z, TI, TO, i1, i2] z (fun i h => Side2 h z TI TO i1 i2 x1 x2 t1 t2 i) where
  mem := by simp
  obj := fun i h S b hb => by
    obtain ⟨⟨f0, b1, q1, _⟩, q2, ⟨_, _, q3⟩, ⟨o1, e1, _, d1⟩, ⟨o2, e2, _, d2⟩⟩ := S
    have where_ : b = z ∨ b = TI ∨ b = TO ∨ b = i1 ∨ b = i2 := by simpa using hb
    rcases where_ with rfl | rfl | rfl | rfl | rfl
    · exact ⟨_, q1, fun v q => nomatch q⟩
    · exact ⟨_, q2, fun v q => nomatch q⟩
    · exact ⟨_, q3, fun v q => nomatch q⟩
    · exact ⟨o1, e1, fun v q => by rw [d1] at q; cases q⟩
    · exact ⟨o2, e2, fun v q => by rw [d2] at q; cases q⟩
  keep := fun i h h' S k => side2_keep S k
  item := by
    rintro X rfl rfl rfl calm i pins s σ H E I fp S lt
    have lt' : i < m := lt
    have c1 : x1.cps[i]? = some (x1.cps.getD i 0) := sign_there (by omega)
    have c2 : x2.cps[i]? = some (x2.cps.getD i 0) := sign_there (by omega)
    have below : ∀ b ∈ [z, TI, TO, i1, i2], b < s.heap.objs.size := fun b hb => by
      obtain ⟨⟨f0, b1, q1, _⟩, q2, ⟨_, _, q3⟩, ⟨o1, e1, _, d1⟩, ⟨o2, e2, _, d2⟩⟩ := S
      have where_ : b = z ∨ b = TI ∨ b = TO ∨ b = i1 ∨ b = i2 := by simpa using hb
      rcases where_ with rfl | rfl | rfl | rfl | rfl
      · exact Heap.lt_size q1
      · exact Heap.lt_size q2
      · exact Heap.lt_size q3
      · exact Heap.lt_size e1
      · exact Heap.lt_size e2
    refine next2_item (I.ok.hd calm) apart S c1 c2 fun h' tk u1 u2 S' made size_ keep => ?_
    have new : ObjOk X.prog X.w (upd H s.heap.objs.size (.tup ([x1, x2].map (signAt i)))) h' s.heap.objs.size (.tup ([x1, x2].map (signAt i))) :=
      ⟨by show 2 ≤ sizeLine; decide, _, .cons ⟨_, rfl⟩ (.cons ⟨_, rfl⟩ .nil), ⟨_, made, rfl, _, rfl⟩⟩
    have J := I.turnedNew (t' := tk) (ch := [z, TI, TO, i1, i2]) (fun b o nb q => keep b o (fun e => nb (by simp [e])) (fun e => nb (by simp [e])) (fun e => nb (by simp [e])) (fun e => nb (by simp [e])) q) fp (Nat.le_refl _) new
    refine ⟨.ref s.heap.objs.size, rfl, wpAny_pure ⟨.ref s.heap.objs.size, _, J, rfl, ⟨_, rfl, I.hok.fresh (Nat.le_refl _), rfl⟩, S', fun b hb => ?_⟩⟩
    rw [upd_ne (Nat.ne_of_lt (below b hb))]
    exact (fp b hb).1
  done := by
    rintro X rfl rfl rfl calm i pins s σ H E I fp S stop
    have stop' : m ≤ i := stop
    have c1 : x1.cps[i]? = none := Array.getElem?_eq_none (by omega)
    exact next2_end (I.ok.hd calm) apart S c1 fun h' keep => ⟨rfl, I.turnedL (t' := s.toks) (ch := [z, TI, TO, i1, i2]) (fun b o nb q => keep b o (fun e => nb (by simp [e])) (fun e => nb (by simp [e])) (fun e => nb (by simp [e])) (fun e => nb (by simp [e])) q) fp⟩
  self := fun A i s Q E S h => by
    obtain ⟨f0, b1, at_z, _⟩ := S.zip
    exact iter_self at_z h
end
section
variable {P : Program} {w : World} {A : Around} {E : Value → Shared → Prop} {s : Shared} {x1 x2 x3 : Str} {t1 t2 t3 : Tok}
theorem call_zip3 {N : Nat} (eN : s.heap.objs.size = N) (a1 : x1.cps.all (· < 128) = true) (a2 : x2.cps.all (· < 128) = true) (a3 : x3.cps.all (· < 128) = true) {Q : Value → Shared → Prop} (got : ∀ h', Side3 h' (N + 5) (N + 3) (N + 4) N (N + 1) (N + 2) x1 x2 x3 t1 t2 t3 0 → (∀ b o, s.heap.get? b = some o → h'.get? b = some o) → Q (.ref (N + 5)) { s with heap := h' }) :
    wpAny (model P w) A (call (.type "zip") [.str x1 t1, .str x2 t2, .str x3 t3]) Q E s := by
  subst eN
  have ty1 : strIterType x1 = "str_ascii_iterator" := by simp [strIterType, a1]
  have ty2 : strIterType x2 = "str_ascii_iterator" := by simp [strIterType, a2]
  have ty3 : strIterType x3 = "str_ascii_iterator" := by simp [strIterType, a3]
  refine zip_begins3 (begins_text x1 t1) (begins_text x2 t2) (begins_text x3 t3) trivial trivial trivial fun h' q1 q2 q3 w1 w2 w3 _ keep => got h' ⟨⟨_, _, q1, .inl rfl, .inl rfl⟩, q2, ⟨_, _, _, q3⟩, ⟨_, w1, congrArg Value.type ty1, rfl⟩, ⟨_, w2, congrArg Value.type ty2, rfl⟩, ⟨_, w3, congrArg Value.type ty3, rfl⟩⟩ keep
theorem turn_side3 {K : PySem.W.Frag} {nm : Str} {np : Pos} {m : Nat} {z TI TO i1 i2 i3 : Addr} (apart : [z, TI, TO, i1, i2, i3].Nodup) (l1 : x1.cps.size = m) (l2 : x2.cps.size = m) (l3 : x3.cps.size = m) :
    Turn P w K (.Name nm np) (Itn [x1, x2, x3] m) [z, TI, TO, i1, i2, i3] z (fun i h => Side3 h z TI TO i1 i2 i3 x1 x2 x3 t1 t2 t3 i) where
  mem := by simp
  obj := fun i h S b hb => by
    obtain ⟨⟨f0, b1, q1, _⟩, q2, ⟨_, _, _, q3⟩, ⟨o1, e1, _, d1⟩, ⟨o2, e2, _, d2⟩, ⟨o3, e3, _, d3⟩⟩ := S
    have where_ : b = z ∨ b = TI ∨ b = TO ∨ b = i1 ∨ b = i2 ∨ b = i3 := by simpa using hb
    rcases where_ with rfl | rfl | rfl | rfl | rfl | rfl
    · exact ⟨_, q1, fun v q => nomatch q⟩
    · exact ⟨_, q2, fun v q => nomatch q⟩
    · exact ⟨_, q3, fun v q => nomatch q⟩
    · exact ⟨o1, e1, fun v q => by rw [d1] at q; cases q⟩
    · exact ⟨o2, e2, fun v q => by rw [d2] at q; cases q⟩
    · exact ⟨o3, e3, fun v q => by rw [d3] at q; cases q⟩
  keep := fun i h h' S k => side3_keep S k
  item := by
    rintro X rfl rfl rfl calm i pins s σ H E I fp S lt
    have lt' : i < m := lt
    have c1 : x1.cps[i]? = some (x1.cps.getD i 0) := sign_there (by omega)
    have c2 : x2.cps[i]? = some (x2.cps.getD i 0) := sign_there (by omega)
    have c3 : x3.cps[i]? = some (x3.cps.getD i 0) := sign_there (by omega)
    have below : ∀ b ∈ [z, TI, TO, i1, i2, i3], b < s.heap.objs.size := fun b hb => by
      obtain ⟨⟨f0, b1, q1, _⟩, q2, ⟨_, _, _, q3⟩, ⟨o1, e1, _, d1⟩, ⟨o2, e2, _, d2⟩, ⟨o3, e3, _, d3⟩⟩ := S
      have where_ : b = z ∨ b = TI ∨ b = TO ∨ b = i1 ∨ b = i2 ∨ b = i3 := by simpa using hb
      rcases where_ with rfl | rfl | rfl | rfl | rfl | rfl
      · exact Heap.lt_size q1
      · exact Heap.lt_size q2
      · exact Heap.lt_size q3
      · exact Heap.lt_size e1
      · exact Heap.lt_size e2
      · exact Heap.lt_size e3
    refine next3_item (I.ok.hd calm) apart S c1 c2 c3 fun h' tk u1 u2 u3 S' made size_ keep => ?_
    have new : ObjOk X.prog X.w (upd H s.heap.objs.size (.tup ([x1, x2, x3].map (signAt i)))) h' s.heap.objs.size (.tup ([x1, x2, x3].map (signAt i))) :=
      ⟨by show 3 ≤ sizeLine; decide, _, .cons ⟨_, rfl⟩ (.cons ⟨_, rfl⟩ (.cons ⟨_, rfl⟩ .nil)), ⟨_, made, rfl, _, rfl⟩⟩
    have J := I.turnedNew (t' := tk) (ch := [z, TI, TO, i1, i2, i3]) (fun b o nb q => keep b o (fun e => nb (by simp [e])) (fun e => nb (by simp [e])) (fun e => nb (by simp [e])) (fun e => nb (by simp [e])) (fun e => nb (by simp [e])) q) fp (Nat.le_refl _) new
    refine ⟨.ref s.heap.objs.size, rfl, wpAny_pure ⟨.ref s.heap.objs.size, _, J, rfl, ⟨_, rfl, I.hok.fresh (Nat.le_refl _), rfl⟩, S', fun b hb => ?_⟩⟩
    rw [upd_ne (Nat.ne_of_lt (below b hb))]
    exact (fp b hb).1
  done := by
    rintro X rfl rfl rfl calm i pins s σ H E I fp S stop
    have stop' : m ≤ i := stop
    have c1 : x1.cps[i]? = none := Array.getElem?_eq_none (by omega)
    exact next3_end (I.ok.hd calm) apart S c1 fun h' keep => ⟨rfl, I.turnedL (t' := s.toks) (ch := [z, TI, TO, i1, i2, i3]) (fun b o nb q => keep b o (fun e => nb (by simp [e])) (fun e => nb (by simp [e])) (fun e => nb (by simp [e])) (fun e => nb (by simp [e])) (fun e => nb (by simp [e])) q) fp⟩
  self := fun A i s Q E S h => by
    obtain ⟨f0, b1, at_z, _⟩ := S.zip
    exact iter_self at_z h
end

def iZips (K : PySem.W.Frag) (te : TE) : TI := fun σ H R => te σ H fun v H1 => ∃ (a : Addr) (ys : List Str) (m : Nat), v = .ref a ∧ SqT K H1 a (ys.map V.str) ∧ 1 ≤ ys.length ∧ ys.length ≤ 3 ∧
  (∀ y ∈ ys, y.cps.size = m ∧ y.cps.all (· < 128) = true) ∧ R (Itn ys m) H1
theorem pi_zips {X : Cx} {e : Expr} {te : TE} {p sp pos np : Pos} {nm : Str} (hg : Gl X "zip") (hm : X.mg "zip" = none) (he : PE X e te)
    (one : starEach [.Starred e sp] X.env = [(true, eval e X.env)] := by rfl) :
    PI X (.Name nm np) (.Call (.Name "zip" p) [.Starred e sp] [] pos) (iZips X.K te) := by
  refine ⟨fun pins s σ H R I h => ?_⟩
  refine Call_ (ld_blt I hg hm PyProof.Rows.boot_zip ?_)
  rw [one]
  refine PySem.W.ks_call (P := fun _ => True) rfl (fun _ _ => ⟨.machine, .inr (.inl rfl), .now⟩) (PySem.W.ks_lone (thn (he.run pins s σ H _ I h) fun u s1 ⟨v, H1, I1, rv, q⟩ => ?_))
  obtain ⟨a, ys, m, rfl, hT, n1, n3, same, q⟩ := q
  cases rv
  obtain ⟨its, vals, ⟨⟨cls, dd, dat, sl⟩, at_a, hc, n, hd⟩, hz⟩ := I1.tuple hT
  simp only at hc hd
  subst hc hd
  have isT : s1.TypeIs (.ref a) "tuple" := ⟨_, at_a, rfl⟩
  refine wpAny_bind (wpAny_specialOf isT F.slot_tuple_iter.lookup (wpAny_pure ⟨rfl, ?_⟩))
  refine wpAny_collect_seq a (.inr rfl) at_a rfl rfl (fun h' keep => ⟨True.intro, ?_⟩) (by rw [List.size_toArray, ← vals.length]; exact hz)
  have I2 : Inv X pins σ H1 { s1 with heap := h' } := I1.kept (t' := s1.toks) keep
  have fresh_fp : ∀ {h2 : Heap} {L : List Addr}, (∀ b ∈ L, h'.objs.size ≤ b) → (∀ b o, h'.get? b = some o → h2.get? b = some o) → ∀ b ∈ L, FpOk X pins H1 b := fun {h2 L} below k b hb =>
    I2.fpOk (below b hb) (I2.hok.fresh (below b hb))

  -- 1
  have case1 : ∀ {y1 : Str} {us : List Value}, Vals ([y1].map V.str) us → (y1.cps.size = m ∧ y1.cps.all (· < 128) = true) → R (Itn [y1] m) H1 → wpAny (model X.prog X.w) X.A (call (.type "zip") us) (fun v s2 => wpAny (model X.prog X.w) X.A (pyIter v) (PIE X pins σ (.Name nm np) R) X.xe s2) X.xe { s1 with heap := h' } := by
    intro y1 us vs g1 q
    obtain _ | ⟨⟨t1, rfl⟩, vs1⟩ := vs
    cases vs1
    refine call_zip1 rfl g1.2 fun h2 S k => ?_
    obtain ⟨f0, b1, at_z, _⟩ := S.zip
    refine iter_self (s := { s1 with heap := h2 }) at_z ?_
    have I3 : Inv X pins σ H1 { s1 with heap := h2 } := I2.kept (t' := s1.toks) k
    exact ⟨_, _, _, _, H1, rfl, I3, turn_side1 (by simp) g1.1, S, fresh_fp (h2 := h2) (by simp) k, q⟩
  -- 2
  have case2 : ∀ {y1 y2 : Str} {us : List Value}, Vals ([y1, y2].map V.str) us → (y1.cps.size = m ∧ y1.cps.all (· < 128) = true) → (y2.cps.size = m ∧ y2.cps.all (· < 128) = true) → R (Itn [y1, y2] m) H1 → wpAny (model X.prog X.w) X.A (call (.type "zip") us) (fun v s2 => wpAny (model X.prog X.w) X.A (pyIter v) (PIE X pins σ (.Name nm np) R) X.xe s2) X.xe { s1 with heap := h' } := by
    intro y1 y2 us vs g1 g2 q
    obtain _ | ⟨⟨t1, rfl⟩, vs1⟩ := vs
    obtain _ | ⟨⟨t2, rfl⟩, vs2⟩ := vs1
    cases vs2
    refine call_zip2 rfl g1.2 g2.2 fun h2 S k => ?_
    obtain ⟨f0, b1, at_z, _⟩ := S.zip
    refine iter_self (s := { s1 with heap := h2 }) at_z ?_
    have I3 : Inv X pins σ H1 { s1 with heap := h2 } := I2.kept (t' := s1.toks) k
    exact ⟨_, _, _, _, H1, rfl, I3, turn_side2 (by simp) g1.1 g2.1, S, fresh_fp (h2 := h2) (by simp) k, q⟩
  -- 3
  have case3 : ∀ {y1 y2 y3 : Str} {us : List Value}, Vals ([y1, y2, y3].map V.str) us → (y1.cps.size = m ∧ y1.cps.all (· < 128) = true) → (y2.cps.size = m ∧ y2.cps.all (· < 128) = true) → (y3.cps.size = m ∧ y3.cps.all (· < 128) = true) → R (Itn [y1, y2, y3] m) H1 → wpAny (model X.prog X.w) X.A (call (.type "zip") us) (fun v s2 => wpAny (model X.prog X.w) X.A (pyIter v) (PIE X pins σ (.Name nm np) R) X.xe s2) X.xe { s1 with heap := h' } := by
    intro y1 y2 y3 us vs g1 g2 g3 q
    obtain _ | ⟨⟨t1, rfl⟩, vs1⟩ := vs
    obtain _ | ⟨⟨t2, rfl⟩, vs2⟩ := vs1
    obtain _ | ⟨⟨t3, rfl⟩, vs3⟩ := vs2
    cases vs3
    refine call_zip3 rfl g1.2 g2.2 g3.2 fun h2 S k => ?_
    obtain ⟨f0, b1, at_z, _⟩ := S.zip
    refine iter_self (s := { s1 with heap := h2 }) at_z ?_
    have I3 : Inv X pins σ H1 { s1 with heap := h2 } := I2.kept (t' := s1.toks) k
    exact ⟨_, _, _, _, H1, rfl, I3, turn_side3 (by simp) g1.1 g2.1 g3.1, S, fresh_fp (h2 := h2) (by simp) k, q⟩
  rcases ys with _ | ⟨y1, _ | ⟨y2, _ | ⟨y3, _ | ⟨y4, r⟩⟩⟩⟩
  · exact absurd n1 (by decide)
  · exact case1 vals (same y1 (by simp)) q
  · exact case2 vals (same y1 (by simp)) (same y2 (by simp)) q
  · exact case3 vals (same y1 (by simp)) (same y2 (by simp)) (same y3 (by simp)) q
  · exact absurd n3 (by simp)
end Tv

namespace Tv
open PySem PySem.Spec PyProof.Rows L2
/-! ### for a, b in zip(list, text) -/
/-- the list at a as it stands, beside the text y of as many signs -/
def Itx (K : PySem.W.Frag) (a : Addr) (y : Str) : It :=
  ⟨fun i H => ∃ (xs : List V) (x : V), SqL K H a xs ∧ xs[i]? = some x ∧ xs.length = y.cps.size,
    fun i H v H' => ∃ T x, v = .ref T ∧ H T = none ∧ H' = upd H T (.tup [x, signAt i y]) ∧ ∀ xs, SqL K H a xs → xs[i]? = some x,
    fun i H => ∃ xs : List V, SqL K H a xs ∧ xs.length = y.cps.size ∧ xs.length = i⟩
abbrev SideLS (h : Heap) (z TI TO i1 i2 a : Addr) (y : Str) (t : Tok) (i : Nat) : Prop :=
  IsZip h z TI TO .none ∧ IsTupOf2 h TI (.ref i1) (.ref i2) ∧ (∃ v u, IsTupOf2 h TO v u) ∧ h.IsListIter i1 a i ∧ h.IsStrIter i2 "str_ascii_iterator" y t i
theorem turn_sideLS {P : Program} {w : World} {K : PySem.W.Frag} {elts : List Expr} {kk : Nat} {tpos : Pos} {z TI TO i1 i2 a : Addr} {y : Str} {t : Tok} (S : ZipSep2 z TI TO i1 i2 [i1, a] [i2]) (na : a ≠ i1) :
    Turn P w K (.Tuple elts kk tpos) (Itx K a y) [z, TI, TO, i1, i2] z (fun i h => SideLS h z TI TO i1 i2 a y t i) where
  mem := by simp
  obj := fun i h st b hb => by
    obtain ⟨q1, q2, ⟨_, _, q3⟩, ⟨o1, e1, _, d1⟩, ⟨o2, e2, _, d2⟩⟩ := st
    have where_ : b = z ∨ b = TI ∨ b = TO ∨ b = i1 ∨ b = i2 := by simpa using hb
    rcases where_ with rfl | rfl | rfl | rfl | rfl
    · exact ⟨_, q1, fun v q => nomatch q⟩
    · exact ⟨_, q2, fun v q => nomatch q⟩
    · exact ⟨_, q3, fun v q => nomatch q⟩
    · exact ⟨o1, e1, fun v q => by rw [d1] at q; cases q⟩
    · exact ⟨o2, e2, fun v q => by rw [d2] at q; cases q⟩
  keep := fun i h h' ⟨q1, q2, ⟨v, u, q3⟩, q4, q5⟩ k =>
    ⟨k _ (by simp) _ q1, k _ (by simp) _ q2, ⟨v, u, k _ (by simp) _ q3⟩, q4.at fun o q => k _ (by simp) o q, str_at q5 fun o q => k _ (by simp) o q⟩
  item := by
    rintro X rfl rfl rfl calm i pins s σ H E I fp ⟨q1, q2, ⟨v0, u0, q3⟩, q4, q5⟩ ⟨xs, x, hx, at_x, same⟩
    obtain ⟨its, vals, p, _⟩ := I.list hx
    obtain ⟨u, at_u, ru⟩ := vals.get at_x
    have lt : i < xs.length := (List.getElem?_eq_some_iff.mp at_x).1
    have many := vals.length
    have lz := Heap.lt_size q1
    have hh : X.A.handled = none := I.ok.hd calm
    refine wpAny_pyNext_zipD2_item S (Draws.list (A := X.A.in1) hh i1 a na its.toArray) (Draws.strAscii (A := X.A.in1) hh i2 y t) q1 q2 q3 ⟨q4, p.isList⟩ q5
      (by rw [List.size_toArray]; omega) (by omega) fun w1 w2 h' tk p1 p2 z' out' st1 st2 made size_ keep => ?_
    refine ⟨_, rfl, wpAny_letOwnedTupleGo_zip (s := { s with heap := h', toks := tk }) z' fun h2 z2 same2 => ?_⟩
    have made2 : h2.get? s.heap.objs.size = some { cls := .type "tuple", data := .seq #[w1, w2] } := (same2.2 _ (Nat.ne_of_gt lz)).trans made
    obtain ⟨c, uc, at_c, rfl⟩ := p2
    have eu : w1 = u := by
      have p1' : its.toArray[i]? = some w1 := p1
      rw [List.getElem?_toArray, at_u] at p1'
      exact (Option.some.inj p1').symm
    subst eu
    have ec : signAt i y = .str ⟨#[c]⟩ := by
      unfold signAt
      rw [Array.getD_eq_getD_getElem?, at_c]
      rfl
    have new : ObjOk X.prog X.w (upd H s.heap.objs.size (.tup [x, signAt i y])) h2 s.heap.objs.size (.tup [x, signAt i y]) :=
      ⟨by show 2 ≤ sizeLine; decide, _, .cons ru (.cons (by rw [ec]; exact ⟨_, rfl⟩) .nil), ⟨_, made2, rfl, _, rfl⟩⟩
    have keep2 : ∀ b o, b ∉ [z, TI, TO, i1, i2] → s.heap.get? b = some o → h2.get? b = some o := fun b o nb q =>
      (same2.2 b fun e => nb (by simp [e])).trans (keep b o (fun e => nb (by simp [e])) (fun e => nb (by simp [e])) (fun e => nb (by simp [e])) (fun e => nb (by simp [e])) q)
    have J := I.turnedNew (t' := tk) (ch := [z, TI, TO, i1, i2]) keep2 fp (Nat.le_refl _) new
    refine ⟨.ref s.heap.objs.size, _, J, rfl, ⟨_, x, rfl, I.hok.fresh (Nat.le_refl _), rfl, fun l hl => by rw [I.list_inj hl hx]; exact at_x⟩, ⟨z2, ?_, ⟨w1, .str ⟨#[c]⟩ uc, ?_⟩, ?_, ?_⟩, fun b hb => ?_⟩
    · exact (same2.2 _ S.TIz).trans (keep _ _ S.TIz S.TITO S.TIi1 S.TIi2 q2)
    · exact (same2.2 _ S.TOz).trans out'
    · exact st1.1.at fun o q => (same2.2 _ S.zi1.symm).trans q
    · exact str_at st2 fun o q => (same2.2 _ S.zi2.symm).trans q
    · have lb : b < s.heap.objs.size := by
        obtain ⟨o1, e1, _⟩ := q4
        obtain ⟨o2, e2, _⟩ := q5
        have where_ : b = z ∨ b = TI ∨ b = TO ∨ b = i1 ∨ b = i2 := by simpa using hb
        rcases where_ with rfl | rfl | rfl | rfl | rfl
        · exact lz
        · exact Heap.lt_size q2
        · exact Heap.lt_size q3
        · exact Heap.lt_size e1
        · exact Heap.lt_size e2
      rw [upd_ne (Nat.ne_of_lt lb)]
      exact (fp b hb).1
  done := by
    rintro X rfl rfl rfl calm i pins s σ H E I fp ⟨q1, q2, ⟨v0, u0, q3⟩, q4, q5⟩ ⟨xs, hx, same, over⟩
    obtain ⟨its, vals, p, _⟩ := I.list hx
    have many := vals.length
    have hh : X.A.handled = none := I.ok.hd calm
    exact wpAny_pyNext_zipD2_end S (Draws.list (A := X.A.in1) hh i1 a na its.toArray) (Draws.strAscii (A := X.A.in1) hh i2 y t) q1 q2 q3 ⟨q4, p.isList⟩ q5
      (by rw [List.size_toArray]; omega) (by omega) (.inl (by rw [List.size_toArray]; omega)) fun h' tk keep =>
      ⟨rfl, I.turnedL (t' := tk) (ch := [z, TI, TO, i1, i2]) (fun b o nb q => keep b o (fun e => nb (by simp [e])) (fun e => nb (by simp [e])) (fun e => nb (by simp [e])) (fun e => nb (by simp [e])) q) fp⟩
  self := fun A i s Q E st h => wpAny_pyIter_zip st.1 h
def iZipLS (K : PySem.W.Frag) (ta : TA) : TI := fun σ H R => ta σ H fun vs H1 => ∃ (a : Addr) (xs : List V) (y : Str), vs = [.ref a, .str y] ∧ SqL K H1 a xs ∧ y.cps.all (· < 128) = true ∧ R (Itx K a y) H1
theorem pi_zipLS {X : Cx} {e e2 : Expr} {ta : TA} {p pos tpos : Pos} {elts : List Expr} {kk : Nat} (hg : Gl X "zip") (hm : X.mg "zip" = none) (ha : PA X [e, e2] ta)
    (two : starEach [e, e2] X.env = (false, eval e X.env) :: starEach [e2] X.env := by rfl) (plain : (backTo pos (starEach [e2] X.env)).any (·.1) = false := by rfl) :
    PI X (.Tuple elts kk tpos) (.Call (.Name "zip" p) [e, e2] [] pos) (iZipLS X.K ta) := by
  refine ⟨fun pins s σ H R I h => ?_⟩
  refine Call_ (ld_blt I hg hm PyProof.Rows.boot_zip (PyProof.Rows.callWith_type1 (thn (ha.run pos pins s σ H _ I h) fun us s1 ⟨vs, H1, I1, r1, q1⟩ => ?_) two plain))
  obtain ⟨a, xs, y, rfl, hx, ascii, q⟩ := q1
  obtain _ | ⟨r0, rr⟩ := r1
  obtain _ | ⟨⟨t, rfl⟩, rr⟩ := rr
  cases rr
  cases r0
  obtain ⟨its, vals, p1, _⟩ := I1.list hx
  have la : a < s1.heap.objs.size := p1.lt
  have ty : strIterType y = "str_ascii_iterator" := by simp [strIterType, ascii]
  refine zip_begins2 (begins_list a its.toArray) (begins_text y t) p1.isList trivial fun h' c1 c2 c3 c4 c5 size_ keep => wpAny_pyIter_zip c1 ?_
  have I2 : Inv X pins σ H1 { s1 with heap := h' } := I1.kept (t' := s1.toks) keep
  refine ⟨_, [s1.heap.objs.size + 4, s1.heap.objs.size + 2, s1.heap.objs.size + 3, s1.heap.objs.size, s1.heap.objs.size + 1], _, _, H1, rfl, I2,
    turn_sideLS (t := t) (zip_sep2 (N := s1.heap.objs.size) (fp1 := [a]) (fp2 := []) (by simpa using la) (by simp)) (Nat.ne_of_lt la), ⟨c1, c2, ⟨_, _, c3⟩, ⟨_, c4, rfl, rfl⟩, ⟨_, c5, congrArg Value.type ty, rfl⟩⟩, fun b hb => ?_, q⟩
  have le : s1.heap.objs.size ≤ b := by
    have where_ : b = s1.heap.objs.size + 4 ∨ b = s1.heap.objs.size + 2 ∨ b = s1.heap.objs.size + 3 ∨ b = s1.heap.objs.size ∨ b = s1.heap.objs.size + 1 := by simpa using hb
    have n1 : s1.heap.objs.size ≤ s1.heap.objs.size + 4 := Nat.le_add_right ..
    rcases where_ with rfl | rfl | rfl | rfl | rfl
    · exact Nat.le_add_right ..
    · exact Nat.le_add_right ..
    · exact Nat.le_add_right ..
    · exact Nat.le_refl _
    · exact Nat.le_add_right ..
  exact I1.fpOk le (I1.hok.fresh le)
/-- the loop over it -/
theorem for_zipLS {K : PySem.W.Frag} {a : Addr} {xs : List V} {y : Str} {g : TG} {tb : TS} {D : Ends} {σ : L2.St} {H : Hp} (same : xs.length = y.cps.size) (Pv : Nat → L2.St → Hp → Prop) (h0 : Pv 0 σ H) (hq : ∀ i σ H, Pv i σ H → SqL K H a xs)
    (hs : ∀ (i : Nat) (x : V) (T : Addr) (σ : L2.St) (H : Hp), xs[i]? = some x → Pv i σ H → H T = none → g (.ref T) σ (upd H T (.tup [x, signAt i y])) fun σ2 H2 => tb { D with nx := Pv (i + 1), ct := Pv (i + 1), bk := D.nx } σ2 H2)
    (hd : ∀ σ H, Pv xs.length σ H → D.nx σ H) :
    ∃ W : Nat → Nat → L2.St → Hp → Prop, (∃ m, W 0 m σ H) ∧ ∀ i m σ H, W i m σ H →
      ((Itx K a y).stop i H ∧ D.nx σ H) ∨ ((Itx K a y).go i H ∧ ∃ N : L2.St → Hp → Prop, (∀ σ' H', N σ' H' → ∃ m', m' < m ∧ W (i + 1) m' σ' H') ∧ ∀ v H', (Itx K a y).yld i H v H' → g v σ H' fun σ2 H2 => tb { D with nx := N, ct := N, bk := D.nx } σ2 H2) := by
  refine ⟨fun i m σ H => m = xs.length - i ∧ i ≤ xs.length ∧ Pv i σ H, ⟨_, rfl, Nat.zero_le _, h0⟩, ?_⟩
  rintro i m σ H ⟨rfl, le, p⟩
  have here := hq i σ H p
  rcases Nat.lt_or_ge i xs.length with lt | ge
  · have at_x := List.getElem?_eq_getElem lt
    refine Or.inr ⟨⟨xs, _, here, at_x, same⟩, Pv (i + 1), fun σ' H' p' => ⟨xs.length - (i + 1), by omega, rfl, lt, p'⟩, ?_⟩
    rintro v H' ⟨T, x, rfl, none_, rfl, known⟩
    exact hs i x T σ H (known xs here) p none_
  · have e : i = xs.length := by omega
    rw [e] at p ⊢
    exact Or.inl ⟨⟨xs, here, same, rfl⟩, hd σ H p⟩
/-- the reading of a comprehension over texts side by side -/
theorem lc_zips {ys : List Str} {m : Nat} {g : TG} {tt : TT} {te : TE} {vs : List Nat} {σ : L2.St} {H1 : Hp} {D : Addr} {Qd : Hp → Prop} (Pv : Nat → Hp → Prop)
    (h0 : Pv 0 (upd H1 D (.lst [])))
    (hs : ∀ i T H, i < m → H T = none → Pv i H → g (.ref T) (wipe σ vs) (upd H T (.tup (ys.map (signAt i)))) fun σ2 H2 => wipe σ2 vs = wipe σ vs ∧ tt σ2 H2 fun b H3 =>
      if b = true then te σ2 H3 fun y H4 => ∃ acc, H4 D = some (.lst acc) ∧ acc.length < sizeLine ∧ Pv (i + 1) (upd H4 D (.lst (acc ++ [y]))) else Pv (i + 1) H3)
    (hd : ∀ H, Pv m H → Qd H) :
    ∃ W : Nat → Nat → Hp → Prop, (∃ m, W 0 m (upd H1 D (.lst []))) ∧ ∀ i k H, W i k H →
      ((Itn ys m).stop i H ∧ Qd H) ∨ ((Itn ys m).go i H ∧ ∃ Nx : Hp → Prop, (∀ H', Nx H' → ∃ m', m' < k ∧ W (i + 1) m' H') ∧
        ∀ v H', (Itn ys m).yld i H v H' → g v (wipe σ vs) H' fun σ2 H2 => wipe σ2 vs = wipe σ vs ∧ tt σ2 H2 fun b H3 =>
          if b = true then te σ2 H3 fun y H4 => ∃ acc, H4 D = some (.lst acc) ∧ acc.length < sizeLine ∧ Nx (upd H4 D (.lst (acc ++ [y]))) else Nx H3) := by
  refine ⟨fun i k H => k = m - i ∧ i ≤ m ∧ Pv i H, ⟨_, rfl, Nat.zero_le _, h0⟩, ?_⟩
  rintro i k H ⟨rfl, le, p⟩
  rcases Nat.lt_or_ge i m with lt | ge
  · refine Or.inr ⟨lt, Pv (i + 1), fun H' p' => ⟨m - (i + 1), by omega, rfl, lt, p'⟩, ?_⟩
    rintro v H' ⟨T, rfl, none_, rfl⟩
    exact hs i T H lt none_ p
  · have e : i = m := by omega
    rw [e] at p ⊢
    exact Or.inl ⟨Nat.le_refl _, hd H p⟩
end Tv

namespace Tv
open PySem PySem.Spec PyProof.Rows L2
/-! ### {k: v for target in iter}, the keys tuples -/
section
variable {X : Cx} {pins : List (Addr × Obj)} {σ : L2.St} {H : Hp} {s : Shared}
theorem put_tup {D b : Addr} {kvs : List (List Key × V)} {k : List Key} {v : V} {r : Value} {E : Value → Shared → Prop} {Q : Unit → Shared → Prop} (hu : X.A.units + 1 < cLine)
    (I : Inv X pins σ H s) (eD : H D = some (.dT kvs)) (few : kvs.length < sizeLine) (eb : H b = some (.tup (k.map kV))) (rv : RelV v r)
    (go : ∀ s', Inv X pins σ (upd H D (.dT (putK kvs k v))) s' → Q () s') : wpAny (model X.prog X.w) X.A (dictSet D (.ref b) r) Q E s := by
  obtain ⟨_, off, xs, kt, dd⟩ := dt_of I.hok eD
  have small : xs.length ≤ sizeLine := by
    rw [← Paired.length kt]
    omega
  have more := length_putK kvs k v
  have room : (tupleKind (mixKind X.prog X.w)).room X.A := by
    show X.A.units < cLine
    omega
  refine wpAny_dictSet_heap (hsz := small) room (key_of I.hok eb) dd fun h' dd' same => go _ ?_
  obtain ⟨q, es, ep, at_q, p2, p3, p4, _, p5⟩ := dd'
  have kt2 := (kt.put k eb rv).keeps (H' := upd H D (.dT (putK kvs k v))) fun c ys ec => (upd_ne (ne_of ec eD fun z => nomatch z)).trans ec
  exact d_write I (by rw [eD]; exact True.intro) same ⟨q, at_q⟩ ⟨by omega, off, _, kt2, q, es, ep, at_q, p2, p3, p4, p5⟩
end
/-- the new dict at D, turn by turn -/
def tDcT (wi : TI) (g : TG) (tk tv : TE) (vs : List Nat) : TE := fun σ H Q => wi σ H fun J H1 => ∀ D, H1 D = none → ∃ W : Nat → Nat → Hp → Prop, (∃ m, W 0 m (upd H1 D (.dT []))) ∧ ∀ i m H, W i m H →
  (J.stop i H ∧ Q (.ref D) H) ∨ (J.go i H ∧ ∃ Nx : Hp → Prop, (∀ H', Nx H' → ∃ m', m' < m ∧ W (i + 1) m' H') ∧ ∀ x H', J.yld i H x H' → g x (wipe σ vs) H' fun σ2 H2 => wipe σ2 vs = wipe σ vs ∧
    tk σ2 H2 fun y H4 => tv σ2 H4 fun z H5 => ∃ kvs k b, y = .ref b ∧ H5 b = some (.tup (List.map kV k)) ∧ H5 D = some (.dT kvs) ∧ kvs.length < sizeLine ∧ Nx (upd H5 D (.dT (putK kvs k z))))
section
variable {X : Cx} {kx vx tg iter : Expr} {scope : Scope} {own : List (Str × Nat)} {wi : TI} {g : TG} {tk tv : TE}
/-- the contexts in which the block's parts are read -/
abbrev Blk (X : Cx) (scope : Scope) (J : Cx → Prop) : Prop := ∀ (s : Shared) (H : Hp) (C : Addr) (cl : List (Str × Addr)) (fp : List Addr), J (X.blk s H scope (compEnvC scope cl C X.env) fp)
theorem pe_dcT {pos : Pos} (calm : X.calm = true) (nd : X.N.Nodup) (hu : X.A.units + 1 < cLine) (walk : PI X tg iter wi) (ok : BlkOk X.N X.env.scope scope own)
    (pg : Blk X scope fun Y => PG Y tg g) (pk : Blk X scope fun Y => PE Y kx tk) (pv : Blk X scope fun Y => PE Y vx tv) (plain : ∀ x, foldedSetIterable iter X.env x = pure x := by intro _; rfl) :
    PE X (.DictComp kx vx [⟨tg, iter, [], 0⟩] scope pos) (tDcT wi g tk tv (own.map (·.2))) := by
  refine ⟨fun pins s σ H Q I h => ?_⟩
  rw [arm_eval_DictComp]
  have closed : ∀ y ∈ scope.names, y.2 = .free → ∃ c, X.env.cells.lookup y.1 = some c := by
    intro y hy e
    rcases ok.free y hy e with k | k
    · exact I.ok.has _ (.inl k)
    · exact I.ok.has _ (.inr k)
  refine wpAny_comprehension_free rfl plain (closure_ok closed) ok.kind (fun y hy e => by rw [ok.uniq y hy, e]) ?_
  refine thn (walk.run pins s σ H _ I h) fun xv s1 hx => thn hx fun itv s2 ⟨it, fp, tn, J, H2, e, I2, T, st2, f2, q⟩ => ?_
  subst e
  refine wpAny_newObj_type (newEnv_comp ?_)
  have none_ : H2 s2.heap.objs.size = none := I2.hok.fresh (Nat.le_refl _)
  obtain ⟨W, ⟨m0, w0⟩, turn⟩ := q _ none_
  have old : ∀ b ∈ fp, b < s2.heap.objs.size := fun b hb => Heap.lt_size (T.obj _ _ st2 b hb).choose_spec.1
  -- the new dict
  have I3 : Inv X pins σ (upd H2 s2.heap.objs.size (.dT [])) { s2 with heap := s2.heap.push { cls := .type "dict", data := .dict #[] } } :=
    I2.laid (t' := s2.toks) (fun b o e => Heap.get?_push_of_some _ e) (Nat.le_refl _) (dt_empty s2.heap I2.big)
  have st3 : tn 0 (s2.heap.push { cls := .type "dict", data := .dict #[] }) := T.keep _ _ _ st2 fun b _ o e => Heap.get?_push_of_some _ e
  have f3 : ∀ b ∈ fp, FpOk X pins (upd H2 s2.heap.objs.size (.dT [])) b ∧ b < (s2.heap.push { cls := .type "dict", data := .dict #[] }).objs.size := fun b hb => by
    refine ⟨⟨?_, (f2 b hb).2⟩, by rw [Heap.size_push]; exact Nat.lt_succ_of_lt (old b hb)⟩
    rw [upd_ne (Nat.ne_of_lt (old b hb))]
    exact (f2 b hb).1
  generalize s2.heap.objs.size = D at *
  generalize upd H2 D (.dT []) = H3 at *
  generalize s2.heap.push { cls := .type "dict", data := .dict #[] } = h3 at *
  have I4 := block_start I3 ok nd f3
  generalize cl_ : cellsFrom (h3.objs.size + 1) scope.names (cloFrom X.env.cells scope.names []) = cl at I4 ⊢
  have ce_ : (compEnvC scope cl h3.objs.size X.env).locals = h3.objs.size := rfl
  have st4 : tn 0 (pushCells (h3.push { cls := .type "dict", data := .dict #[] }) scope.names) :=
    T.keep _ _ _ st3 fun b _ o e => pushCells_keeps _ _ _ _ (Heap.get?_push_of_some _ e)
  have free_ : ∀ b ∈ fp, H3 b = none := fun b hb => (f3 b hb).1.1
  show codeAny _ _ (.compStart (.DictComp kx vx [⟨tg, iter, [], 0⟩] scope pos) 0 (.ref it) (.ref D) (compEnvC scope cl h3.objs.size X.env)) _ _
  refine codeAny_compStart_dict ?L (T.self X.A 0 _ _ _ st4 ?L)
  have fpo : ∀ {σ' : L2.St} {H' : Hp} {s' : Shared}, Inv (X.blk { s2 with heap := h3 } H3 scope (compEnvC scope cl h3.objs.size X.env) fp) [] σ' H' s' → (∀ b ∈ fp, H' b = none) →
      ∀ b ∈ fp, FpOk (X.blk { s2 with heap := h3 } H3 scope (compEnvC scope cl h3.objs.size X.env) fp) [] H' b := fun I' hn b hb =>
    ⟨hn b hb, (I'.ok.exf b hb).1, I'.ok.exfs b hb, .inl hb, fun x c e => (I'.ok.exf b hb).2 x c e, fun p hp => by
      have hp' : p ∈ ([] : List (Addr × Obj)) ++ [] := hp
      simp at hp'⟩
  refine compLoop_anyD (fun n s' => ∃ i H', Inv (X.blk { s2 with heap := h3 } H3 scope (compEnvC scope cl h3.objs.size X.env) fp) [] (wipe σ (own.map (·.2))) H' s' ∧
    tn i s'.heap ∧ (∀ b ∈ fp, H' b = none) ∧ W i n H') ?_ m0 ⟨0, H3, I4, st4, free_, w0⟩
  rintro n s5 ⟨i, H5, I5, st5, n5, w5⟩
  rcases turn i n H5 w5 with ⟨stop, over⟩ | ⟨go, Nx, later, step⟩
  · have dn := T.done (X.blk { s2 with heap := h3 } H3 scope (compEnvC scope cl h3.objs.size X.env) fp) rfl rfl rfl calm i [] s5 _ H5 (fun _ _ => False) I5 (fpo I5 n5) st5 stop
    refine thnF dn fun r s6 ⟨er, I6⟩ => ?_
    subst er
    have I7 : Inv X pins σ H5 s6 := I3.call' (ch := fp) I6.os I6.base I6.hok I6.bare fun b hb => let f := (f3 b hb).1.2; ⟨f.2.2.1, f.1, f.2.2.2.1, f.2.2.2.2⟩
    have nC : H5 h3.objs.size = none := I6.free
    obtain ⟨m, ns, _⟩ := I6.loc
    refine ⟨m, ns, fun h'' sb => ?_⟩
    obtain ⟨g0, g1, g2, g3, g4, g5⟩ := I3.fpOk (s := { s2 with heap := h3 }) (H' := H5) (Nat.le_refl _) nC
    exact ⟨.ref D, H5, I7.turned (t' := s6.toks) (fun b o hb e => (sb.2 b hb).trans e) g0 g1 g3 g4 g5, rfl, over⟩
  · have it_ := T.item (X.blk { s2 with heap := h3 } H3 scope (compEnvC scope cl h3.objs.size X.env) fp) rfl rfl rfl calm i [] s5 _ H5 (fun _ _ => False) I5 (fpo I5 n5) st5 go
    refine thnF it_ fun r s6 ⟨u, er, drawn⟩ => ?_
    subst er
    refine thnF drawn fun _ s7 ⟨x, H7, I7, r7, y7, st7, n7⟩ => ?_
    have I7' := I7.pinned (fpo I7 n7) (T.obj _ _ st7)
    refine thnF ((pg _ _ _ _ _).run _ s7 _ H7 x u _ I7' r7 (step x H7 y7)) fun _ s8 ⟨σ8, H8, I8, w8, q8⟩ => ?_
    refine wpAny_pure ?_
    rw [if_pos rfl]
    refine thnF ((pk _ _ _ _ _).run _ s8 σ8 H8 _ I8 q8) fun z s10 ⟨yk, H10, I10, r10, q10⟩ => ?_
    refine thnF ((pv _ _ _ _ _).run _ s10 σ8 H10 _ I10 q10) fun z2 s11 ⟨yv, H11, I11, r11, kvs, k, b, ek, eb, eD, few, nx⟩ => ?_
    subst ek
    cases r10
    refine put_tup (X := X.blk { s2 with heap := h3 } H3 scope (compEnvC scope cl h3.objs.size X.env) fp) hu I11 eD few eb r11 fun s12 I12 => ?_
    obtain ⟨m', hm, w'⟩ := later _ nx
    have stays : ∀ b ∈ fp, ∀ o, s7.heap.get? b = some o → s12.heap.get? b = some o ∧ (upd H11 D (.dT (putK kvs k yv))) b = none := fun b hb o e =>
      let z := I12.pin (b, o) (List.mem_append_right _ (List.mem_append_right _ (mem_pinsAt hb e)))
      ⟨z.1, z.2.1⟩
    have len_ : (wipe σ (own.map (·.2))).length = σ8.length := by rw [← w8, wipe_length]
    refine ⟨m', hm, i + 1, _, (I12.unpinned (pins := [])).weak len_ (fun j v e => ?_), T.keep _ _ _ st7 fun b hb o e => (stays b hb o e).1, fun b hb => ?_, w'⟩
    · rw [← w8] at e
      exact (wipe_some e).1
    · obtain ⟨o, e, _⟩ := T.obj _ _ st7 b hb
      exact (stays b hb o e).2
end
end Tv

namespace Tv
open PySem PySem.Spec PyProof.Rows L2
/-! ### zip(*tuples) where the tuple goes to one name -/

/-- 1 tuples drawn side by side: the cells, at the turn i -/
structure SideT1 (h : Heap) (z TI TO : Addr) (i1 : Addr) (a1 : Addr) (i : Nat) : Prop where
  zip : ∃ f0 b1, h.get? z = some (zipObj f0 b1 TI TO) ∧ Owned f0 ∧ Twice b1
  src : h.get? TI = some { cls := .type "tuple", data := .seq #[.ref i1] }
  out : ∃ v1, h.get? TO = some { cls := .type "tuple", data := .seq #[v1] }
  it1 : h.IsTupleIter i1 a1 i
section
variable {prog : Program} {w : World} {A : Around} {E : Value → Shared → Prop} {s : Shared} {z TI TO i1 : Addr} {a1 : Addr} {i : Nat}
theorem sideT1_keep {h h' : Heap} (S : SideT1 h z TI TO i1 a1 i) (k : ∀ b ∈ [z, TI, TO, i1], ∀ o, h.get? b = some o → h'.get? b = some o) : SideT1 h' z TI TO i1 a1 i := by
  obtain ⟨⟨f0, b1, a1, a2, a3⟩, b, ⟨v1, c⟩, d1⟩ := S
  exact ⟨⟨f0, b1, k _ (by simp) _ a1, a2, a3⟩, k _ (by simp) _ b, ⟨v1, k _ (by simp) _ c⟩, d1.at fun o q => k _ (by simp) o q⟩
theorem sideT1_item (hh : A.handled = none) (apart : [z, TI, TO, i1].Nodup) (S : SideT1 s.heap z TI TO i1 a1 i) {l1 : Array Value} (tp1 : s.heap.IsTuple a1 l1) (off1 : a1 ∉ [z, TI, TO, i1]) {c1 : Value} (h1 : l1[i]? = some c1) {Q : Value → Shared → Prop}
    (got : ∀ h', SideT1 h' z TI TO i1 a1 (i + 1) → h'.get? s.heap.objs.size = some { cls := .type "tuple", data := .seq #[c1] } → h'.objs.size = s.heap.objs.size + 1 →
      (∀ b o, b ≠ z → b ≠ TO → b ≠ i1 → s.heap.get? b = some o → h'.get? b = some o) → Q (.ref s.heap.objs.size) { s with heap := h' }) :
    wpAny (model prog w) A (Builtin.«zip.__next__» ⟨[.ref z], []⟩) (fun fin s' => ∃ v, fin = .done (.ret v) ∧ Q v s') E s := by
  have ne_z_TI : z ≠ TI := by rintro rfl; simp at apart
  have ne_z_TO : z ≠ TO := by rintro rfl; simp at apart
  have ne_z_i1 : z ≠ i1 := by rintro rfl; simp at apart
  have ne_TI_TO : TI ≠ TO := by rintro rfl; simp at apart
  have ne_TI_i1 : TI ≠ i1 := by rintro rfl; simp at apart
  have ne_TO_i1 : TO ≠ i1 := by rintro rfl; simp at apart
  have ne_a1_z : a1 ≠ z := by rintro rfl; simp at off1
  have ne_a1_TI : a1 ≠ TI := by rintro rfl; simp at off1
  have ne_a1_TO : a1 ≠ TO := by rintro rfl; simp at off1
  have ne_a1_i1 : a1 ≠ i1 := by rintro rfl; simp at off1
  obtain ⟨hp, g, d, tk0, os⟩ := s
  obtain ⟨⟨f0, b1, at_z, own, twice⟩, at_src, ⟨v1, at_out⟩, d1⟩ := S
  show wpAny _ _ (field (.ref z) 2 >>= _) _ _ _
  refine wpAny_bind (wpAny_field at_z rfl (x := .bool false) rfl ?_)
  show wpAny _ _ (field (.ref z) 3 >>= _) _ _ _
  refine wpAny_bind (wpAny_field at_z rfl (x := .ref TI) rfl (wpAny_bind (wpAny_seqItems at_src rfl ?_)))
  show wpAny _ _ (Builtin.SmallTypes.ownedTupleIsFree (.ref z) >>= _) _ _ _
  refine wpAny_bind (free_or_not at_z own twice fun b hx b2 at_z1 twice2 same1 => ?_)
  replace same1 : Heap.SameBut z hp hx := same1
  have out1 := same1.extBut _ _ ne_z_TO.symm at_out
  have src1 := same1.extBut _ _ ne_z_TI.symm at_src
  have e1 : hx.IsTupleIter i1 a1 i := d1.extBut same1.extBut ne_z_i1.symm
  cases b with
  | true =>
    simp only [if_true]
    refine wpAny_bind (wpAny_rule (wpAny_bind (wpAny_field (s := ⟨hx, g, d, tk0, os⟩) at_z1 rfl (x := .ref TO) rfl (wpAny_bind (wpAny_setField_rec (s := ⟨hx, g, d, tk0, os⟩) at_z1 (by simp) fun j0 at_zj samej => ?_)))))
    replace at_zj : j0.get? z = some (zipObj .ellipsis b2 TI TO) := at_zj
    replace samej : Heap.SameBut z hx j0 := samej
    have out_0 := samej.extBut _ _ ne_z_TO.symm out1
    refine wpAny_bind ?_
    simp only [List.zipIdx_cons, List.zipIdx_nil, List.forIn_cons, List.forIn_nil]
    refine wpAny_bind (wpAny_bind (wpAny_onRaise ?_))
    show wpAny _ _ (Builtin.SmallTypes.nextOf (.ref i1) >>= _) _ _ ⟨j0, g, d, tk0, os⟩
    refine wpAny_bind (wpAny_nextOf_tuple_item (s := ⟨j0, g, d, tk0, os⟩) ((e1).extBut samej.extBut ne_z_i1.symm) (((tp1.extBut same1.extBut ne_a1_z)).extBut samej.extBut ne_a1_z) h1 fun p1 new1 samep1 => wpAny_pure ?_)
    replace samep1 : Heap.SameBut i1 j0 p1 := samep1
    have mid1 := samep1.extBut _ _ ne_TO_i1 out_0
    refine wpAny_bind (wpAny_seqItems (s := ⟨p1, g, d, tk0, os⟩) mid1 rfl (wpAny_bind (wpAny_updateSeq (s := ⟨p1, g, d, tk0, os⟩) mid1 rfl ?_)))
    generalize eq1 : p1.update TO _ = j1
    have out_1 : j1.get? TO = some { cls := .type "tuple", data := .seq #[c1] } := by
      rw [← eq1, Heap.get?_update_self _ mid1 rfl]
      simp [Obj.mapSeq]
    have sameo1 : Heap.SameBut TO p1 j1 := by rw [← eq1]; exact Heap.SameBut.update ..
    refine wpAny_bind (wpAny_letGo (wpAny_pure (wpAny_pure ?_)))
    refine wpAny_bind (wpAny_seqItems (s := ⟨j1, g, d, tk0, os⟩) out_1 rfl (wpAny_bind (wpAny_newTuple ?_)))
    have at_zn : j1.get? z = some (zipObj .ellipsis b2 TI TO) := (sameo1.extBut _ _ ne_z_TO (samep1.extBut _ _ ne_z_i1 at_zj))
    have size_n : j1.objs.size = hp.objs.size := by rw [sameo1.1, samep1.1, samej.1, same1.1]
    have lt_z : z < j1.objs.size := Heap.lt_size at_zn
    show wpAny _ _ (Builtin.SmallTypes.ownedTupleHandOut (.ref z) (.ref j1.objs.size) >>= _) _ _ ⟨j1.push { cls := .type "tuple", data := .seq #[c1] }, g, d, tk0, os⟩
    refine wpAny_bind ?_
    unfold Builtin.SmallTypes.ownedTupleHandOut
    have at_zt : (j1.push { cls := .type "tuple", data := .seq #[c1] }).get? z = some (zipObj .ellipsis b2 TI TO) := Heap.get?_push_of_some _ at_zn
    refine wpAny_bind (wpAny_setField_rec at_zt (by simp) fun m1 at_m1 same_m1 => ?_)
    replace at_m1 : m1.get? z = some (zipObj (rawInt j1.objs.size) b2 TI TO) := at_m1
    refine wpAny_setField_rec at_m1 (by simp) fun m2 at_m2 same_m2 => ?_
    replace at_m2 : m2.get? z = some (zipObj (rawInt j1.objs.size) (.bool false) TI TO) := at_m2
    replace same_m1 : Heap.SameBut z (j1.push { cls := .type "tuple", data := .seq #[c1] }) m1 := same_m1
    replace same_m2 : Heap.SameBut z m1 m2 := same_m2
    have up : ∀ b o, b ≠ z → j1.get? b = some o → m2.get? b = some o := fun b o c e => same_m2.extBut _ _ c (same_m1.extBut _ _ c (Heap.get?_push_of_some _ e))
    refine wpAny_pure ⟨_, rfl, ?_⟩
    have made := same_m2.extBut _ _ (Nat.ne_of_gt lt_z) (same_m1.extBut _ _ (Nat.ne_of_gt lt_z) (Heap.get?_push_size j1 (o := { cls := .type "tuple", data := .seq #[c1] }) rfl))
    have size_m : m2.objs.size = hp.objs.size + 1 := by rw [same_m2.1, same_m1.1, Heap.size_push, size_n]
    rw [size_n] at made
    show Q (.ref j1.objs.size) ⟨m2, g, d, tk0, os⟩
    rw [size_n]
    refine got m2 ⟨⟨_, _, at_m2, .inr ⟨_, rfl⟩, .inl rfl⟩, up _ _ ne_z_TI.symm ((sameo1.extBut _ _ ne_TI_TO (samep1.extBut _ _ ne_TI_i1 (samej.extBut _ _ ne_z_TI.symm src1)))), ⟨_, up _ _ ne_z_TO.symm out_1⟩, ((new1).extBut sameo1.extBut ne_TO_i1.symm).at fun o q => up _ o ne_z_i1.symm q⟩ made size_m fun b o cz cT n1 e => up b o cz ((sameo1.extBut _ _ cT (samep1.extBut _ _ n1 (samej.extBut _ _ cz (same1.extBut _ _ cz e)))))
  | false =>
    simp only [Bool.false_eq_true, if_false]
    refine wpAny_bind ?_
    simp only [List.forIn_toArray, List.forIn_cons, List.forIn_nil]
    refine wpAny_bind (wpAny_bind (wpAny_holding ?_))
    show wpAny _ _ (Builtin.SmallTypes.nextOf (.ref i1) >>= _) _ _ ⟨hx, g, d, tk0, os⟩
    refine wpAny_bind (wpAny_nextOf_tuple_item (s := ⟨hx, g, d, tk0, os⟩) (e1) ((tp1.extBut same1.extBut ne_a1_z)) h1 fun p1 new1 samep1 => wpAny_pure (wpAny_pure (wpAny_pure ?_)))
    replace samep1 : Heap.SameBut i1 hx p1 := samep1
    have size_n : p1.objs.size = hp.objs.size := by rw [samep1.1, same1.1]
    refine wpAny_bind (wpAny_newTuple (hsz := by show 1 ≤ sizeLine; decide) (wpAny_pure ⟨_, rfl, ?_⟩))
    have made := Heap.get?_push_size p1 (o := { cls := .type "tuple", data := .seq #[c1] }) rfl
    show Q (.ref p1.objs.size) ⟨p1.push { cls := .type "tuple", data := .seq #[c1] }, g, d, tk0, os⟩
    rw [size_n] at made ⊢
    refine got _ ⟨⟨_, _, Heap.get?_push_of_some _ ((samep1.extBut _ _ ne_z_i1 at_z1)), own, twice2⟩, Heap.get?_push_of_some _ ((samep1.extBut _ _ ne_TI_i1 src1)), ⟨_, Heap.get?_push_of_some _ ((samep1.extBut _ _ ne_TO_i1 out1))⟩, (new1).at fun o q => Heap.get?_push_of_some _ q⟩ made (by rw [Heap.size_push, size_n]) fun b o cz cT n1 e => Heap.get?_push_of_some _ ((samep1.extBut _ _ n1 (same1.extBut _ _ cz e)))
theorem sideT1_end (hh : A.handled = none) (apart : [z, TI, TO, i1].Nodup) (S : SideT1 s.heap z TI TO i1 a1 i) {l1 : Array Value} (tp1 : s.heap.IsTuple a1 l1) (off1 : a1 ∉ [z, TI, TO, i1]) (h1 : l1[i]? = none) {Q : Fin → Shared → Prop}
    (fin : ∀ h' e, (∀ b o, b ≠ z → b ≠ TO → b ≠ i1 → s.heap.get? b = some o → h'.get? b = some o) → (∃ o, h'.get? e = some o ∧ o.cls = .type "StopIteration") → E (.ref e) { s with heap := h' }) :
    wpAny (model prog w) A (Builtin.«zip.__next__» ⟨[.ref z], []⟩) Q E s := by
  have ne_z_TI : z ≠ TI := by rintro rfl; simp at apart
  have ne_z_TO : z ≠ TO := by rintro rfl; simp at apart
  have ne_z_i1 : z ≠ i1 := by rintro rfl; simp at apart
  have ne_TI_TO : TI ≠ TO := by rintro rfl; simp at apart
  have ne_TI_i1 : TI ≠ i1 := by rintro rfl; simp at apart
  have ne_TO_i1 : TO ≠ i1 := by rintro rfl; simp at apart
  have ne_a1_z : a1 ≠ z := by rintro rfl; simp at off1
  have ne_a1_TI : a1 ≠ TI := by rintro rfl; simp at off1
  have ne_a1_TO : a1 ≠ TO := by rintro rfl; simp at off1
  have ne_a1_i1 : a1 ≠ i1 := by rintro rfl; simp at off1
  obtain ⟨hp, g, d, tk0, os⟩ := s
  obtain ⟨⟨f0, b1, at_z, own, twice⟩, at_src, ⟨v1, at_out⟩, d1⟩ := S
  show wpAny _ _ (field (.ref z) 2 >>= _) _ _ _
  refine wpAny_bind (wpAny_field at_z rfl (x := .bool false) rfl ?_)
  show wpAny _ _ (field (.ref z) 3 >>= _) _ _ _
  refine wpAny_bind (wpAny_field at_z rfl (x := .ref TI) rfl (wpAny_bind (wpAny_seqItems at_src rfl ?_)))
  show wpAny _ _ (Builtin.SmallTypes.ownedTupleIsFree (.ref z) >>= _) _ _ _
  refine wpAny_bind (free_or_not at_z own twice fun b hx b2 at_z1 twice2 same1 => ?_)
  replace same1 : Heap.SameBut z hp hx := same1
  have e1 : hx.IsTupleIter i1 a1 i := d1.extBut same1.extBut ne_z_i1.symm
  cases b with
  | true =>
    simp only [if_true]
    refine wpAny_bind (wpAny_rule (wpAny_bind (wpAny_field (s := ⟨hx, g, d, tk0, os⟩) at_z1 rfl (x := .ref TO) rfl (wpAny_bind (wpAny_setField_rec (s := ⟨hx, g, d, tk0, os⟩) at_z1 (by simp) fun j0 at_zj samej => ?_)))))
    replace at_zj : j0.get? z = some (zipObj .ellipsis b2 TI TO) := at_zj
    replace samej : Heap.SameBut z hx j0 := samej
    refine wpAny_bind ?_
    simp only [List.zipIdx_cons, List.zipIdx_nil, List.forIn_cons, List.forIn_nil]
    refine wpAny_bind (wpAny_bind (wpAny_onRaise ?_))
    show wpAny _ _ (Builtin.SmallTypes.nextOf (.ref i1) >>= _) _ _ ⟨j0, g, d, tk0, os⟩
    refine wpAny_bind (wpAny_nextOf_tuple_end (s := ⟨j0, g, d, tk0, os⟩) hh (e1.extBut samej.extBut ne_z_i1.symm) ((tp1.extBut same1.extBut ne_a1_z).extBut samej.extBut ne_a1_z) h1 fun p1 e samep ⟨oe, at_e, cls_e⟩ => ?_)
    replace samep : Heap.ExtBut i1 j0 p1 := samep
    have at_zp : p1.get? z = some (zipObj .ellipsis b2 TI TO) := samep _ _ ne_z_i1 at_zj
    have e_z : e ≠ z := fun q => by rw [q] at at_e; rw [at_zp] at at_e; cases at_e; simp at cls_e
    refine wpAny_setField_rec (s := ⟨p1, g, d, tk0, os⟩) at_zp (by simp) fun p2 _ same2 => ?_
    exact fin p2 e (fun b o cz _ n1  q => same2.extBut _ _ cz (samep _ _ n1 (samej.extBut _ _ cz (same1.extBut _ _ cz q)))) ⟨oe, same2.extBut _ _ e_z at_e, cls_e⟩
  | false =>
    simp only [Bool.false_eq_true, if_false]
    refine wpAny_bind ?_
    simp only [List.forIn_toArray, List.forIn_cons, List.forIn_nil]
    refine wpAny_bind (wpAny_bind (wpAny_holding ?_))
    show wpAny _ _ (Builtin.SmallTypes.nextOf (.ref i1) >>= _) _ _ ⟨hx, g, d, tk0, os⟩
    refine wpAny_bind (wpAny_nextOf_tuple_end (s := ⟨hx, g, d, tk0, os⟩) hh e1 (tp1.extBut same1.extBut ne_a1_z) h1 fun p1 e samep there => ?_)
    replace samep : Heap.ExtBut i1 hx p1 := samep
    exact fin p1 e (fun b o cz _ n1  q => samep _ _ n1 (same1.extBut _ _ cz q)) there
theorem nextT1_item (hh : A.handled = none) (apart : [z, TI, TO, i1].Nodup) (S : SideT1 s.heap z TI TO i1 a1 i) {l1 : Array Value} (tp1 : s.heap.IsTuple a1 l1) (off1 : a1 ∉ [z, TI, TO, i1]) {c1 : Value} (h1 : l1[i]? = some c1) {Q : Option Value → Shared → Prop}
    (got : ∀ h', SideT1 h' z TI TO i1 a1 (i + 1) → h'.get? s.heap.objs.size = some { cls := .type "tuple", data := .seq #[c1] } → h'.objs.size = s.heap.objs.size + 1 →
      (∀ b o, b ≠ z → b ≠ TO → b ≠ i1 → s.heap.get? b = some o → h'.get? b = some o) → Q (some (.ref s.heap.objs.size)) { s with heap := h' }) :
    wpAny (model prog w) A (pyNext (.ref z)) Q E s := by
  obtain ⟨f0, b1, at_z, _⟩ := S.zip
  have isZip : s.TypeIs (.ref z) "zip" := ⟨_, at_z, rfl⟩
  unfold pyNext
  exact wpAny_bind (wpAny_attempt (wpAny_callSpecial?_slot (name := Str.ofString "__next__") isZip F.slot_zip_next (wpAny_call_entry F.slot_zip_next isZip F.entry_zip_next
    (sideT1_item (A := A.in1) (show A.in1.handled = none from hh) apart S tp1 off1 h1 fun h' q1 q2 q3 q4 => wpAny_pure (got h' q1 q2 q3 q4)) (F.args_zip_next_1 _))))
theorem nextT1_end (hh : A.handled = none) (apart : [z, TI, TO, i1].Nodup) (S : SideT1 s.heap z TI TO i1 a1 i) {l1 : Array Value} (tp1 : s.heap.IsTuple a1 l1) (off1 : a1 ∉ [z, TI, TO, i1]) (h1 : l1[i]? = none) {Q : Option Value → Shared → Prop}
    (fin : ∀ h', (∀ b o, b ≠ z → b ≠ TO → b ≠ i1 → s.heap.get? b = some o → h'.get? b = some o) → Q none { s with heap := h' }) :
    wpAny (model prog w) A (pyNext (.ref z)) Q E s := by
  obtain ⟨f0, b1, at_z, _⟩ := S.zip
  have isZip : s.TypeIs (.ref z) "zip" := ⟨_, at_z, rfl⟩
  unfold pyNext
  refine wpAny_bind (wpAny_attempt (wpAny_callSpecial?_slot (name := Str.ofString "__next__") isZip F.slot_zip_next (wpAny_call_entry F.slot_zip_next isZip F.entry_zip_next
    (sideT1_end (A := A.in1) (show A.in1.handled = none from hh) apart S tp1 off1 h1 fun h' e keep there => ?_) (F.args_zip_next_1 _))))
  obtain ⟨oe, at_e, cls_e⟩ := there
  exact wpAny_bind (wpAny_isInstance (T := "StopIteration") (b := true) ⟨oe, at_e, cls_e⟩ isSubtype_stop (wpAny_pure (fin h' keep)))
end
/-- 2 tuples drawn side by side: the cells, at the turn i -/
structure SideT2 (h : Heap) (z TI TO : Addr) (i1 i2 : Addr) (a1 a2 : Addr) (i : Nat) : Prop where
  zip : ∃ f0 b1, h.get? z = some (zipObj f0 b1 TI TO) ∧ Owned f0 ∧ Twice b1
  src : h.get? TI = some { cls := .type "tuple", data := .seq #[.ref i1, .ref i2] }
  out : ∃ v1 v2, h.get? TO = some { cls := .type "tuple", data := .seq #[v1, v2] }
  it1 : h.IsTupleIter i1 a1 i
  it2 : h.IsTupleIter i2 a2 i
section
variable {prog : Program} {w : World} {A : Around} {E : Value → Shared → Prop} {s : Shared} {z TI TO i1 i2 : Addr} {a1 a2 : Addr} {i : Nat}
theorem sideT2_keep {h h' : Heap} (S : SideT2 h z TI TO i1 i2 a1 a2 i) (k : ∀ b ∈ [z, TI, TO, i1, i2], ∀ o, h.get? b = some o → h'.get? b = some o) : SideT2 h' z TI TO i1 i2 a1 a2 i := by
  obtain ⟨⟨f0, b1, a1, a2, a3⟩, b, ⟨v1, v2, c⟩, d1, d2⟩ := S
  exact ⟨⟨f0, b1, k _ (by simp) _ a1, a2, a3⟩, k _ (by simp) _ b, ⟨v1, v2, k _ (by simp) _ c⟩, d1.at fun o q => k _ (by simp) o q, d2.at fun o q => k _ (by simp) o q⟩
theorem sideT2_item (hh : A.handled = none) (apart : [z, TI, TO, i1, i2].Nodup) (S : SideT2 s.heap z TI TO i1 i2 a1 a2 i) {l1 : Array Value} (tp1 : s.heap.IsTuple a1 l1) (off1 : a1 ∉ [z, TI, TO, i1, i2]) {l2 : Array Value} (tp2 : s.heap.IsTuple a2 l2) (off2 : a2 ∉ [z, TI, TO, i1, i2]) {c1 c2 : Value} (h1 : l1[i]? = some c1) (h2 : l2[i]? = some c2) {Q : Value → Shared → Prop}
    (got : ∀ h', SideT2 h' z TI TO i1 i2 a1 a2 (i + 1) → h'.get? s.heap.objs.size = some { cls := .type "tuple", data := .seq #[c1, c2] } → h'.objs.size = s.heap.objs.size + 1 →
      (∀ b o, b ≠ z → b ≠ TO → b ≠ i1 → b ≠ i2 → s.heap.get? b = some o → h'.get? b = some o) → Q (.ref s.heap.objs.size) { s with heap := h' }) :
    wpAny (model prog w) A (Builtin.«zip.__next__» ⟨[.ref z], []⟩) (fun fin s' => ∃ v, fin = .done (.ret v) ∧ Q v s') E s := by
  have ne_z_TI : z ≠ TI := by rintro rfl; simp at apart
  have ne_z_TO : z ≠ TO := by rintro rfl; simp at apart
  have ne_z_i1 : z ≠ i1 := by rintro rfl; simp at apart
  have ne_z_i2 : z ≠ i2 := by rintro rfl; simp at apart
  have ne_TI_TO : TI ≠ TO := by rintro rfl; simp at apart
  have ne_TI_i1 : TI ≠ i1 := by rintro rfl; simp at apart
  have ne_TI_i2 : TI ≠ i2 := by rintro rfl; simp at apart
  have ne_TO_i1 : TO ≠ i1 := by rintro rfl; simp at apart
  have ne_TO_i2 : TO ≠ i2 := by rintro rfl; simp at apart
  have ne_i1_i2 : i1 ≠ i2 := by rintro rfl; simp at apart
  have ne_a1_z : a1 ≠ z := by rintro rfl; simp at off1
  have ne_a1_TI : a1 ≠ TI := by rintro rfl; simp at off1
  have ne_a1_TO : a1 ≠ TO := by rintro rfl; simp at off1
  have ne_a1_i1 : a1 ≠ i1 := by rintro rfl; simp at off1
  have ne_a1_i2 : a1 ≠ i2 := by rintro rfl; simp at off1
  have ne_a2_z : a2 ≠ z := by rintro rfl; simp at off2
  have ne_a2_TI : a2 ≠ TI := by rintro rfl; simp at off2
  have ne_a2_TO : a2 ≠ TO := by rintro rfl; simp at off2
  have ne_a2_i1 : a2 ≠ i1 := by rintro rfl; simp at off2
  have ne_a2_i2 : a2 ≠ i2 := by rintro rfl; simp at off2
  obtain ⟨hp, g, d, tk0, os⟩ := s
  obtain ⟨⟨f0, b1, at_z, own, twice⟩, at_src, ⟨v1, v2, at_out⟩, d1, d2⟩ := S
  show wpAny _ _ (field (.ref z) 2 >>= _) _ _ _
  refine wpAny_bind (wpAny_field at_z rfl (x := .bool false) rfl ?_)
  show wpAny _ _ (field (.ref z) 3 >>= _) _ _ _
  refine wpAny_bind (wpAny_field at_z rfl (x := .ref TI) rfl (wpAny_bind (wpAny_seqItems at_src rfl ?_)))
  show wpAny _ _ (Builtin.SmallTypes.ownedTupleIsFree (.ref z) >>= _) _ _ _
  refine wpAny_bind (free_or_not at_z own twice fun b hx b2 at_z1 twice2 same1 => ?_)
  replace same1 : Heap.SameBut z hp hx := same1
  have out1 := same1.extBut _ _ ne_z_TO.symm at_out
  have src1 := same1.extBut _ _ ne_z_TI.symm at_src
  have e1 : hx.IsTupleIter i1 a1 i := d1.extBut same1.extBut ne_z_i1.symm
  have e2 : hx.IsTupleIter i2 a2 i := d2.extBut same1.extBut ne_z_i2.symm
  cases b with
  | true =>
    simp only [if_true]
    refine wpAny_bind (wpAny_rule (wpAny_bind (wpAny_field (s := ⟨hx, g, d, tk0, os⟩) at_z1 rfl (x := .ref TO) rfl (wpAny_bind (wpAny_setField_rec (s := ⟨hx, g, d, tk0, os⟩) at_z1 (by simp) fun j0 at_zj samej => ?_)))))
    replace at_zj : j0.get? z = some (zipObj .ellipsis b2 TI TO) := at_zj
    replace samej : Heap.SameBut z hx j0 := samej
    have out_0 := samej.extBut _ _ ne_z_TO.symm out1
    refine wpAny_bind ?_
    simp only [List.zipIdx_cons, List.zipIdx_nil, List.forIn_cons, List.forIn_nil]
    refine wpAny_bind (wpAny_bind (wpAny_onRaise ?_))
    show wpAny _ _ (Builtin.SmallTypes.nextOf (.ref i1) >>= _) _ _ ⟨j0, g, d, tk0, os⟩
    refine wpAny_bind (wpAny_nextOf_tuple_item (s := ⟨j0, g, d, tk0, os⟩) ((e1).extBut samej.extBut ne_z_i1.symm) (((tp1.extBut same1.extBut ne_a1_z)).extBut samej.extBut ne_a1_z) h1 fun p1 new1 samep1 => wpAny_pure ?_)
    replace samep1 : Heap.SameBut i1 j0 p1 := samep1
    have mid1 := samep1.extBut _ _ ne_TO_i1 out_0
    refine wpAny_bind (wpAny_seqItems (s := ⟨p1, g, d, tk0, os⟩) mid1 rfl (wpAny_bind (wpAny_updateSeq (s := ⟨p1, g, d, tk0, os⟩) mid1 rfl ?_)))
    generalize eq1 : p1.update TO _ = j1
    have out_1 : j1.get? TO = some { cls := .type "tuple", data := .seq #[c1, v2] } := by
      rw [← eq1, Heap.get?_update_self _ mid1 rfl]
      simp [Obj.mapSeq]
    have sameo1 : Heap.SameBut TO p1 j1 := by rw [← eq1]; exact Heap.SameBut.update ..
    refine wpAny_bind (wpAny_letGo (wpAny_pure ?_))
    refine wpAny_bind (wpAny_bind (wpAny_onRaise ?_))
    show wpAny _ _ (Builtin.SmallTypes.nextOf (.ref i2) >>= _) _ _ ⟨j1, g, d, tk0, os⟩
    refine wpAny_bind (wpAny_nextOf_tuple_item (s := ⟨j1, g, d, tk0, os⟩) ((((e2).extBut samej.extBut ne_z_i2.symm).extBut samep1.extBut ne_i1_i2.symm).extBut sameo1.extBut ne_TO_i2.symm) (((((tp2.extBut same1.extBut ne_a2_z)).extBut samej.extBut ne_a2_z).extBut samep1.extBut ne_a2_i1).extBut sameo1.extBut ne_a2_TO) h2 fun p2 new2 samep2 => wpAny_pure ?_)
    replace samep2 : Heap.SameBut i2 j1 p2 := samep2
    have mid2 := samep2.extBut _ _ ne_TO_i2 out_1
    refine wpAny_bind (wpAny_seqItems (s := ⟨p2, g, d, tk0, os⟩) mid2 rfl (wpAny_bind (wpAny_updateSeq (s := ⟨p2, g, d, tk0, os⟩) mid2 rfl ?_)))
    generalize eq2 : p2.update TO _ = j2
    have out_2 : j2.get? TO = some { cls := .type "tuple", data := .seq #[c1, c2] } := by
      rw [← eq2, Heap.get?_update_self _ mid2 rfl]
      simp [Obj.mapSeq]
    have sameo2 : Heap.SameBut TO p2 j2 := by rw [← eq2]; exact Heap.SameBut.update ..
    refine wpAny_bind (wpAny_letGo (wpAny_pure (wpAny_pure ?_)))
    refine wpAny_bind (wpAny_seqItems (s := ⟨j2, g, d, tk0, os⟩) out_2 rfl (wpAny_bind (wpAny_newTuple ?_)))
    have at_zn : j2.get? z = some (zipObj .ellipsis b2 TI TO) := (sameo2.extBut _ _ ne_z_TO (samep2.extBut _ _ ne_z_i2 (sameo1.extBut _ _ ne_z_TO (samep1.extBut _ _ ne_z_i1 at_zj))))
    have size_n : j2.objs.size = hp.objs.size := by rw [sameo2.1, samep2.1, sameo1.1, samep1.1, samej.1, same1.1]
    have lt_z : z < j2.objs.size := Heap.lt_size at_zn
    show wpAny _ _ (Builtin.SmallTypes.ownedTupleHandOut (.ref z) (.ref j2.objs.size) >>= _) _ _ ⟨j2.push { cls := .type "tuple", data := .seq #[c1, c2] }, g, d, tk0, os⟩
    refine wpAny_bind ?_
    unfold Builtin.SmallTypes.ownedTupleHandOut
    have at_zt : (j2.push { cls := .type "tuple", data := .seq #[c1, c2] }).get? z = some (zipObj .ellipsis b2 TI TO) := Heap.get?_push_of_some _ at_zn
    refine wpAny_bind (wpAny_setField_rec at_zt (by simp) fun m1 at_m1 same_m1 => ?_)
    replace at_m1 : m1.get? z = some (zipObj (rawInt j2.objs.size) b2 TI TO) := at_m1
    refine wpAny_setField_rec at_m1 (by simp) fun m2 at_m2 same_m2 => ?_
    replace at_m2 : m2.get? z = some (zipObj (rawInt j2.objs.size) (.bool false) TI TO) := at_m2
    replace same_m1 : Heap.SameBut z (j2.push { cls := .type "tuple", data := .seq #[c1, c2] }) m1 := same_m1
    replace same_m2 : Heap.SameBut z m1 m2 := same_m2
    have up : ∀ b o, b ≠ z → j2.get? b = some o → m2.get? b = some o := fun b o c e => same_m2.extBut _ _ c (same_m1.extBut _ _ c (Heap.get?_push_of_some _ e))
    refine wpAny_pure ⟨_, rfl, ?_⟩
    have made := same_m2.extBut _ _ (Nat.ne_of_gt lt_z) (same_m1.extBut _ _ (Nat.ne_of_gt lt_z) (Heap.get?_push_size j2 (o := { cls := .type "tuple", data := .seq #[c1, c2] }) rfl))
    have size_m : m2.objs.size = hp.objs.size + 1 := by rw [same_m2.1, same_m1.1, Heap.size_push, size_n]
    rw [size_n] at made
    show Q (.ref j2.objs.size) ⟨m2, g, d, tk0, os⟩
    rw [size_n]
    refine got m2 ⟨⟨_, _, at_m2, .inr ⟨_, rfl⟩, .inl rfl⟩, up _ _ ne_z_TI.symm ((sameo2.extBut _ _ ne_TI_TO (samep2.extBut _ _ ne_TI_i2 (sameo1.extBut _ _ ne_TI_TO (samep1.extBut _ _ ne_TI_i1 (samej.extBut _ _ ne_z_TI.symm src1)))))), ⟨_, _, up _ _ ne_z_TO.symm out_2⟩, ((((new1).extBut sameo1.extBut ne_TO_i1.symm).extBut samep2.extBut ne_i1_i2).extBut sameo2.extBut ne_TO_i1.symm).at fun o q => up _ o ne_z_i1.symm q, ((new2).extBut sameo2.extBut ne_TO_i2.symm).at fun o q => up _ o ne_z_i2.symm q⟩ made size_m fun b o cz cT n1 n2 e => up b o cz ((sameo2.extBut _ _ cT (samep2.extBut _ _ n2 (sameo1.extBut _ _ cT (samep1.extBut _ _ n1 (samej.extBut _ _ cz (same1.extBut _ _ cz e)))))))
  | false =>
    simp only [Bool.false_eq_true, if_false]
    refine wpAny_bind ?_
    simp only [List.forIn_toArray, List.forIn_cons, List.forIn_nil]
    refine wpAny_bind (wpAny_bind (wpAny_holding ?_))
    show wpAny _ _ (Builtin.SmallTypes.nextOf (.ref i1) >>= _) _ _ ⟨hx, g, d, tk0, os⟩
    refine wpAny_bind (wpAny_nextOf_tuple_item (s := ⟨hx, g, d, tk0, os⟩) (e1) ((tp1.extBut same1.extBut ne_a1_z)) h1 fun p1 new1 samep1 => wpAny_pure (wpAny_pure ?_))
    replace samep1 : Heap.SameBut i1 hx p1 := samep1
    refine wpAny_bind (wpAny_bind (wpAny_holding ?_))
    show wpAny _ _ (Builtin.SmallTypes.nextOf (.ref i2) >>= _) _ _ ⟨p1, g, d, tk0, os⟩
    refine wpAny_bind (wpAny_nextOf_tuple_item (s := ⟨p1, g, d, tk0, os⟩) ((e2).extBut samep1.extBut ne_i1_i2.symm) (((tp2.extBut same1.extBut ne_a2_z)).extBut samep1.extBut ne_a2_i1) h2 fun p2 new2 samep2 => wpAny_pure (wpAny_pure (wpAny_pure ?_)))
    replace samep2 : Heap.SameBut i2 p1 p2 := samep2
    have size_n : p2.objs.size = hp.objs.size := by rw [samep2.1, samep1.1, same1.1]
    refine wpAny_bind (wpAny_newTuple (hsz := by show 2 ≤ sizeLine; decide) (wpAny_pure ⟨_, rfl, ?_⟩))
    have made := Heap.get?_push_size p2 (o := { cls := .type "tuple", data := .seq #[c1, c2] }) rfl
    show Q (.ref p2.objs.size) ⟨p2.push { cls := .type "tuple", data := .seq #[c1, c2] }, g, d, tk0, os⟩
    rw [size_n] at made ⊢
    refine got _ ⟨⟨_, _, Heap.get?_push_of_some _ ((samep2.extBut _ _ ne_z_i2 (samep1.extBut _ _ ne_z_i1 at_z1))), own, twice2⟩, Heap.get?_push_of_some _ ((samep2.extBut _ _ ne_TI_i2 (samep1.extBut _ _ ne_TI_i1 src1))), ⟨_, _, Heap.get?_push_of_some _ ((samep2.extBut _ _ ne_TO_i2 (samep1.extBut _ _ ne_TO_i1 out1)))⟩, ((new1).extBut samep2.extBut ne_i1_i2).at fun o q => Heap.get?_push_of_some _ q, (new2).at fun o q => Heap.get?_push_of_some _ q⟩ made (by rw [Heap.size_push, size_n]) fun b o cz cT n1 n2 e => Heap.get?_push_of_some _ ((samep2.extBut _ _ n2 (samep1.extBut _ _ n1 (same1.extBut _ _ cz e))))
theorem sideT2_end (hh : A.handled = none) (apart : [z, TI, TO, i1, i2].Nodup) (S : SideT2 s.heap z TI TO i1 i2 a1 a2 i) {l1 : Array Value} (tp1 : s.heap.IsTuple a1 l1) (off1 : a1 ∉ [z, TI, TO, i1, i2]) {l2 : Array Value} (tp2 : s.heap.IsTuple a2 l2) (off2 : a2 ∉ [z, TI, TO, i1, i2]) (h1 : l1[i]? = none) {Q : Fin → Shared → Prop}
    (fin : ∀ h' e, (∀ b o, b ≠ z → b ≠ TO → b ≠ i1 → b ≠ i2 → s.heap.get? b = some o → h'.get? b = some o) → (∃ o, h'.get? e = some o ∧ o.cls = .type "StopIteration") → E (.ref e) { s with heap := h' }) :
    wpAny (model prog w) A (Builtin.«zip.__next__» ⟨[.ref z], []⟩) Q E s := by
  have ne_z_TI : z ≠ TI := by rintro rfl; simp at apart
  have ne_z_TO : z ≠ TO := by rintro rfl; simp at apart
  have ne_z_i1 : z ≠ i1 := by rintro rfl; simp at apart
  have ne_z_i2 : z ≠ i2 := by rintro rfl; simp at apart
  have ne_TI_TO : TI ≠ TO := by rintro rfl; simp at apart
  have ne_TI_i1 : TI ≠ i1 := by rintro rfl; simp at apart
  have ne_TI_i2 : TI ≠ i2 := by rintro rfl; simp at apart
  have ne_TO_i1 : TO ≠ i1 := by rintro rfl; simp at apart
  have ne_TO_i2 : TO ≠ i2 := by rintro rfl; simp at apart
  have ne_i1_i2 : i1 ≠ i2 := by rintro rfl; simp at apart
  have ne_a1_z : a1 ≠ z := by rintro rfl; simp at off1
  have ne_a1_TI : a1 ≠ TI := by rintro rfl; simp at off1
  have ne_a1_TO : a1 ≠ TO := by rintro rfl; simp at off1
  have ne_a1_i1 : a1 ≠ i1 := by rintro rfl; simp at off1
  have ne_a1_i2 : a1 ≠ i2 := by rintro rfl; simp at off1
  have ne_a2_z : a2 ≠ z := by rintro rfl; simp at off2
  have ne_a2_TI : a2 ≠ TI := by rintro rfl; simp at off2
  have ne_a2_TO : a2 ≠ TO := by rintro rfl; simp at off2
  have ne_a2_i1 : a2 ≠ i1 := by rintro rfl; simp at off2
  have ne_a2_i2 : a2 ≠ i2 := by rintro rfl; simp at off2
  obtain ⟨hp, g, d, tk0, os⟩ := s
  obtain ⟨⟨f0, b1, at_z, own, twice⟩, at_src, ⟨v1, v2, at_out⟩, d1, d2⟩ := S
  show wpAny _ _ (field (.ref z) 2 >>= _) _ _ _
  refine wpAny_bind (wpAny_field at_z rfl (x := .bool false) rfl ?_)
  show wpAny _ _ (field (.ref z) 3 >>= _) _ _ _
  refine wpAny_bind (wpAny_field at_z rfl (x := .ref TI) rfl (wpAny_bind (wpAny_seqItems at_src rfl ?_)))
  show wpAny _ _ (Builtin.SmallTypes.ownedTupleIsFree (.ref z) >>= _) _ _ _
  refine wpAny_bind (free_or_not at_z own twice fun b hx b2 at_z1 twice2 same1 => ?_)
  replace same1 : Heap.SameBut z hp hx := same1
  have e1 : hx.IsTupleIter i1 a1 i := d1.extBut same1.extBut ne_z_i1.symm
  cases b with
  | true =>
    simp only [if_true]
    refine wpAny_bind (wpAny_rule (wpAny_bind (wpAny_field (s := ⟨hx, g, d, tk0, os⟩) at_z1 rfl (x := .ref TO) rfl (wpAny_bind (wpAny_setField_rec (s := ⟨hx, g, d, tk0, os⟩) at_z1 (by simp) fun j0 at_zj samej => ?_)))))
    replace at_zj : j0.get? z = some (zipObj .ellipsis b2 TI TO) := at_zj
    replace samej : Heap.SameBut z hx j0 := samej
    refine wpAny_bind ?_
    simp only [List.zipIdx_cons, List.zipIdx_nil, List.forIn_cons, List.forIn_nil]
    refine wpAny_bind (wpAny_bind (wpAny_onRaise ?_))
    show wpAny _ _ (Builtin.SmallTypes.nextOf (.ref i1) >>= _) _ _ ⟨j0, g, d, tk0, os⟩
    refine wpAny_bind (wpAny_nextOf_tuple_end (s := ⟨j0, g, d, tk0, os⟩) hh (e1.extBut samej.extBut ne_z_i1.symm) ((tp1.extBut same1.extBut ne_a1_z).extBut samej.extBut ne_a1_z) h1 fun p1 e samep ⟨oe, at_e, cls_e⟩ => ?_)
    replace samep : Heap.ExtBut i1 j0 p1 := samep
    have at_zp : p1.get? z = some (zipObj .ellipsis b2 TI TO) := samep _ _ ne_z_i1 at_zj
    have e_z : e ≠ z := fun q => by rw [q] at at_e; rw [at_zp] at at_e; cases at_e; simp at cls_e
    refine wpAny_setField_rec (s := ⟨p1, g, d, tk0, os⟩) at_zp (by simp) fun p2 _ same2 => ?_
    exact fin p2 e (fun b o cz _ n1 _ q => same2.extBut _ _ cz (samep _ _ n1 (samej.extBut _ _ cz (same1.extBut _ _ cz q)))) ⟨oe, same2.extBut _ _ e_z at_e, cls_e⟩
  | false =>
    simp only [Bool.false_eq_true, if_false]
    refine wpAny_bind ?_
    simp only [List.forIn_toArray, List.forIn_cons, List.forIn_nil]
    refine wpAny_bind (wpAny_bind (wpAny_holding ?_))
    show wpAny _ _ (Builtin.SmallTypes.nextOf (.ref i1) >>= _) _ _ ⟨hx, g, d, tk0, os⟩
    refine wpAny_bind (wpAny_nextOf_tuple_end (s := ⟨hx, g, d, tk0, os⟩) hh e1 (tp1.extBut same1.extBut ne_a1_z) h1 fun p1 e samep there => ?_)
    replace samep : Heap.ExtBut i1 hx p1 := samep
    exact fin p1 e (fun b o cz _ n1 _ q => samep _ _ n1 (same1.extBut _ _ cz q)) there
theorem nextT2_item (hh : A.handled = none) (apart : [z, TI, TO, i1, i2].Nodup) (S : SideT2 s.heap z TI TO i1 i2 a1 a2 i) {l1 : Array Value} (tp1 : s.heap.IsTuple a1 l1) (off1 : a1 ∉ [z, TI, TO, i1, i2]) {l2 : Array Value} (tp2 : s.heap.IsTuple a2 l2) (off2 : a2 ∉ [z, TI, TO, i1, i2]) {c1 c2 : Value} (h1 : l1[i]? = some c1) (h2 : l2[i]? = some c2) {Q : Option Value → Shared → Prop}
    (got : ∀ h', SideT2 h' z TI TO i1 i2 a1 a2 (i + 1) → h'.get? s.heap.objs.size = some { cls := .type "tuple", data := .seq #[c1, c2] } → h'.objs.size = s.heap.objs.size + 1 →
      (∀ b o, b ≠ z → b ≠ TO → b ≠ i1 → b ≠ i2 → s.heap.get? b = some o → h'.get? b = some o) → Q (some (.ref s.heap.objs.size)) { s with heap := h' }) :
    wpAny (model prog w) A (pyNext (.ref z)) Q E s := by
  obtain ⟨f0, b1, at_z, _⟩ := S.zip
  have isZip : s.TypeIs (.ref z) "zip" := ⟨_, at_z, rfl⟩
  unfold pyNext
  exact wpAny_bind (wpAny_attempt (wpAny_callSpecial?_slot (name := Str.ofString "__next__") isZip F.slot_zip_next (wpAny_call_entry F.slot_zip_next isZip F.entry_zip_next
    (sideT2_item (A := A.in1) (show A.in1.handled = none from hh) apart S tp1 off1 tp2 off2 h1 h2 fun h' q1 q2 q3 q4 => wpAny_pure (got h' q1 q2 q3 q4)) (F.args_zip_next_1 _))))
theorem nextT2_end (hh : A.handled = none) (apart : [z, TI, TO, i1, i2].Nodup) (S : SideT2 s.heap z TI TO i1 i2 a1 a2 i) {l1 : Array Value} (tp1 : s.heap.IsTuple a1 l1) (off1 : a1 ∉ [z, TI, TO, i1, i2]) {l2 : Array Value} (tp2 : s.heap.IsTuple a2 l2) (off2 : a2 ∉ [z, TI, TO, i1, i2]) (h1 : l1[i]? = none) {Q : Option Value → Shared → Prop}
    (fin : ∀ h', (∀ b o, b ≠ z → b ≠ TO → b ≠ i1 → b ≠ i2 → s.heap.get? b = some o → h'.get? b = some o) → Q none { s with heap := h' }) :
    wpAny (model prog w) A (pyNext (.ref z)) Q E s := by
  obtain ⟨f0, b1, at_z, _⟩ := S.zip
  have isZip : s.TypeIs (.ref z) "zip" := ⟨_, at_z, rfl⟩
  unfold pyNext
  refine wpAny_bind (wpAny_attempt (wpAny_callSpecial?_slot (name := Str.ofString "__next__") isZip F.slot_zip_next (wpAny_call_entry F.slot_zip_next isZip F.entry_zip_next
    (sideT2_end (A := A.in1) (show A.in1.handled = none from hh) apart S tp1 off1 tp2 off2 h1 fun h' e keep there => ?_) (F.args_zip_next_1 _))))
  obtain ⟨oe, at_e, cls_e⟩ := there
  exact wpAny_bind (wpAny_isInstance (T := "StopIteration") (b := true) ⟨oe, at_e, cls_e⟩ isSubtype_stop (wpAny_pure (fin h' keep)))
end
/-- 3 tuples drawn side by side: the cells, at the turn i -/
structure SideT3 (h : Heap) (z TI TO : Addr) (i1 i2 i3 : Addr) (a1 a2 a3 : Addr) (i : Nat) : Prop where
  zip : ∃ f0 b1, h.get? z = some (zipObj f0 b1 TI TO) ∧ Owned f0 ∧ Twice b1
  src : h.get? TI = some { cls := .type "tuple", data := .seq #[.ref i1, .ref i2, .ref i3] }
  out : ∃ v1 v2 v3, h.get? TO = some { cls := .type "tuple", data := .seq #[v1, v2, v3] }
  it1 : h.IsTupleIter i1 a1 i
  it2 : h.IsTupleIter i2 a2 i
  it3 : h.IsTupleIter i3 a3 i
section
variable {prog : Program} {w : World} {A : Around} {E : Value → Shared → Prop} {s : Shared} {z TI TO i1 i2 i3 : Addr} {a1 a2 a3 : Addr} {i : Nat}
theorem sideT3_keep {h h' : Heap} (S : SideT3 h z TI TO i1 i2 i3 a1 a2 a3 i) (k : ∀ b ∈ [z, TI, TO, i1, i2, i3], ∀ o, h.get? b = some o → h'.get? b = some o) : SideT3 h' z TI TO i1 i2 i3 a1 a2 a3 i := by
  obtain ⟨⟨f0, b1, a1, a2, a3⟩, b, ⟨v1, v2, v3, c⟩, d1, d2, d3⟩ := S
  exact ⟨⟨f0, b1, k _ (by simp) _ a1, a2, a3⟩, k _ (by simp) _ b, ⟨v1, v2, v3, k _ (by simp) _ c⟩, d1.at fun o q => k _ (by simp) o q, d2.at fun o q => k _ (by simp) o q, d3.at fun o q => k _ (by simp) o q⟩
theorem sideT3_item (hh : A.handled = none) (apart : [z, TI, TO, i1, i2, i3].Nodup) (S : SideT3 s.heap z TI TO i1 i2 i3 a1 a2 a3 i) {l1 : Array Value} (tp1 : s.heap.IsTuple a1 l1) (off1 : a1 ∉ [z, TI, TO, i1, i2, i3]) {l2 : Array Value} (tp2 : s.heap.IsTuple a2 l2) (off2 : a2 ∉ [z, TI, TO, i1, i2, i3]) {l3 : Array Value} (tp3 : s.heap.IsTuple a3 l3) (off3 : a3 ∉ [z, TI, TO, i1, i2, i3]) {c1 c2 c3 : Value} (h1 : l1[i]? = some c1) (h2 : l2[i]? = some c2) (h3 : l3[i]? = some c3) {Q : Value → Shared → Prop}
    (got : ∀ h', SideT3 h' z TI TO i1 i2 i3 a1 a2 a3 (i + 1) → h'.get? s.heap.objs.size = some { cls := .type "tuple", data := .seq #[c1, c2, c3] } → h'.objs.size = s.heap.objs.size + 1 →
      (∀ b o, b ≠ z → b ≠ TO → b ≠ i1 → b ≠ i2 → b ≠ i3 → s.heap.get? b = some o → h'.get? b = some o) → Q (.ref s.heap.objs.size) { s with heap := h' }) :
    wpAny (model prog w) A (Builtin.«zip.__next__» ⟨[.ref z], []⟩) (fun fin s' => ∃ v, fin = .done (.ret v) ∧ Q v s') E s := by
  have ne_z_TI : z ≠ TI := by rintro rfl; simp at apart
  have ne_z_TO : z ≠ TO := by rintro rfl; simp at apart
  have ne_z_i1 : z ≠ i1 := by rintro rfl; simp at apart
  have ne_z_i2 : z ≠ i2 := by rintro rfl; simp at apart
  have ne_z_i3 : z ≠ i3 := by rintro rfl; simp at apart
  have ne_TI_TO : TI ≠ TO := by rintro rfl; simp at apart
  have ne_TI_i1 : TI ≠ i1 := by rintro rfl; simp at apart
  have ne_TI_i2 : TI ≠ i2 := by rintro rfl; simp at apart
  have ne_TI_i3 : TI ≠ i3 := by rintro rfl; simp at apart
  have ne_TO_i1 : TO ≠ i1 := by rintro rfl; simp at apart
  have ne_TO_i2 : TO ≠ i2 := by rintro rfl; simp at apart
  have ne_TO_i3 : TO ≠ i3 := by rintro rfl; simp at apart
  have ne_i1_i2 : i1 ≠ i2 := by rintro rfl; simp at apart
  have ne_i1_i3 : i1 ≠ i3 := by rintro rfl; simp at apart
  have ne_i2_i3 : i2 ≠ i3 := by rintro rfl; simp at apart
  have ne_a1_z : a1 ≠ z := by rintro rfl; simp at off1
  have ne_a1_TI : a1 ≠ TI := by rintro rfl; simp at off1
  have ne_a1_TO : a1 ≠ TO := by rintro rfl; simp at off1
  have ne_a1_i1 : a1 ≠ i1 := by rintro rfl; simp at off1
  have ne_a1_i2 : a1 ≠ i2 := by rintro rfl; simp at off1
  have ne_a1_i3 : a1 ≠ i3 := by rintro rfl; simp at off1
  have ne_a2_z : a2 ≠ z := by rintro rfl; simp at off2
  have ne_a2_TI : a2 ≠ TI := by rintro rfl; simp at off2
  have ne_a2_TO : a2 ≠ TO := by rintro rfl; simp at off2
  have ne_a2_i1 : a2 ≠ i1 := by rintro rfl; simp at off2
  have ne_a2_i2 : a2 ≠ i2 := by rintro rfl; simp at off2
  have ne_a2_i3 : a2 ≠ i3 := by rintro rfl; simp at off2
  have ne_a3_z : a3 ≠ z := by rintro rfl; simp at off3
  have ne_a3_TI : a3 ≠ TI := by rintro rfl; simp at off3
  have ne_a3_TO : a3 ≠ TO := by rintro rfl; simp at off3
  have ne_a3_i1 : a3 ≠ i1 := by rintro rfl; simp at off3
  have ne_a3_i2 : a3 ≠ i2 := by rintro rfl; simp at off3
  have ne_a3_i3 : a3 ≠ i3 := by rintro rfl; simp at off3
  obtain ⟨hp, g, d, tk0, os⟩ := s
  obtain ⟨⟨f0, b1, at_z, own, twice⟩, at_src, ⟨v1, v2, v3, at_out⟩, d1, d2, d3⟩ := S
  show wpAny _ _ (field (.ref z) 2 >>= _) _ _ _
  refine wpAny_bind (wpAny_field at_z rfl (x := .bool false) rfl ?_)
  show wpAny _ _ (field (.ref z) 3 >>= _) _ _ _
  refine wpAny_bind (wpAny_field at_z rfl (x := .ref TI) rfl (wpAny_bind (wpAny_seqItems at_src rfl ?_)))
  show wpAny _ _ (Builtin.SmallTypes.ownedTupleIsFree (.ref z) >>= _) _ _ _
  refine wpAny_bind (free_or_not at_z own twice fun b hx b2 at_z1 twice2 same1 => ?_)
  replace same1 : Heap.SameBut z hp hx := same1
  have out1 := same1.extBut _ _ ne_z_TO.symm at_out
  have src1 := same1.extBut _ _ ne_z_TI.symm at_src
  have e1 : hx.IsTupleIter i1 a1 i := d1.extBut same1.extBut ne_z_i1.symm
  have e2 : hx.IsTupleIter i2 a2 i := d2.extBut same1.extBut ne_z_i2.symm
  have e3 : hx.IsTupleIter i3 a3 i := d3.extBut same1.extBut ne_z_i3.symm
  cases b with
  | true =>
    simp only [if_true]
    refine wpAny_bind (wpAny_rule (wpAny_bind (wpAny_field (s := ⟨hx, g, d, tk0, os⟩) at_z1 rfl (x := .ref TO) rfl (wpAny_bind (wpAny_setField_rec (s := ⟨hx, g, d, tk0, os⟩) at_z1 (by simp) fun j0 at_zj samej => ?_)))))
    replace at_zj : j0.get? z = some (zipObj .ellipsis b2 TI TO) := at_zj
    replace samej : Heap.SameBut z hx j0 := samej
    have out_0 := samej.extBut _ _ ne_z_TO.symm out1
    refine wpAny_bind ?_
    simp only [List.zipIdx_cons, List.zipIdx_nil, List.forIn_cons, List.forIn_nil]
    refine wpAny_bind (wpAny_bind (wpAny_onRaise ?_))
    show wpAny _ _ (Builtin.SmallTypes.nextOf (.ref i1) >>= _) _ _ ⟨j0, g, d, tk0, os⟩
    refine wpAny_bind (wpAny_nextOf_tuple_item (s := ⟨j0, g, d, tk0, os⟩) ((e1).extBut samej.extBut ne_z_i1.symm) (((tp1.extBut same1.extBut ne_a1_z)).extBut samej.extBut ne_a1_z) h1 fun p1 new1 samep1 => wpAny_pure ?_)
    replace samep1 : Heap.SameBut i1 j0 p1 := samep1
    have mid1 := samep1.extBut _ _ ne_TO_i1 out_0
    refine wpAny_bind (wpAny_seqItems (s := ⟨p1, g, d, tk0, os⟩) mid1 rfl (wpAny_bind (wpAny_updateSeq (s := ⟨p1, g, d, tk0, os⟩) mid1 rfl ?_)))
    generalize eq1 : p1.update TO _ = j1
    have out_1 : j1.get? TO = some { cls := .type "tuple", data := .seq #[c1, v2, v3] } := by
      rw [← eq1, Heap.get?_update_self _ mid1 rfl]
      simp [Obj.mapSeq]
    have sameo1 : Heap.SameBut TO p1 j1 := by rw [← eq1]; exact Heap.SameBut.update ..
    refine wpAny_bind (wpAny_letGo (wpAny_pure ?_))
    refine wpAny_bind (wpAny_bind (wpAny_onRaise ?_))
    show wpAny _ _ (Builtin.SmallTypes.nextOf (.ref i2) >>= _) _ _ ⟨j1, g, d, tk0, os⟩
    refine wpAny_bind (wpAny_nextOf_tuple_item (s := ⟨j1, g, d, tk0, os⟩) ((((e2).extBut samej.extBut ne_z_i2.symm).extBut samep1.extBut ne_i1_i2.symm).extBut sameo1.extBut ne_TO_i2.symm) (((((tp2.extBut same1.extBut ne_a2_z)).extBut samej.extBut ne_a2_z).extBut samep1.extBut ne_a2_i1).extBut sameo1.extBut ne_a2_TO) h2 fun p2 new2 samep2 => wpAny_pure ?_)
    replace samep2 : Heap.SameBut i2 j1 p2 := samep2
    have mid2 := samep2.extBut _ _ ne_TO_i2 out_1
    refine wpAny_bind (wpAny_seqItems (s := ⟨p2, g, d, tk0, os⟩) mid2 rfl (wpAny_bind (wpAny_updateSeq (s := ⟨p2, g, d, tk0, os⟩) mid2 rfl ?_)))
    generalize eq2 : p2.update TO _ = j2
    have out_2 : j2.get? TO = some { cls := .type "tuple", data := .seq #[c1, c2, v3] } := by
      rw [← eq2, Heap.get?_update_self _ mid2 rfl]
      simp [Obj.mapSeq]
    have sameo2 : Heap.SameBut TO p2 j2 := by rw [← eq2]; exact Heap.SameBut.update ..
    refine wpAny_bind (wpAny_letGo (wpAny_pure ?_))
    refine wpAny_bind (wpAny_bind (wpAny_onRaise ?_))
    show wpAny _ _ (Builtin.SmallTypes.nextOf (.ref i3) >>= _) _ _ ⟨j2, g, d, tk0, os⟩
    refine wpAny_bind (wpAny_nextOf_tuple_item (s := ⟨j2, g, d, tk0, os⟩) ((((((e3).extBut samej.extBut ne_z_i3.symm).extBut samep1.extBut ne_i1_i3.symm).extBut sameo1.extBut ne_TO_i3.symm).extBut samep2.extBut ne_i2_i3.symm).extBut sameo2.extBut ne_TO_i3.symm) (((((((tp3.extBut same1.extBut ne_a3_z)).extBut samej.extBut ne_a3_z).extBut samep1.extBut ne_a3_i1).extBut sameo1.extBut ne_a3_TO).extBut samep2.extBut ne_a3_i2).extBut sameo2.extBut ne_a3_TO) h3 fun p3 new3 samep3 => wpAny_pure ?_)
    replace samep3 : Heap.SameBut i3 j2 p3 := samep3
    have mid3 := samep3.extBut _ _ ne_TO_i3 out_2
    refine wpAny_bind (wpAny_seqItems (s := ⟨p3, g, d, tk0, os⟩) mid3 rfl (wpAny_bind (wpAny_updateSeq (s := ⟨p3, g, d, tk0, os⟩) mid3 rfl ?_)))
    generalize eq3 : p3.update TO _ = j3
    have out_3 : j3.get? TO = some { cls := .type "tuple", data := .seq #[c1, c2, c3] } := by
      rw [← eq3, Heap.get?_update_self _ mid3 rfl]
      simp [Obj.mapSeq]
    have sameo3 : Heap.SameBut TO p3 j3 := by rw [← eq3]; exact Heap.SameBut.update ..
    refine wpAny_bind (wpAny_letGo (wpAny_pure (wpAny_pure ?_)))
    refine wpAny_bind (wpAny_seqItems (s := ⟨j3, g, d, tk0, os⟩) out_3 rfl (wpAny_bind (wpAny_newTuple ?_)))
    have at_zn : j3.get? z = some (zipObj .ellipsis b2 TI TO) := (sameo3.extBut _ _ ne_z_TO (samep3.extBut _ _ ne_z_i3 (sameo2.extBut _ _ ne_z_TO (samep2.extBut _ _ ne_z_i2 (sameo1.extBut _ _ ne_z_TO (samep1.extBut _ _ ne_z_i1 at_zj))))))
    have size_n : j3.objs.size = hp.objs.size := by rw [sameo3.1, samep3.1, sameo2.1, samep2.1, sameo1.1, samep1.1, samej.1, same1.1]
    have lt_z : z < j3.objs.size := Heap.lt_size at_zn
    show wpAny _ _ (Builtin.SmallTypes.ownedTupleHandOut (.ref z) (.ref j3.objs.size) >>= _) _ _ ⟨j3.push { cls := .type "tuple", data := .seq #[c1, c2, c3] }, g, d, tk0, os⟩
    refine wpAny_bind ?_
    unfold Builtin.SmallTypes.ownedTupleHandOut
    have at_zt : (j3.push { cls := .type "tuple", data := .seq #[c1, c2, c3] }).get? z = some (zipObj .ellipsis b2 TI TO) := Heap.get?_push_of_some _ at_zn
    refine wpAny_bind (wpAny_setField_rec at_zt (by simp) fun m1 at_m1 same_m1 => ?_)
    replace at_m1 : m1.get? z = some (zipObj (rawInt j3.objs.size) b2 TI TO) := at_m1
    refine wpAny_setField_rec at_m1 (by simp) fun m2 at_m2 same_m2 => ?_
    replace at_m2 : m2.get? z = some (zipObj (rawInt j3.objs.size) (.bool false) TI TO) := at_m2
    replace same_m1 : Heap.SameBut z (j3.push { cls := .type "tuple", data := .seq #[c1, c2, c3] }) m1 := same_m1
    replace same_m2 : Heap.SameBut z m1 m2 := same_m2
    have up : ∀ b o, b ≠ z → j3.get? b = some o → m2.get? b = some o := fun b o c e => same_m2.extBut _ _ c (same_m1.extBut _ _ c (Heap.get?_push_of_some _ e))
    refine wpAny_pure ⟨_, rfl, ?_⟩
    have made := same_m2.extBut _ _ (Nat.ne_of_gt lt_z) (same_m1.extBut _ _ (Nat.ne_of_gt lt_z) (Heap.get?_push_size j3 (o := { cls := .type "tuple", data := .seq #[c1, c2, c3] }) rfl))
    have size_m : m2.objs.size = hp.objs.size + 1 := by rw [same_m2.1, same_m1.1, Heap.size_push, size_n]
    rw [size_n] at made
    show Q (.ref j3.objs.size) ⟨m2, g, d, tk0, os⟩
    rw [size_n]
    refine got m2 ⟨⟨_, _, at_m2, .inr ⟨_, rfl⟩, .inl rfl⟩, up _ _ ne_z_TI.symm ((sameo3.extBut _ _ ne_TI_TO (samep3.extBut _ _ ne_TI_i3 (sameo2.extBut _ _ ne_TI_TO (samep2.extBut _ _ ne_TI_i2 (sameo1.extBut _ _ ne_TI_TO (samep1.extBut _ _ ne_TI_i1 (samej.extBut _ _ ne_z_TI.symm src1)))))))), ⟨_, _, _, up _ _ ne_z_TO.symm out_3⟩, ((((((new1).extBut sameo1.extBut ne_TO_i1.symm).extBut samep2.extBut ne_i1_i2).extBut sameo2.extBut ne_TO_i1.symm).extBut samep3.extBut ne_i1_i3).extBut sameo3.extBut ne_TO_i1.symm).at fun o q => up _ o ne_z_i1.symm q, ((((new2).extBut sameo2.extBut ne_TO_i2.symm).extBut samep3.extBut ne_i2_i3).extBut sameo3.extBut ne_TO_i2.symm).at fun o q => up _ o ne_z_i2.symm q, ((new3).extBut sameo3.extBut ne_TO_i3.symm).at fun o q => up _ o ne_z_i3.symm q⟩ made size_m fun b o cz cT n1 n2 n3 e => up b o cz ((sameo3.extBut _ _ cT (samep3.extBut _ _ n3 (sameo2.extBut _ _ cT (samep2.extBut _ _ n2 (sameo1.extBut _ _ cT (samep1.extBut _ _ n1 (samej.extBut _ _ cz (same1.extBut _ _ cz e)))))))))
  | false =>
    simp only [Bool.false_eq_true, if_false]
    refine wpAny_bind ?_
    simp only [List.forIn_toArray, List.forIn_cons, List.forIn_nil]
    refine wpAny_bind (wpAny_bind (wpAny_holding ?_))
    show wpAny _ _ (Builtin.SmallTypes.nextOf (.ref i1) >>= _) _ _ ⟨hx, g, d, tk0, os⟩
    refine wpAny_bind (wpAny_nextOf_tuple_item (s := ⟨hx, g, d, tk0, os⟩) (e1) ((tp1.extBut same1.extBut ne_a1_z)) h1 fun p1 new1 samep1 => wpAny_pure (wpAny_pure ?_))
    replace samep1 : Heap.SameBut i1 hx p1 := samep1
    refine wpAny_bind (wpAny_bind (wpAny_holding ?_))
    show wpAny _ _ (Builtin.SmallTypes.nextOf (.ref i2) >>= _) _ _ ⟨p1, g, d, tk0, os⟩
    refine wpAny_bind (wpAny_nextOf_tuple_item (s := ⟨p1, g, d, tk0, os⟩) ((e2).extBut samep1.extBut ne_i1_i2.symm) (((tp2.extBut same1.extBut ne_a2_z)).extBut samep1.extBut ne_a2_i1) h2 fun p2 new2 samep2 => wpAny_pure (wpAny_pure ?_))
    replace samep2 : Heap.SameBut i2 p1 p2 := samep2
    refine wpAny_bind (wpAny_bind (wpAny_holding ?_))
    show wpAny _ _ (Builtin.SmallTypes.nextOf (.ref i3) >>= _) _ _ ⟨p2, g, d, tk0, os⟩
    refine wpAny_bind (wpAny_nextOf_tuple_item (s := ⟨p2, g, d, tk0, os⟩) (((e3).extBut samep1.extBut ne_i1_i3.symm).extBut samep2.extBut ne_i2_i3.symm) ((((tp3.extBut same1.extBut ne_a3_z)).extBut samep1.extBut ne_a3_i1).extBut samep2.extBut ne_a3_i2) h3 fun p3 new3 samep3 => wpAny_pure (wpAny_pure (wpAny_pure ?_)))
    replace samep3 : Heap.SameBut i3 p2 p3 := samep3
    have size_n : p3.objs.size = hp.objs.size := by rw [samep3.1, samep2.1, samep1.1, same1.1]
    refine wpAny_bind (wpAny_newTuple (hsz := by show 3 ≤ sizeLine; decide) (wpAny_pure ⟨_, rfl, ?_⟩))
    have made := Heap.get?_push_size p3 (o := { cls := .type "tuple", data := .seq #[c1, c2, c3] }) rfl
    show Q (.ref p3.objs.size) ⟨p3.push { cls := .type "tuple", data := .seq #[c1, c2, c3] }, g, d, tk0, os⟩
    rw [size_n] at made ⊢
    refine got _ ⟨⟨_, _, Heap.get?_push_of_some _ ((samep3.extBut _ _ ne_z_i3 (samep2.extBut _ _ ne_z_i2 (samep1.extBut _ _ ne_z_i1 at_z1)))), own, twice2⟩, Heap.get?_push_of_some _ ((samep3.extBut _ _ ne_TI_i3 (samep2.extBut _ _ ne_TI_i2 (samep1.extBut _ _ ne_TI_i1 src1)))), ⟨_, _, _, Heap.get?_push_of_some _ ((samep3.extBut _ _ ne_TO_i3 (samep2.extBut _ _ ne_TO_i2 (samep1.extBut _ _ ne_TO_i1 out1))))⟩, (((new1).extBut samep2.extBut ne_i1_i2).extBut samep3.extBut ne_i1_i3).at fun o q => Heap.get?_push_of_some _ q, ((new2).extBut samep3.extBut ne_i2_i3).at fun o q => Heap.get?_push_of_some _ q, (new3).at fun o q => Heap.get?_push_of_some _ q⟩ made (by rw [Heap.size_push, size_n]) fun b o cz cT n1 n2 n3 e => Heap.get?_push_of_some _ ((samep3.extBut _ _ n3 (samep2.extBut _ _ n2 (samep1.extBut _ _ n1 (same1.extBut _ _ cz e)))))
theorem sideT3_end (hh : A.handled = none) (apart : [z, TI, TO, i1, i2, i3].Nodup) (S : SideT3 s.heap z TI TO i1 i2 i3 a1 a2 a3 i) {l1 : Array Value} (tp1 : s.heap.IsTuple a1 l1) (off1 : a1 ∉ [z, TI, TO, i1, i2, i3]) {l2 : Array Value} (tp2 : s.heap.IsTuple a2 l2) (off2 : a2 ∉ [z, TI, TO, i1, i2, i3]) {l3 : Array Value} (tp3 : s.heap.IsTuple a3 l3) (off3 : a3 ∉ [z, TI, TO, i1, i2, i3]) (h1 : l1[i]? = none) {Q : Fin → Shared → Prop}
    (fin : ∀ h' e, (∀ b o, b ≠ z → b ≠ TO → b ≠ i1 → b ≠ i2 → b ≠ i3 → s.heap.get? b = some o → h'.get? b = some o) → (∃ o, h'.get? e = some o ∧ o.cls = .type "StopIteration") → E (.ref e) { s with heap := h' }) :
    wpAny (model prog w) A (Builtin.«zip.__next__» ⟨[.ref z], []⟩) Q E s := by
  have ne_z_TI : z ≠ TI := by rintro rfl; simp at apart
  have ne_z_TO : z ≠ TO := by rintro rfl; simp at apart
  have ne_z_i1 : z ≠ i1 := by rintro rfl; simp at apart
  have ne_z_i2 : z ≠ i2 := by rintro rfl; simp at apart
  have ne_z_i3 : z ≠ i3 := by rintro rfl; simp at apart
  have ne_TI_TO : TI ≠ TO := by rintro rfl; simp at apart
  have ne_TI_i1 : TI ≠ i1 := by rintro rfl; simp at apart
  have ne_TI_i2 : TI ≠ i2 := by rintro rfl; simp at apart
  have ne_TI_i3 : TI ≠ i3 := by rintro rfl; simp at apart
  have ne_TO_i1 : TO ≠ i1 := by rintro rfl; simp at apart
  have ne_TO_i2 : TO ≠ i2 := by rintro rfl; simp at apart
  have ne_TO_i3 : TO ≠ i3 := by rintro rfl; simp at apart
  have ne_i1_i2 : i1 ≠ i2 := by rintro rfl; simp at apart
  have ne_i1_i3 : i1 ≠ i3 := by rintro rfl; simp at apart
  have ne_i2_i3 : i2 ≠ i3 := by rintro rfl; simp at apart
  have ne_a1_z : a1 ≠ z := by rintro rfl; simp at off1
  have ne_a1_TI : a1 ≠ TI := by rintro rfl; simp at off1
  have ne_a1_TO : a1 ≠ TO := by rintro rfl; simp at off1
  have ne_a1_i1 : a1 ≠ i1 := by rintro rfl; simp at off1
  have ne_a1_i2 : a1 ≠ i2 := by rintro rfl; simp at off1
  have ne_a1_i3 : a1 ≠ i3 := by rintro rfl; simp at off1
  have ne_a2_z : a2 ≠ z := by rintro rfl; simp at off2
  have ne_a2_TI : a2 ≠ TI := by rintro rfl; simp at off2
  have ne_a2_TO : a2 ≠ TO := by rintro rfl; simp at off2
  have ne_a2_i1 : a2 ≠ i1 := by rintro rfl; simp at off2
  have ne_a2_i2 : a2 ≠ i2 := by rintro rfl; simp at off2
  have ne_a2_i3 : a2 ≠ i3 := by rintro rfl; simp at off2
  have ne_a3_z : a3 ≠ z := by rintro rfl; simp at off3
  have ne_a3_TI : a3 ≠ TI := by rintro rfl; simp at off3
  have ne_a3_TO : a3 ≠ TO := by rintro rfl; simp at off3
  have ne_a3_i1 : a3 ≠ i1 := by rintro rfl; simp at off3
  have ne_a3_i2 : a3 ≠ i2 := by rintro rfl; simp at off3
  have ne_a3_i3 : a3 ≠ i3 := by rintro rfl; simp at off3
  obtain ⟨hp, g, d, tk0, os⟩ := s
  obtain ⟨⟨f0, b1, at_z, own, twice⟩, at_src, ⟨v1, v2, v3, at_out⟩, d1, d2, d3⟩ := S
  show wpAny _ _ (field (.ref z) 2 >>= _) _ _ _
  refine wpAny_bind (wpAny_field at_z rfl (x := .bool false) rfl ?_)
  show wpAny _ _ (field (.ref z) 3 >>= _) _ _ _
  refine wpAny_bind (wpAny_field at_z rfl (x := .ref TI) rfl (wpAny_bind (wpAny_seqItems at_src rfl ?_)))
  show wpAny _ _ (Builtin.SmallTypes.ownedTupleIsFree (.ref z) >>= _) _ _ _
  refine wpAny_bind (free_or_not at_z own twice fun b hx b2 at_z1 twice2 same1 => ?_)
  replace same1 : Heap.SameBut z hp hx := same1
  have e1 : hx.IsTupleIter i1 a1 i := d1.extBut same1.extBut ne_z_i1.symm
  cases b with
  | true =>
    simp only [if_true]
    refine wpAny_bind (wpAny_rule (wpAny_bind (wpAny_field (s := ⟨hx, g, d, tk0, os⟩) at_z1 rfl (x := .ref TO) rfl (wpAny_bind (wpAny_setField_rec (s := ⟨hx, g, d, tk0, os⟩) at_z1 (by simp) fun j0 at_zj samej => ?_)))))
    replace at_zj : j0.get? z = some (zipObj .ellipsis b2 TI TO) := at_zj
    replace samej : Heap.SameBut z hx j0 := samej
    refine wpAny_bind ?_
    simp only [List.zipIdx_cons, List.zipIdx_nil, List.forIn_cons, List.forIn_nil]
    refine wpAny_bind (wpAny_bind (wpAny_onRaise ?_))
    show wpAny _ _ (Builtin.SmallTypes.nextOf (.ref i1) >>= _) _ _ ⟨j0, g, d, tk0, os⟩
    refine wpAny_bind (wpAny_nextOf_tuple_end (s := ⟨j0, g, d, tk0, os⟩) hh (e1.extBut samej.extBut ne_z_i1.symm) ((tp1.extBut same1.extBut ne_a1_z).extBut samej.extBut ne_a1_z) h1 fun p1 e samep ⟨oe, at_e, cls_e⟩ => ?_)
    replace samep : Heap.ExtBut i1 j0 p1 := samep
    have at_zp : p1.get? z = some (zipObj .ellipsis b2 TI TO) := samep _ _ ne_z_i1 at_zj
    have e_z : e ≠ z := fun q => by rw [q] at at_e; rw [at_zp] at at_e; cases at_e; simp at cls_e
    refine wpAny_setField_rec (s := ⟨p1, g, d, tk0, os⟩) at_zp (by simp) fun p2 _ same2 => ?_
    exact fin p2 e (fun b o cz _ n1 _ _ q => same2.extBut _ _ cz (samep _ _ n1 (samej.extBut _ _ cz (same1.extBut _ _ cz q)))) ⟨oe, same2.extBut _ _ e_z at_e, cls_e⟩
  | false =>
    simp only [Bool.false_eq_true, if_false]
    refine wpAny_bind ?_
    simp only [List.forIn_toArray, List.forIn_cons, List.forIn_nil]
    refine wpAny_bind (wpAny_bind (wpAny_holding ?_))
    show wpAny _ _ (Builtin.SmallTypes.nextOf (.ref i1) >>= _) _ _ ⟨hx, g, d, tk0, os⟩
    refine wpAny_bind (wpAny_nextOf_tuple_end (s := ⟨hx, g, d, tk0, os⟩) hh e1 (tp1.extBut same1.extBut ne_a1_z) h1 fun p1 e samep there => ?_)
    replace samep : Heap.ExtBut i1 hx p1 := samep
    exact fin p1 e (fun b o cz _ n1 _ _ q => samep _ _ n1 (same1.extBut _ _ cz q)) there
theorem nextT3_item (hh : A.handled = none) (apart : [z, TI, TO, i1, i2, i3].Nodup) (S : SideT3 s.heap z TI TO i1 i2 i3 a1 a2 a3 i) {l1 : Array Value} (tp1 : s.heap.IsTuple a1 l1) (off1 : a1 ∉ [z, TI, TO, i1, i2, i3]) {l2 : Array Value} (tp2 : s.heap.IsTuple a2 l2) (off2 : a2 ∉ [z, TI, TO, i1, i2, i3]) {l3 : Array Value} (tp3 : s.heap.IsTuple a3 l3) (off3 : a3 ∉ [z, TI, TO, i1, i2, i3]) {c1 c2 c3 : Value} (h1 : l1[i]? = some c1) (h2 : l2[i]? = some c2) (h3 : l3[i]? = some c3) {Q : Option Value → Shared → Prop}
    (got : ∀ h', SideT3 h' z TI TO i1 i2 i3 a1 a2 a3 (i + 1) → h'.get? s.heap.objs.size = some { cls := .type "tuple", data := .seq #[c1, c2, c3] } → h'.objs.size = s.heap.objs.size + 1 →
      (∀ b o, b ≠ z → b ≠ TO → b ≠ i1 → b ≠ i2 → b ≠ i3 → s.heap.get? b = some o → h'.get? b = some o) → Q (some (.ref s.heap.objs.size)) { s with heap := h' }) :
    wpAny (model prog w) A (pyNext (.ref z)) Q E s := by
  obtain ⟨f0, b1, at_z, _⟩ := S.zip
  have isZip : s.TypeIs (.ref z) "zip" := ⟨_, at_z, rfl⟩
  unfold pyNext
  exact wpAny_bind (wpAny_attempt (wpAny_callSpecial?_slot (name := Str.ofString "__next__") isZip F.slot_zip_next (wpAny_call_entry F.slot_zip_next isZip F.entry_zip_next
    (sideT3_item (A := A.in1) (show A.in1.handled = none from hh) apart S tp1 off1 tp2 off2 tp3 off3 h1 h2 h3 fun h' q1 q2 q3 q4 => wpAny_pure (got h' q1 q2 q3 q4)) (F.args_zip_next_1 _))))
theorem nextT3_end (hh : A.handled = none) (apart : [z, TI, TO, i1, i2, i3].Nodup) (S : SideT3 s.heap z TI TO i1 i2 i3 a1 a2 a3 i) {l1 : Array Value} (tp1 : s.heap.IsTuple a1 l1) (off1 : a1 ∉ [z, TI, TO, i1, i2, i3]) {l2 : Array Value} (tp2 : s.heap.IsTuple a2 l2) (off2 : a2 ∉ [z, TI, TO, i1, i2, i3]) {l3 : Array Value} (tp3 : s.heap.IsTuple a3 l3) (off3 : a3 ∉ [z, TI, TO, i1, i2, i3]) (h1 : l1[i]? = none) {Q : Option Value → Shared → Prop}
    (fin : ∀ h', (∀ b o, b ≠ z → b ≠ TO → b ≠ i1 → b ≠ i2 → b ≠ i3 → s.heap.get? b = some o → h'.get? b = some o) → Q none { s with heap := h' }) :
    wpAny (model prog w) A (pyNext (.ref z)) Q E s := by
  obtain ⟨f0, b1, at_z, _⟩ := S.zip
  have isZip : s.TypeIs (.ref z) "zip" := ⟨_, at_z, rfl⟩
  unfold pyNext
  refine wpAny_bind (wpAny_attempt (wpAny_callSpecial?_slot (name := Str.ofString "__next__") isZip F.slot_zip_next (wpAny_call_entry F.slot_zip_next isZip F.entry_zip_next
    (sideT3_end (A := A.in1) (show A.in1.handled = none from hh) apart S tp1 off1 tp2 off2 tp3 off3 h1 fun h' e keep there => ?_) (F.args_zip_next_1 _))))
  obtain ⟨oe, at_e, cls_e⟩ := there
  exact wpAny_bind (wpAny_isInstance (T := "StopIteration") (b := true) ⟨oe, at_e, cls_e⟩ isSubtype_stop (wpAny_pure (fin h' keep)))
end
end Tv

namespace Tv
open PySem PySem.Spec PyProof.Rows L2
/-- tuples of m things side by side, a new tuple each turn -/
def ItT (K : PySem.W.Frag) (ps : List (Addr × List V)) (m : Nat) : It :=
  ⟨fun i H => i < m ∧ ∀ p ∈ ps, SqT K H p.1 p.2, fun i H v H' => ∃ T, v = .ref T ∧ H T = none ∧ H' = upd H T (.tup (ps.map fun p => p.2.getD i .non)), fun i H => m ≤ i ∧ ∀ p ∈ ps, SqT K H p.1 p.2⟩
theorem item_there {y : List V} {i : Nat} (h : i < y.length) : y[i]? = some (y.getD i .non) := by
  rw [List.getElem?_eq_getElem h, List.getD_eq_getElem?_getD, List.getElem?_eq_getElem h]
  rfl
theorem isTuple_of {h : Heap} {a : Addr} {its : Array Value} (t : IsTup h a its) : h.IsTuple a its := t

section
variable {P : Program} {w : World} {A : Around} {E : Value → Shared → Prop} {s : Shared} {a1 : Addr} {l1 : Array Value}
abbrev setT1_1 (h : Heap) (a : Addr) : Heap := Heap.push h { cls := .type "tuple_iterator", data := .fields #[.ref a, .int 0 0] }
abbrev setT1_2 (h : Heap) (a : Addr) : Heap := Heap.push (setT1_1 h a) { cls := .type "tuple", data := .seq #[.ref h.objs.size] }
abbrev setT1_3 (h : Heap) (a : Addr) : Heap := Heap.push (setT1_2 h a) { cls := .type "tuple", data := .seq #[.none] }
abbrev setT1_4 (h : Heap) (a : Addr) : Heap := Heap.push (setT1_3 h a) (zipObj .none (.bool false) (setT1_1 h a).objs.size (setT1_2 h a).objs.size)
theorem newT1_meets (a : Addr) (l : Array Value) : Meets (Builtin.«zip.__new__» ⟨[.type "zip", .ref a], []⟩) (fun _ R s => s.heap.IsTuple a l ∧ R (.ok (.ret (.ref (setT1_3 s.heap a).objs.size))) { s with heap := setT1_4 s.heap a }) :=
  .of_wp fun prog w A R s h => by
    obtain ⟨hp, g, d, tk, os⟩ := s
    obtain ⟨tup, h⟩ := h
    have is_zip := sub_zip
    have begun : ∀ {A' : Around} {E : Value → Shared → Prop} {Q : Value → Shared → Prop}, Q (.ref hp.objs.size) ⟨setT1_1 hp a, g, d, tk, os⟩ → wpAny (model prog w) A' (pyIter (.ref a)) Q E ⟨hp, g, d, tk, os⟩ :=
      fun q => (begins_tuple a l).iter prog w _ _ ⟨hp, g, d, tk, os⟩ _ tup q
    wp_walk using begun
    exact ⟨_, rfl, h⟩
theorem call_zipT1 {N : Nat} (eN : s.heap.objs.size = N) (b1 : s.heap.IsTuple a1 l1) {Q : Value → Shared → Prop} (got : ∀ h', SideT1 h' (N + 3) (N + 1) (N + 2) N a1 0 → (∀ b o, s.heap.get? b = some o → h'.get? b = some o) → Q (.ref (N + 3)) { s with heap := h' }) :
    wpAny (model P w) A (call (.type "zip") [.ref a1]) Q E s := by
  refine callType_new F.called_zip (by decide) (tcheck1 _) (ncheck1 _) (fun obj => icheck1 obj _) F.entry_zip_new (newT1_meets a1 l1) ⟨b1, ?_⟩
  have size1 : (setT1_1 s.heap a1).objs.size = N + 1 := by rw [Heap.size_push, eN]
  have size2 : (setT1_2 s.heap a1).objs.size = N + 2 := by rw [Heap.size_push, size1]
  have size3 : (setT1_3 s.heap a1).objs.size = N + 3 := by rw [Heap.size_push, size2]
  have size4 : (setT1_4 s.heap a1).objs.size = N + 4 := by rw [Heap.size_push, size3]
  have at1 : (setT1_4 s.heap a1).get? s.heap.objs.size = some _ := (Heap.get?_push_of_some _ (Heap.get?_push_of_some _ (Heap.get?_push_of_some _ (Heap.get?_push_size _ rfl))))
  rw [eN] at at1
  have at_src : (setT1_4 s.heap a1).get? (setT1_1 s.heap a1).objs.size = some _ := (Heap.get?_push_of_some _ (Heap.get?_push_of_some _ (Heap.get?_push_size _ rfl)))
  rw [size1] at at_src
  have at_out : (setT1_4 s.heap a1).get? (setT1_2 s.heap a1).objs.size = some _ := (Heap.get?_push_of_some _ (Heap.get?_push_size _ rfl))
  rw [size2] at at_out
  have at_z : (setT1_4 s.heap a1).get? (setT1_3 s.heap a1).objs.size = some _ := (Heap.get?_push_size _ rfl)
  rw [size3, size1, size2] at at_z
  have src' : (setT1_4 s.heap a1).get? (N + 1) = some { cls := .type "tuple", data := .seq #[.ref N] } := by
    rw [at_src, eN]
  show _ ∧ _
  rw [size3]
  exact ⟨⟨_, at_z, rfl⟩, got _ ⟨⟨_, _, at_z, .inl rfl, .inl rfl⟩, src', ⟨_, at_out⟩, ⟨_, at1, rfl, rfl⟩⟩ fun b o e => (Heap.get?_push_of_some _ (Heap.get?_push_of_some _ (Heap.get?_push_of_some _ (Heap.get?_push_of_some _ e))))⟩
theorem turn_sideT1 {K : PySem.W.Frag} {nm : Str} {np : Pos} {m : Nat} {z TI TO i1 : Addr} {y1 : List V} (apart : [z, TI, TO, i1].Nodup) (off1 : a1 ∉ [z, TI, TO, i1]) (z1 : y1.length = m) :
    Turn P w K (.Name nm np) (ItT K [(a1, y1)] m) [z, TI, TO, i1] z (fun i h => SideT1 h z TI TO i1 a1 i) where
  mem := by simp
  obj := fun i h S b hb => by
    obtain ⟨⟨f0, b1, q1, _⟩, q2, ⟨_, q3⟩, ⟨o1, e1, _, d1⟩⟩ := S
    have where_ : b = z ∨ b = TI ∨ b = TO ∨ b = i1 := by simpa using hb
    rcases where_ with rfl | rfl | rfl | rfl
    · exact ⟨_, q1, fun v q => nomatch q⟩
    · exact ⟨_, q2, fun v q => nomatch q⟩
    · exact ⟨_, q3, fun v q => nomatch q⟩
    · exact ⟨o1, e1, fun v q => by rw [d1] at q; cases q⟩
  keep := fun i h h' S k => sideT1_keep S k
  item := by
    rintro X rfl rfl rfl calm i pins s σ H E I fp S ⟨lt, known⟩
    have s1 : SqT X.K H a1 y1 := known (a1, y1) (by simp)
    obtain ⟨its1, vals1, isT1, _⟩ := I.tuple s1
    have at1 : y1[i]? = some (y1.getD i .non) := item_there (by omega)
    obtain ⟨c1, on1, r1⟩ := vals1.get at1
    rw [← List.getElem?_toArray] at on1
    have below : ∀ b ∈ [z, TI, TO, i1], b < s.heap.objs.size := fun b hb => by
      obtain ⟨⟨f0, b1, q1, _⟩, q2, ⟨_, q3⟩, ⟨o1, e1, _, d1⟩⟩ := S
      have where_ : b = z ∨ b = TI ∨ b = TO ∨ b = i1 := by simpa using hb
      rcases where_ with rfl | rfl | rfl | rfl
      · exact Heap.lt_size q1
      · exact Heap.lt_size q2
      · exact Heap.lt_size q3
      · exact Heap.lt_size e1
    refine nextT1_item (I.ok.hd calm) apart S (isTuple_of isT1) off1 on1 fun h' S' made size_ keep => ?_
    have new : ObjOk X.prog X.w (upd H s.heap.objs.size (.tup [y1.getD i .non])) h' s.heap.objs.size (.tup [y1.getD i .non]) :=
      ⟨by show 1 ≤ sizeLine; decide, _, .cons r1 (.nil), ⟨_, made, rfl, _, rfl⟩⟩
    have J := I.turnedNew (t' := s.toks) (ch := [z, TI, TO, i1]) (fun b o nb q => keep b o (fun e => nb (by simp [e])) (fun e => nb (by simp [e])) (fun e => nb (by simp [e])) q) fp (Nat.le_refl _) new
    refine ⟨.ref s.heap.objs.size, rfl, wpAny_pure ⟨.ref s.heap.objs.size, _, J, rfl, ⟨_, rfl, I.hok.fresh (Nat.le_refl _), rfl⟩, S', fun b hb => ?_⟩⟩
    rw [upd_ne (Nat.ne_of_lt (below b hb))]
    exact (fp b hb).1
  done := by
    rintro X rfl rfl rfl calm i pins s σ H E I fp S ⟨stop, known⟩
    have s1 : SqT X.K H a1 y1 := known (a1, y1) (by simp)
    obtain ⟨its1, vals1, isT1, _⟩ := I.tuple s1
    have c1 : its1.toArray[i]? = none := by
      rw [List.getElem?_toArray, List.getElem?_eq_none (by rw [← vals1.length]; omega)]
    exact nextT1_end (I.ok.hd calm) apart S (isTuple_of isT1) off1 c1 fun h' keep => ⟨rfl, I.turnedL (t' := s.toks) (ch := [z, TI, TO, i1]) (fun b o nb q => keep b o (fun e => nb (by simp [e])) (fun e => nb (by simp [e])) (fun e => nb (by simp [e])) q) fp⟩
  self := fun A i s Q E S h => by
    obtain ⟨f0, b1, at_z, _⟩ := S.zip
    exact iter_self at_z h
end
section
variable {P : Program} {w : World} {A : Around} {E : Value → Shared → Prop} {s : Shared} {a1 a2 : Addr} {l1 l2 : Array Value}
theorem call_zipT2 {N : Nat} (eN : s.heap.objs.size = N) (b1 : s.heap.IsTuple a1 l1) (b2 : s.heap.IsTuple a2 l2) {Q : Value → Shared → Prop} (got : ∀ h', SideT2 h' (N + 4) (N + 2) (N + 3) N (N + 1) a1 a2 0 → (∀ b o, s.heap.get? b = some o → h'.get? b = some o) → Q (.ref (N + 4)) { s with heap := h' }) :
    wpAny (model P w) A (call (.type "zip") [.ref a1, .ref a2]) Q E s := by
  subst eN
  refine zip_begins2 (begins_tuple a1 l1) (begins_tuple a2 l2) b1 b2 fun h' q1 q2 q3 w1 w2 _ keep => got h' ⟨⟨_, _, q1, .inl rfl, .inl rfl⟩, q2, ⟨_, _, q3⟩, ⟨_, w1, rfl, rfl⟩, ⟨_, w2, rfl, rfl⟩⟩ keep
theorem turn_sideT2 {K : PySem.W.Frag} {nm : Str} {np : Pos} {m : Nat} {z TI TO i1 i2 : Addr} {y1 y2 : List V} (apart : [z, TI, TO, i1, i2].Nodup) (off1 : a1 ∉ [z, TI, TO, i1, i2]) (off2 : a2 ∉ [z, TI, TO, i1, i2]) (z1 : y1.length = m) (z2 : y2.length = m) :
    Turn P w K (.Name nm np) (ItT K [(a1, y1), (a2, y2)] m) [z, TI, TO, i1, i2] z (fun i h => SideT2 h z TI TO i1 i2 a1 a2 i) where
  mem := by simp
  obj := fun i h S b hb => by
    obtain ⟨⟨f0, b1, q1, _⟩, q2, ⟨_, _, q3⟩, ⟨o1, e1, _, d1⟩, ⟨o2, e2, _, d2⟩⟩ := S
    have where_ : b = z ∨ b = TI ∨ b = TO ∨ b = i1 ∨ b = i2 := by simpa using hb
    rcases where_ with rfl | rfl | rfl | rfl | rfl
    · exact ⟨_, q1, fun v q => nomatch q⟩
    · exact ⟨_, q2, fun v q => nomatch q⟩
    · exact ⟨_, q3, fun v q => nomatch q⟩
    · exact ⟨o1, e1, fun v q => by rw [d1] at q; cases q⟩
    · exact ⟨o2, e2, fun v q => by rw [d2] at q; cases q⟩
  keep := fun i h h' S k => sideT2_keep S k
  item := by
    rintro X rfl rfl rfl calm i pins s σ H E I fp S ⟨lt, known⟩
    have s1 : SqT X.K H a1 y1 := known (a1, y1) (by simp)
    obtain ⟨its1, vals1, isT1, _⟩ := I.tuple s1
    have at1 : y1[i]? = some (y1.getD i .non) := item_there (by omega)
    obtain ⟨c1, on1, r1⟩ := vals1.get at1
    rw [← List.getElem?_toArray] at on1
    have s2 : SqT X.K H a2 y2 := known (a2, y2) (by simp)
    obtain ⟨its2, vals2, isT2, _⟩ := I.tuple s2
    have at2 : y2[i]? = some (y2.getD i .non) := item_there (by omega)
    obtain ⟨c2, on2, r2⟩ := vals2.get at2
    rw [← List.getElem?_toArray] at on2
    have below : ∀ b ∈ [z, TI, TO, i1, i2], b < s.heap.objs.size := fun b hb => by
      obtain ⟨⟨f0, b1, q1, _⟩, q2, ⟨_, _, q3⟩, ⟨o1, e1, _, d1⟩, ⟨o2, e2, _, d2⟩⟩ := S
      have where_ : b = z ∨ b = TI ∨ b = TO ∨ b = i1 ∨ b = i2 := by simpa using hb
      rcases where_ with rfl | rfl | rfl | rfl | rfl
      · exact Heap.lt_size q1
      · exact Heap.lt_size q2
      · exact Heap.lt_size q3
      · exact Heap.lt_size e1
      · exact Heap.lt_size e2
    refine nextT2_item (I.ok.hd calm) apart S (isTuple_of isT1) off1 (isTuple_of isT2) off2 on1 on2 fun h' S' made size_ keep => ?_
    have new : ObjOk X.prog X.w (upd H s.heap.objs.size (.tup [y1.getD i .non, y2.getD i .non])) h' s.heap.objs.size (.tup [y1.getD i .non, y2.getD i .non]) :=
      ⟨by show 2 ≤ sizeLine; decide, _, .cons r1 (.cons r2 (.nil)), ⟨_, made, rfl, _, rfl⟩⟩
    have J := I.turnedNew (t' := s.toks) (ch := [z, TI, TO, i1, i2]) (fun b o nb q => keep b o (fun e => nb (by simp [e])) (fun e => nb (by simp [e])) (fun e => nb (by simp [e])) (fun e => nb (by simp [e])) q) fp (Nat.le_refl _) new
    refine ⟨.ref s.heap.objs.size, rfl, wpAny_pure ⟨.ref s.heap.objs.size, _, J, rfl, ⟨_, rfl, I.hok.fresh (Nat.le_refl _), rfl⟩, S', fun b hb => ?_⟩⟩
    rw [upd_ne (Nat.ne_of_lt (below b hb))]
    exact (fp b hb).1
  done := by
    rintro X rfl rfl rfl calm i pins s σ H E I fp S ⟨stop, known⟩
    have s1 : SqT X.K H a1 y1 := known (a1, y1) (by simp)
    obtain ⟨its1, vals1, isT1, _⟩ := I.tuple s1
    have s2 : SqT X.K H a2 y2 := known (a2, y2) (by simp)
    obtain ⟨its2, vals2, isT2, _⟩ := I.tuple s2
    have c1 : its1.toArray[i]? = none := by
      rw [List.getElem?_toArray, List.getElem?_eq_none (by rw [← vals1.length]; omega)]
    exact nextT2_end (I.ok.hd calm) apart S (isTuple_of isT1) off1 (isTuple_of isT2) off2 c1 fun h' keep => ⟨rfl, I.turnedL (t' := s.toks) (ch := [z, TI, TO, i1, i2]) (fun b o nb q => keep b o (fun e => nb (by simp [e])) (fun e => nb (by simp [e])) (fun e => nb (by simp [e])) (fun e => nb (by simp [e])) q) fp⟩
  self := fun A i s Q E S h => by
    obtain ⟨f0, b1, at_z, _⟩ := S.zip
    exact iter_self at_z h
end
section
variable {P : Program} {w : World} {A : Around} {E : Value → Shared → Prop} {s : Shared} {a1 a2 a3 : Addr} {l1 l2 l3 : Array Value}
theorem call_zipT3 {N : Nat} (eN : s.heap.objs.size = N) (b1 : s.heap.IsTuple a1 l1) (b2 : s.heap.IsTuple a2 l2) (b3 : s.heap.IsTuple a3 l3) {Q : Value → Shared → Prop} (got : ∀ h', SideT3 h' (N + 5) (N + 3) (N + 4) N (N + 1) (N + 2) a1 a2 a3 0 → (∀ b o, s.heap.get? b = some o → h'.get? b = some o) → Q (.ref (N + 5)) { s with heap := h' }) :
    wpAny (model P w) A (call (.type "zip") [.ref a1, .ref a2, .ref a3]) Q E s := by
  subst eN
  refine zip_begins3 (begins_tuple a1 l1) (begins_tuple a2 l2) (begins_tuple a3 l3) b1 b2 b3 fun h' q1 q2 q3 w1 w2 w3 _ keep => got h' ⟨⟨_, _, q1, .inl rfl, .inl rfl⟩, q2, ⟨_, _, _, q3⟩, ⟨_, w1, rfl, rfl⟩, ⟨_, w2, rfl, rfl⟩, ⟨_, w3, rfl, rfl⟩⟩ keep
theorem turn_sideT3 {K : PySem.W.Frag} {nm : Str} {np : Pos} {m : Nat} {z TI TO i1 i2 i3 : Addr} {y1 y2 y3 : List V} (apart : [z, TI, TO, i1, i2, i3].Nodup) (off1 : a1 ∉ [z, TI, TO, i1, i2, i3]) (off2 : a2 ∉ [z, TI, TO, i1, i2, i3]) (off3 : a3 ∉ [z, TI, TO, i1, i2, i3]) (z1 : y1.length = m) (z2 : y2.length = m) (z3 : y3.length = m) :
    Turn P w K (.Name nm np) (ItT K [(a1, y1), (a2, y2), (a3, y3)] m) [z, TI, TO, i1, i2, i3] z (fun i h => SideT3 h z TI TO i1 i2 i3 a1 a2 a3 i) where
  mem := by simp
  obj := fun i h S b hb => by
    obtain ⟨⟨f0, b1, q1, _⟩, q2, ⟨_, _, _, q3⟩, ⟨o1, e1, _, d1⟩, ⟨o2, e2, _, d2⟩, ⟨o3, e3, _, d3⟩⟩ := S
    have where_ : b = z ∨ b = TI ∨ b = TO ∨ b = i1 ∨ b = i2 ∨ b = i3 := by simpa using hb
    rcases where_ with rfl | rfl | rfl | rfl | rfl | rfl
    · exact ⟨_, q1, fun v q => nomatch q⟩
    · exact ⟨_, q2, fun v q => nomatch q⟩
    · exact ⟨_, q3, fun v q => nomatch q⟩
    · exact ⟨o1, e1, fun v q => by rw [d1] at q; cases q⟩
    · exact ⟨o2, e2, fun v q => by rw [d2] at q; cases q⟩
    · exact ⟨o3, e3, fun v q => by rw [d3] at q; cases q⟩
  keep := fun i h h' S k => sideT3_keep S k
  item := by
    rintro X rfl rfl rfl calm i pins s σ H E I fp S ⟨lt, known⟩
    have s1 : SqT X.K H a1 y1 := known (a1, y1) (by simp)
    obtain ⟨its1, vals1, isT1, _⟩ := I.tuple s1
    have at1 : y1[i]? = some (y1.getD i .non) := item_there (by omega)
    obtain ⟨c1, on1, r1⟩ := vals1.get at1
    rw [← List.getElem?_toArray] at on1
    have s2 : SqT X.K H a2 y2 := known (a2, y2) (by simp)
    obtain ⟨its2, vals2, isT2, _⟩ := I.tuple s2
    have at2 : y2[i]? = some (y2.getD i .non) := item_there (by omega)
    obtain ⟨c2, on2, r2⟩ := vals2.get at2
    rw [← List.getElem?_toArray] at on2
    have s3 : SqT X.K H a3 y3 := known (a3, y3) (by simp)
    obtain ⟨its3, vals3, isT3, _⟩ := I.tuple s3
    have at3 : y3[i]? = some (y3.getD i .non) := item_there (by omega)
    obtain ⟨c3, on3, r3⟩ := vals3.get at3
    rw [← List.getElem?_toArray] at on3
    have below : ∀ b ∈ [z, TI, TO, i1, i2, i3], b < s.heap.objs.size := fun b hb => by
      obtain ⟨⟨f0, b1, q1, _⟩, q2, ⟨_, _, _, q3⟩, ⟨o1, e1, _, d1⟩, ⟨o2, e2, _, d2⟩, ⟨o3, e3, _, d3⟩⟩ := S
      have where_ : b = z ∨ b = TI ∨ b = TO ∨ b = i1 ∨ b = i2 ∨ b = i3 := by simpa using hb
      rcases where_ with rfl | rfl | rfl | rfl | rfl | rfl
      · exact Heap.lt_size q1
      · exact Heap.lt_size q2
      · exact Heap.lt_size q3
      · exact Heap.lt_size e1
      · exact Heap.lt_size e2
      · exact Heap.lt_size e3
    refine nextT3_item (I.ok.hd calm) apart S (isTuple_of isT1) off1 (isTuple_of isT2) off2 (isTuple_of isT3) off3 on1 on2 on3 fun h' S' made size_ keep => ?_
    have new : ObjOk X.prog X.w (upd H s.heap.objs.size (.tup [y1.getD i .non, y2.getD i .non, y3.getD i .non])) h' s.heap.objs.size (.tup [y1.getD i .non, y2.getD i .non, y3.getD i .non]) :=
      ⟨by show 3 ≤ sizeLine; decide, _, .cons r1 (.cons r2 (.cons r3 (.nil))), ⟨_, made, rfl, _, rfl⟩⟩
    have J := I.turnedNew (t' := s.toks) (ch := [z, TI, TO, i1, i2, i3]) (fun b o nb q => keep b o (fun e => nb (by simp [e])) (fun e => nb (by simp [e])) (fun e => nb (by simp [e])) (fun e => nb (by simp [e])) (fun e => nb (by simp [e])) q) fp (Nat.le_refl _) new
    refine ⟨.ref s.heap.objs.size, rfl, wpAny_pure ⟨.ref s.heap.objs.size, _, J, rfl, ⟨_, rfl, I.hok.fresh (Nat.le_refl _), rfl⟩, S', fun b hb => ?_⟩⟩
    rw [upd_ne (Nat.ne_of_lt (below b hb))]
    exact (fp b hb).1
  done := by
    rintro X rfl rfl rfl calm i pins s σ H E I fp S ⟨stop, known⟩
    have s1 : SqT X.K H a1 y1 := known (a1, y1) (by simp)
    obtain ⟨its1, vals1, isT1, _⟩ := I.tuple s1
    have s2 : SqT X.K H a2 y2 := known (a2, y2) (by simp)
    obtain ⟨its2, vals2, isT2, _⟩ := I.tuple s2
    have s3 : SqT X.K H a3 y3 := known (a3, y3) (by simp)
    obtain ⟨its3, vals3, isT3, _⟩ := I.tuple s3
    have c1 : its1.toArray[i]? = none := by
      rw [List.getElem?_toArray, List.getElem?_eq_none (by rw [← vals1.length]; omega)]
    exact nextT3_end (I.ok.hd calm) apart S (isTuple_of isT1) off1 (isTuple_of isT2) off2 (isTuple_of isT3) off3 c1 fun h' keep => ⟨rfl, I.turnedL (t' := s.toks) (ch := [z, TI, TO, i1, i2, i3]) (fun b o nb q => keep b o (fun e => nb (by simp [e])) (fun e => nb (by simp [e])) (fun e => nb (by simp [e])) (fun e => nb (by simp [e])) (fun e => nb (by simp [e])) q) fp⟩
  self := fun A i s Q E S h => by
    obtain ⟨f0, b1, at_z, _⟩ := S.zip
    exact iter_self at_z h
end

def iZipsT (K : PySem.W.Frag) (te : TE) : TI := fun σ H R => te σ H fun v H1 => ∃ (a : Addr) (ps : List (Addr × List V)) (m : Nat), v = .ref a ∧ SqT K H1 a (ps.map fun p => V.ref p.1) ∧ 1 ≤ ps.length ∧ ps.length ≤ 3 ∧
  (∀ p ∈ ps, SqT K H1 p.1 p.2 ∧ p.2.length = m) ∧ R (ItT K ps m) H1
theorem pi_zipsT {X : Cx} {e : Expr} {te : TE} {p sp pos np : Pos} {nm : Str} (hg : Gl X "zip") (hm : X.mg "zip" = none) (he : PE X e te)
    (one : starEach [.Starred e sp] X.env = [(true, eval e X.env)] := by rfl) :
    PI X (.Name nm np) (.Call (.Name "zip" p) [.Starred e sp] [] pos) (iZipsT X.K te) := by
  refine ⟨fun pins s σ H R I h => ?_⟩
  refine Call_ (ld_blt I hg hm PyProof.Rows.boot_zip ?_)
  rw [one]
  refine PySem.W.ks_call (P := fun _ => True) rfl (fun _ _ => ⟨.machine, .inr (.inl rfl), .now⟩) (PySem.W.ks_lone (thn (he.run pins s σ H _ I h) fun u s1 ⟨v, H1, I1, rv, q⟩ => ?_))
  obtain ⟨a, ps, m, rfl, hT, n1, n3, same, q⟩ := q
  cases rv
  obtain ⟨its, vals, ⟨⟨cls, dd, dat, sl⟩, at_a, hc, n, hd⟩, hz⟩ := I1.tuple hT
  simp only at hc hd
  subst hc hd
  have isT : s1.TypeIs (.ref a) "tuple" := ⟨_, at_a, rfl⟩
  refine wpAny_bind (wpAny_specialOf isT F.slot_tuple_iter.lookup (wpAny_pure ⟨rfl, ?_⟩))
  refine wpAny_collect_seq a (.inr rfl) at_a rfl rfl (fun h' keep => ⟨True.intro, ?_⟩) (by rw [List.size_toArray, ← vals.length]; exact hz)
  have I2 : Inv X pins σ H1 { s1 with heap := h' } := I1.kept (t' := s1.toks) keep
  have fresh_fp : ∀ {h2 : Heap} {L : List Addr}, (∀ b ∈ L, h'.objs.size ≤ b) → (∀ b o, h'.get? b = some o → h2.get? b = some o) → ∀ b ∈ L, FpOk X pins H1 b := fun {h2 L} below k b hb =>
    I2.fpOk (below b hb) (I2.hok.fresh (below b hb))
  have apart_ : ∀ {c : Addr} {l : Array Value} {L : List Addr}, h'.IsTuple c l → (∀ b ∈ L, h'.objs.size ≤ b) → c ∉ L := fun {c l L} t below hc => by
    obtain ⟨o, e, _⟩ := t
    exact absurd (Heap.lt_size e) (Nat.not_lt.mpr (below c hc))

  -- 1
  have case1 : ∀ {a1 : Addr} {y1 : List V} {us : List Value}, Vals [V.ref a1] us → (SqT X.K H1 a1 y1 ∧ y1.length = m) → R (ItT X.K [(a1, y1)] m) H1 → wpAny (model X.prog X.w) X.A (call (.type "zip") us) (fun v s2 => wpAny (model X.prog X.w) X.A (pyIter v) (PIE X pins σ (.Name nm np) R) X.xe s2) X.xe { s1 with heap := h' } := by
    intro a1 y1 us vs g1 q
    obtain _ | ⟨rf1, vs1⟩ := vs
    cases vs1
    cases rf1
    obtain ⟨its1, vals1, isT1, _⟩ := I2.tuple g1.1
    refine call_zipT1 rfl (isTuple_of isT1) fun h2 S k => ?_
    obtain ⟨f0, b1, at_z, _⟩ := S.zip
    refine iter_self (s := { s1 with heap := h2 }) at_z ?_
    have I3 : Inv X pins σ H1 { s1 with heap := h2 } := I2.kept (t' := s1.toks) k
    exact ⟨_, _, _, _, H1, rfl, I3, turn_sideT1 (by simp) (apart_ (isTuple_of isT1) (by simp)) g1.2, S, fresh_fp (h2 := h2) (by simp) k, q⟩
  -- 2
  have case2 : ∀ {a1 a2 : Addr} {y1 y2 : List V} {us : List Value}, Vals [V.ref a1, V.ref a2] us → (SqT X.K H1 a1 y1 ∧ y1.length = m) → (SqT X.K H1 a2 y2 ∧ y2.length = m) → R (ItT X.K [(a1, y1), (a2, y2)] m) H1 → wpAny (model X.prog X.w) X.A (call (.type "zip") us) (fun v s2 => wpAny (model X.prog X.w) X.A (pyIter v) (PIE X pins σ (.Name nm np) R) X.xe s2) X.xe { s1 with heap := h' } := by
    intro a1 a2 y1 y2 us vs g1 g2 q
    obtain _ | ⟨rf1, vs1⟩ := vs
    obtain _ | ⟨rf2, vs2⟩ := vs1
    cases vs2
    cases rf1
    cases rf2
    obtain ⟨its1, vals1, isT1, _⟩ := I2.tuple g1.1
    obtain ⟨its2, vals2, isT2, _⟩ := I2.tuple g2.1
    refine call_zipT2 rfl (isTuple_of isT1) (isTuple_of isT2) fun h2 S k => ?_
    obtain ⟨f0, b1, at_z, _⟩ := S.zip
    refine iter_self (s := { s1 with heap := h2 }) at_z ?_
    have I3 : Inv X pins σ H1 { s1 with heap := h2 } := I2.kept (t' := s1.toks) k
    exact ⟨_, _, _, _, H1, rfl, I3, turn_sideT2 (by simp) (apart_ (isTuple_of isT1) (by simp)) (apart_ (isTuple_of isT2) (by simp)) g1.2 g2.2, S, fresh_fp (h2 := h2) (by simp) k, q⟩
  -- 3
  have case3 : ∀ {a1 a2 a3 : Addr} {y1 y2 y3 : List V} {us : List Value}, Vals [V.ref a1, V.ref a2, V.ref a3] us → (SqT X.K H1 a1 y1 ∧ y1.length = m) → (SqT X.K H1 a2 y2 ∧ y2.length = m) → (SqT X.K H1 a3 y3 ∧ y3.length = m) → R (ItT X.K [(a1, y1), (a2, y2), (a3, y3)] m) H1 → wpAny (model X.prog X.w) X.A (call (.type "zip") us) (fun v s2 => wpAny (model X.prog X.w) X.A (pyIter v) (PIE X pins σ (.Name nm np) R) X.xe s2) X.xe { s1 with heap := h' } := by
    intro a1 a2 a3 y1 y2 y3 us vs g1 g2 g3 q
    obtain _ | ⟨rf1, vs1⟩ := vs
    obtain _ | ⟨rf2, vs2⟩ := vs1
    obtain _ | ⟨rf3, vs3⟩ := vs2
    cases vs3
    cases rf1
    cases rf2
    cases rf3
    obtain ⟨its1, vals1, isT1, _⟩ := I2.tuple g1.1
    obtain ⟨its2, vals2, isT2, _⟩ := I2.tuple g2.1
    obtain ⟨its3, vals3, isT3, _⟩ := I2.tuple g3.1
    refine call_zipT3 rfl (isTuple_of isT1) (isTuple_of isT2) (isTuple_of isT3) fun h2 S k => ?_
    obtain ⟨f0, b1, at_z, _⟩ := S.zip
    refine iter_self (s := { s1 with heap := h2 }) at_z ?_
    have I3 : Inv X pins σ H1 { s1 with heap := h2 } := I2.kept (t' := s1.toks) k
    exact ⟨_, _, _, _, H1, rfl, I3, turn_sideT3 (by simp) (apart_ (isTuple_of isT1) (by simp)) (apart_ (isTuple_of isT2) (by simp)) (apart_ (isTuple_of isT3) (by simp)) g1.2 g2.2 g3.2, S, fresh_fp (h2 := h2) (by simp) k, q⟩
  rcases ps with _ | ⟨⟨a1, y1⟩, _ | ⟨⟨a2, y2⟩, _ | ⟨⟨a3, y3⟩, _ | ⟨p4, r⟩⟩⟩⟩
  · exact absurd n1 (by decide)
  · exact case1 vals (same (a1, y1) (by simp)) q
  · exact case2 vals (same (a1, y1) (by simp)) (same (a2, y2) (by simp)) q
  · exact case3 vals (same (a1, y1) (by simp)) (same (a2, y2) (by simp)) (same (a3, y3) (by simp)) q
  · exact absurd n3 (by simp)
/-- the reading of a comprehension over tuples side by side -/
theorem lc_zipsT {K : PySem.W.Frag} {ps : List (Addr × List V)} {m : Nat} {g : TG} {tt : TT} {te : TE} {vs : List Nat} {σ : L2.St} {H1 : Hp} {D : Addr} {Qd : Hp → Prop} (Pv : Nat → Hp → Prop)
    (h0 : Pv 0 (upd H1 D (.lst []))) (hl : ∀ i H, Pv i H → ∀ p ∈ ps, SqT K H p.1 p.2)
    (hs : ∀ i T H, i < m → H T = none → Pv i H → g (.ref T) (wipe σ vs) (upd H T (.tup (ps.map fun p => p.2.getD i .non))) fun σ2 H2 => wipe σ2 vs = wipe σ vs ∧ tt σ2 H2 fun b H3 =>
      if b = true then te σ2 H3 fun y H4 => ∃ acc, H4 D = some (.lst acc) ∧ acc.length < sizeLine ∧ Pv (i + 1) (upd H4 D (.lst (acc ++ [y]))) else Pv (i + 1) H3)
    (hd : ∀ H, Pv m H → Qd H) :
    ∃ W : Nat → Nat → Hp → Prop, (∃ m, W 0 m (upd H1 D (.lst []))) ∧ ∀ i k H, W i k H →
      ((ItT K ps m).stop i H ∧ Qd H) ∨ ((ItT K ps m).go i H ∧ ∃ Nx : Hp → Prop, (∀ H', Nx H' → ∃ m', m' < k ∧ W (i + 1) m' H') ∧
        ∀ v H', (ItT K ps m).yld i H v H' → g v (wipe σ vs) H' fun σ2 H2 => wipe σ2 vs = wipe σ vs ∧ tt σ2 H2 fun b H3 =>
          if b = true then te σ2 H3 fun y H4 => ∃ acc, H4 D = some (.lst acc) ∧ acc.length < sizeLine ∧ Nx (upd H4 D (.lst (acc ++ [y]))) else Nx H3) := by
  refine ⟨fun i k H => k = m - i ∧ i ≤ m ∧ Pv i H, ⟨_, rfl, Nat.zero_le _, h0⟩, ?_⟩
  rintro i k H ⟨rfl, le, p⟩
  rcases Nat.lt_or_ge i m with lt | ge
  · refine Or.inr ⟨⟨lt, hl i H p⟩, Pv (i + 1), fun H' p' => ⟨m - (i + 1), by omega, rfl, lt, p'⟩, ?_⟩
    rintro v H' ⟨T, rfl, none_, rfl⟩
    exact hs i T H lt none_ p
  · have e : i = m := by omega
    rw [e] at p ⊢
    exact Or.inl ⟨⟨Nat.le_refl _, hl m H p⟩, hd H p⟩
end Tv

namespace Tv
open PySem PySem.Spec PyProof.Rows L2
/-! ### for a, b in zip(list, tuple) -/
def Itlt (K : PySem.W.Frag) (a b : Addr) : It :=
  ⟨fun i H => ∃ (xs ys : List V) (x y : V), SqL K H a xs ∧ SqT K H b ys ∧ xs[i]? = some x ∧ ys[i]? = some y ∧ xs.length = ys.length,
    fun i H v H' => ∃ T x y, v = .ref T ∧ H T = none ∧ H' = upd H T (.tup [x, y]) ∧ (∀ xs, SqL K H a xs → xs[i]? = some x) ∧ ∀ ys, SqT K H b ys → ys[i]? = some y,
    fun i H => ∃ xs ys : List V, SqL K H a xs ∧ SqT K H b ys ∧ xs.length = ys.length ∧ xs.length = i⟩
abbrev SideLT (h : Heap) (z TI TO i1 i2 a b : Addr) (i : Nat) : Prop :=
  IsZip h z TI TO .none ∧ IsTupOf2 h TI (.ref i1) (.ref i2) ∧ (∃ v u, IsTupOf2 h TO v u) ∧ h.IsListIter i1 a i ∧ h.IsTupleIter i2 b i
theorem turn_sideLT {P : Program} {w : World} {K : PySem.W.Frag} {elts : List Expr} {kk : Nat} {tpos : Pos} {z TI TO i1 i2 a b : Addr} (S : ZipSep2 z TI TO i1 i2 [i1, a] [i2, b]) (na : a ≠ i1) (nb2 : b ≠ i2) :
    Turn P w K (.Tuple elts kk tpos) (Itlt K a b) [z, TI, TO, i1, i2] z (fun i h => SideLT h z TI TO i1 i2 a b i) where
  mem := by simp
  obj := fun i h st c hc => by
    obtain ⟨q1, q2, ⟨_, _, q3⟩, ⟨o1, e1, _, d1⟩, ⟨o2, e2, _, d2⟩⟩ := st
    have where_ : c = z ∨ c = TI ∨ c = TO ∨ c = i1 ∨ c = i2 := by simpa using hc
    rcases where_ with rfl | rfl | rfl | rfl | rfl
    · exact ⟨_, q1, fun v q => nomatch q⟩
    · exact ⟨_, q2, fun v q => nomatch q⟩
    · exact ⟨_, q3, fun v q => nomatch q⟩
    · exact ⟨o1, e1, fun v q => by rw [d1] at q; cases q⟩
    · exact ⟨o2, e2, fun v q => by rw [d2] at q; cases q⟩
  keep := fun i h h' ⟨q1, q2, ⟨v, u, q3⟩, q4, q5⟩ k =>
    ⟨k _ (by simp) _ q1, k _ (by simp) _ q2, ⟨v, u, k _ (by simp) _ q3⟩, q4.at fun o q => k _ (by simp) o q, q5.at fun o q => k _ (by simp) o q⟩
  item := by
    rintro X rfl rfl rfl calm i pins s σ H E I fp ⟨q1, q2, ⟨v0, u0, q3⟩, q4, q5⟩ ⟨xs, ys, x, y, hx, hy, at_x, at_y, same⟩
    obtain ⟨its, vals, p, _⟩ := I.list hx
    obtain ⟨jts, wals, pt, _⟩ := I.tuple hy
    obtain ⟨u, at_u, ru⟩ := vals.get at_x
    obtain ⟨u2, at_u2, ru2⟩ := wals.get at_y
    have lt : i < xs.length := (List.getElem?_eq_some_iff.mp at_x).1
    have many := vals.length
    have many2 := wals.length
    have lz := Heap.lt_size q1
    have hh : X.A.handled = none := I.ok.hd calm
    refine wpAny_pyNext_zipD2_item S (Draws.list (A := X.A.in1) hh i1 a na its.toArray) (Draws.tuple (A := X.A.in1) hh i2 b nb2 jts.toArray) q1 q2 q3 ⟨q4, p.isList⟩ ⟨q5, pt⟩
      (by rw [List.size_toArray]; omega) (by rw [List.size_toArray]; omega) fun w1 w2 h' tk p1 p2 z' out' st1 st2 made size_ keep => ?_
    refine ⟨_, rfl, wpAny_letOwnedTupleGo_zip (s := { s with heap := h', toks := tk }) z' fun h2 z2 same2 => ?_⟩
    have made2 : h2.get? s.heap.objs.size = some { cls := .type "tuple", data := .seq #[w1, w2] } := (same2.2 _ (Nat.ne_of_gt lz)).trans made
    have eu : w1 = u := by
      have p1' : its.toArray[i]? = some w1 := p1
      rw [List.getElem?_toArray, at_u] at p1'
      exact (Option.some.inj p1').symm
    have eu2 : w2 = u2 := by
      have p2' : jts.toArray[i]? = some w2 := p2
      rw [List.getElem?_toArray, at_u2] at p2'
      exact (Option.some.inj p2').symm
    subst eu eu2
    have new : ObjOk X.prog X.w (upd H s.heap.objs.size (.tup [x, y])) h2 s.heap.objs.size (.tup [x, y]) :=
      ⟨by show 2 ≤ sizeLine; decide, _, .cons ru (.cons ru2 .nil), ⟨_, made2, rfl, _, rfl⟩⟩
    have keep2 : ∀ c o, c ∉ [z, TI, TO, i1, i2] → s.heap.get? c = some o → h2.get? c = some o := fun c o nb q =>
      (same2.2 c fun e => nb (by simp [e])).trans (keep c o (fun e => nb (by simp [e])) (fun e => nb (by simp [e])) (fun e => nb (by simp [e])) (fun e => nb (by simp [e])) q)
    have J := I.turnedNew (t' := tk) (ch := [z, TI, TO, i1, i2]) keep2 fp (Nat.le_refl _) new
    refine ⟨.ref s.heap.objs.size, _, J, rfl, ⟨_, x, y, rfl, I.hok.fresh (Nat.le_refl _), rfl, fun l hl => by rw [I.list_inj hl hx]; exact at_x, fun l hl => by rw [I.tuple_inj hl hy]; exact at_y⟩, ⟨z2, ?_, ⟨w1, w2, ?_⟩, ?_, ?_⟩, fun c hc => ?_⟩
    · exact (same2.2 _ S.TIz).trans (keep _ _ S.TIz S.TITO S.TIi1 S.TIi2 q2)
    · exact (same2.2 _ S.TOz).trans out'
    · exact st1.1.at fun o q => (same2.2 _ S.zi1.symm).trans q
    · exact st2.1.at fun o q => (same2.2 _ S.zi2.symm).trans q
    · have lb : c < s.heap.objs.size := by
        obtain ⟨o1, e1, _⟩ := q4
        obtain ⟨o2, e2, _⟩ := q5
        have where_ : c = z ∨ c = TI ∨ c = TO ∨ c = i1 ∨ c = i2 := by simpa using hc
        rcases where_ with rfl | rfl | rfl | rfl | rfl
        · exact lz
        · exact Heap.lt_size q2
        · exact Heap.lt_size q3
        · exact Heap.lt_size e1
        · exact Heap.lt_size e2
      rw [upd_ne (Nat.ne_of_lt lb)]
      exact (fp c hc).1
  done := by
    rintro X rfl rfl rfl calm i pins s σ H E I fp ⟨q1, q2, ⟨v0, u0, q3⟩, q4, q5⟩ ⟨xs, ys, hx, hy, same, over⟩
    obtain ⟨its, vals, p, _⟩ := I.list hx
    obtain ⟨jts, wals, pt, _⟩ := I.tuple hy
    have many := vals.length
    have many2 := wals.length
    have hh : X.A.handled = none := I.ok.hd calm
    exact wpAny_pyNext_zipD2_end S (Draws.list (A := X.A.in1) hh i1 a na its.toArray) (Draws.tuple (A := X.A.in1) hh i2 b nb2 jts.toArray) q1 q2 q3 ⟨q4, p.isList⟩ ⟨q5, pt⟩
      (by rw [List.size_toArray]; omega) (by rw [List.size_toArray]; omega) (.inl (by rw [List.size_toArray]; omega)) fun h' tk keep =>
      ⟨rfl, I.turnedL (t' := tk) (ch := [z, TI, TO, i1, i2]) (fun c o nb q => keep c o (fun e => nb (by simp [e])) (fun e => nb (by simp [e])) (fun e => nb (by simp [e])) (fun e => nb (by simp [e])) q) fp⟩
  self := fun A i s Q E st h => wpAny_pyIter_zip st.1 h
def iZipLT (K : PySem.W.Frag) (ta : TA) : TI := fun σ H R => ta σ H fun vs H1 => ∃ (a b : Addr) (xs ys : List V), vs = [.ref a, .ref b] ∧ SqL K H1 a xs ∧ SqT K H1 b ys ∧ R (Itlt K a b) H1
theorem pi_zipLT {X : Cx} {e e2 : Expr} {ta : TA} {p pos tpos : Pos} {elts : List Expr} {kk : Nat} (hg : Gl X "zip") (hm : X.mg "zip" = none) (ha : PA X [e, e2] ta)
    (two : starEach [e, e2] X.env = (false, eval e X.env) :: starEach [e2] X.env := by rfl) (plain : (backTo pos (starEach [e2] X.env)).any (·.1) = false := by rfl) :
    PI X (.Tuple elts kk tpos) (.Call (.Name "zip" p) [e, e2] [] pos) (iZipLT X.K ta) := by
  refine ⟨fun pins s σ H R I h => ?_⟩
  refine Call_ (ld_blt I hg hm PyProof.Rows.boot_zip (PyProof.Rows.callWith_type1 (thn (ha.run pos pins s σ H _ I h) fun us s1 ⟨vs, H1, I1, r1, q1⟩ => ?_) two plain))
  obtain ⟨a, b, xs, ys, rfl, hx, hy, q⟩ := q1
  obtain _ | ⟨r0, rr⟩ := r1
  obtain _ | ⟨r2, rr⟩ := rr
  cases rr
  cases r0
  cases r2
  obtain ⟨its, vals, p1, _⟩ := I1.list hx
  obtain ⟨jts, wals, p2, _⟩ := I1.tuple hy
  have la : a < s1.heap.objs.size := p1.lt
  have lb : b < s1.heap.objs.size := let ⟨o, e, _⟩ := p2; Heap.lt_size e
  refine zip_begins2 (begins_list a its.toArray) (begins_tuple b jts.toArray) p1.isList p2 fun h' c1 c2 c3 c4 c5 size_ keep => wpAny_pyIter_zip c1 ?_
  have I2 : Inv X pins σ H1 { s1 with heap := h' } := I1.kept (t' := s1.toks) keep
  refine ⟨_, [s1.heap.objs.size + 4, s1.heap.objs.size + 2, s1.heap.objs.size + 3, s1.heap.objs.size, s1.heap.objs.size + 1], _, _, H1, rfl, I2,
    turn_sideLT (zip_sep2 (N := s1.heap.objs.size) (fp1 := [a]) (fp2 := [b]) (by simpa using la) (by simpa using lb)) (Nat.ne_of_lt la) (Nat.ne_of_lt (Nat.lt_succ_of_lt lb)), ⟨c1, c2, ⟨_, _, c3⟩, ⟨_, c4, rfl, rfl⟩, ⟨_, c5, rfl, rfl⟩⟩, fun c hc => ?_, q⟩
  have le : s1.heap.objs.size ≤ c := by
    have where_ : c = s1.heap.objs.size + 4 ∨ c = s1.heap.objs.size + 2 ∨ c = s1.heap.objs.size + 3 ∨ c = s1.heap.objs.size ∨ c = s1.heap.objs.size + 1 := by simpa using hc
    rcases where_ with rfl | rfl | rfl | rfl | rfl
    · exact Nat.le_add_right ..
    · exact Nat.le_add_right ..
    · exact Nat.le_add_right ..
    · exact Nat.le_refl _
    · exact Nat.le_add_right ..
  exact I1.fpOk le (I1.hok.fresh le)
end Tv

namespace Tv
open PySem PySem.Spec PyProof.Rows L2 Evl
/-! ### a table's values by their arguments, as a dict -/
theorem tab_ascii {ds : List Nat} {n : Nat} (T : IsTab ds n) : (tab ds).cps.size = 3 ^ n ∧ (tab ds).cps.all (· < 128) = true := by
  refine ⟨by rw [tab_size, T.len], ?_⟩
  rw [← Array.all_toList, tab_cps, List.all_eq_true]
  intro c hc
  obtain ⟨d, hd, rfl⟩ := List.mem_map.mp hc
  have := T.dig d hd
  exact decide_eq_true (by omega)
theorem sign_tab {ds : List Nat} {i : Nat} (h : i < ds.length) : signAt i (tab ds) = .str ⟨#[48 + ds.getD i 0]⟩ := by
  have e : (tab ds).cps.getD i 0 = 48 + ds.getD i 0 := by
    rw [Array.getD_eq_getD_getElem?, ← Array.getElem?_toList, tab_cps, List.getElem?_map, List.getD_eq_getElem?_getD, List.getElem?_eq_getElem h]
    rfl
  unfold signAt
  rw [e]

def keyR (r : List Nat) : List Key := r.map fun (a : Nat) => Sum.inl (a : Int)
theorem keyR_kV (r : List Nat) : (keyR r).map kV = iv r := by
  unfold keyR iv
  rw [List.map_map]
  rfl
def keyNat : Key → Nat
  | .inl i => i.toNat
  | .inr _ => 0
theorem keyR_nat (r : List Nat) : (keyR r).map keyNat = r := by
  unfold keyR
  rw [List.map_map]
  have e : (keyNat ∘ fun (a : Nat) => (Sum.inl (a : Int) : Key)) = id := by
    funext a
    show (a : Int).toNat = a
    exact Int.toNat_natCast a
  rw [e, List.map_id]
theorem keyR_inj {r q : List Nat} (h : keyR r = keyR q) : r = q := by
  rw [← keyR_nat r, h, keyR_nat]
def tupI (n i : Nat) : List Nat := (tups n).getD i []
theorem tupI_of {n i : Nat} {r : List Nat} (h : (tups n)[i]? = some r) : tupI n i = r := by
  unfold tupI
  rw [List.getD_eq_getElem?_getD, h]
  rfl
theorem tup_num {n : Nat} {r : List Nat} (n1 : 1 ≤ n) (n3 : n ≤ 3) (h : r.length = n) (hd : ∀ a ∈ r, a < 3) : tupI n (num r) = r := by
  have q : n = 1 ∨ n = 2 ∨ n = 3 := by omega
  have c : ∀ a : Nat, a < 3 → a = 0 ∨ a = 1 ∨ a = 2 := fun a h => by omega
  rcases q with rfl | rfl | rfl
  · match r, h, hd with
    | [a], _, hd => rcases c a (hd a (by simp)) with rfl | rfl | rfl <;> rfl
  · match r, h, hd with
    | [a, b], _, hd => rcases c a (hd a (by simp)) with rfl | rfl | rfl <;> rcases c b (hd b (by simp)) with rfl | rfl | rfl <;> rfl
  · match r, h, hd with
    | [a, b, d], _, hd => rcases c a (hd a (by simp)) with rfl | rfl | rfl <;> rcases c b (hd b (by simp)) with rfl | rfl | rfl <;> rcases c d (hd d (by simp)) with rfl | rfl | rfl <;> rfl
theorem num_tup {n i : Nat} (n3 : n ≤ 3) (h : i < 3 ^ n) : num (tupI n i) = i := by
  have t := tups_ok n n3
  exact (t.2 i (by rw [t.1]; exact h)).1
def kvU (ds : List Nat) (n i : Nat) : List (List Key × V) := (List.range i).map fun j => (keyR (tupI n j), V.int ((ds.getD j 0 : Nat) : Int))
abbrev kvs (ds : List Nat) (n : Nat) : List (List Key × V) := kvU ds n (3 ^ n)
theorem kvU_succ (ds : List Nat) (n i : Nat) : kvU ds n (i + 1) = kvU ds n i ++ [(keyR (tupI n i), V.int ((ds.getD i 0 : Nat) : Int))] := by
  unfold kvU
  rw [List.range_succ, List.map_append]
  rfl
theorem kvU_len (ds : List Nat) (n i : Nat) : (kvU ds n i).length = i := by simp [kvU]
theorem valV_app {kv : List (List Key × V)} {p : List Key × V} {k : List Key} : valV (kv ++ [p]) k = (valV kv k).or (if p.1 = k then some p.2 else none) := by
  unfold valV
  rw [List.find?_append]
  cases e : kv.find? fun z => decide (z.1 = k) with
  | some z => rfl
  | none =>
    by_cases h : p.1 = k
    · rw [if_pos h]
      simp [h]
    · rw [if_neg h]
      simp [h]
theorem kvU_at {ds r : List Nat} {n : Nat} (n1 : 1 ≤ n) (n3 : n ≤ 3) (h : r.length = n) (hd : ∀ a ∈ r, a < 3) : ∀ i, i ≤ 3 ^ n → valV (kvU ds n i) (keyR r) = if num r < i then some (V.int ((ds.getD (num r) 0 : Nat) : Int)) else none
  | 0, _ => rfl
  | i + 1, hi => by
    rw [kvU_succ, valV_app, kvU_at n1 n3 h hd i (by omega)]
    by_cases e : i = num r
    · subst e
      rw [if_neg (Nat.lt_irrefl _), if_pos (Nat.lt_succ_self _), tup_num n1 n3 h hd, if_pos rfl]
      rfl
    · have ne : ¬ keyR (tupI n i) = keyR r := fun z => e (by rw [← keyR_inj z, num_tup n3 hi])
      rw [if_neg ne]
      by_cases lt : num r < i
      · rw [if_pos lt, if_pos (Nat.lt_succ_of_lt lt)]
        rfl
      · rw [if_neg lt, if_neg (by omega)]
        rfl
theorem kvs_at {ds r : List Nat} {n : Nat} (n1 : 1 ≤ n) (n3 : n ≤ 3) (h : r.length = n) (hd : ∀ a ∈ r, a < 3) : valV (kvs ds n) (keyR r) = some (V.int ((val ds r : Nat) : Int)) := by
  rw [kvU_at n1 n3 h hd _ (Nat.le_refl _), if_pos (num_lt n r h hd)]
  rfl
theorem kvU_new {ds : List Nat} {n i : Nat} (n3 : n ≤ 3) (h : i < 3 ^ n) : valV (kvU ds n i) (keyR (tupI n i)) = none := by
  unfold valV
  have e : (kvU ds n i).find? (fun z => decide (z.1 = keyR (tupI n i))) = none := by
    rw [List.find?_eq_none]
    intro z hz
    unfold kvU at hz
    obtain ⟨j, hj, rfl⟩ := List.mem_map.mp hz
    have ji := List.mem_range.mp hj
    intro y
    have y2 := keyR_inj (of_decide_eq_true y)
    have : num (tupI n j) = num (tupI n i) := by rw [y2]
    rw [num_tup n3 (by omega), num_tup n3 h] at this
    omega
  rw [e]
  rfl
/-- the reading of a dict comprehension over zip(list, text) -/
theorem dc_zipLS {K : PySem.W.Frag} {a : Addr} {xs : List V} {y : Str} {g : TG} {tk tv : TE} {vs : List Nat} {σ : L2.St} {H1 : Hp} {D : Addr} {Qd : Hp → Prop} (same : xs.length = y.cps.size) (Pv : Nat → Hp → Prop)
    (h0 : Pv 0 (upd H1 D (.dT []))) (hq : ∀ i H, Pv i H → SqL K H a xs)
    (hs : ∀ (i : Nat) (x : V) (T : Addr) (H : Hp), xs[i]? = some x → Pv i H → H T = none → g (.ref T) (wipe σ vs) (upd H T (.tup [x, signAt i y])) fun σ2 H2 => wipe σ2 vs = wipe σ vs ∧ tk σ2 H2 fun u H4 => tv σ2 H4 fun z H5 =>
      ∃ kv k b, u = .ref b ∧ H5 b = some (.tup (List.map kV k)) ∧ H5 D = some (.dT kv) ∧ kv.length < sizeLine ∧ Pv (i + 1) (upd H5 D (.dT (putK kv k z))))
    (hd : ∀ H, Pv xs.length H → Qd H) :
    ∃ W : Nat → Nat → Hp → Prop, (∃ m, W 0 m (upd H1 D (.dT []))) ∧ ∀ i m H, W i m H →
      ((Itx K a y).stop i H ∧ Qd H) ∨ ((Itx K a y).go i H ∧ ∃ Nx : Hp → Prop, (∀ H', Nx H' → ∃ m', m' < m ∧ W (i + 1) m' H') ∧ ∀ x H', (Itx K a y).yld i H x H' → g x (wipe σ vs) H' fun σ2 H2 => wipe σ2 vs = wipe σ vs ∧
        tk σ2 H2 fun u H4 => tv σ2 H4 fun z H5 => ∃ kv k b, u = .ref b ∧ H5 b = some (.tup (List.map kV k)) ∧ H5 D = some (.dT kv) ∧ kv.length < sizeLine ∧ Nx (upd H5 D (.dT (putK kv k z)))) := by
  refine ⟨fun i m H => m = xs.length - i ∧ i ≤ xs.length ∧ Pv i H, ⟨_, rfl, Nat.zero_le _, h0⟩, ?_⟩
  rintro i m H ⟨rfl, le, p⟩
  have here := hq i H p
  rcases Nat.lt_or_ge i xs.length with lt | ge
  · have at_x := List.getElem?_eq_getElem lt
    refine Or.inr ⟨⟨xs, _, here, at_x, same⟩, Pv (i + 1), fun H' p' => ⟨xs.length - (i + 1), by omega, rfl, lt, p'⟩, ?_⟩
    rintro v H' ⟨T, x, rfl, none_, rfl, known⟩
    exact hs i x T H (known xs here) p none_
  · have e : i = xs.length := by omega
    rw [e] at p ⊢
    exact Or.inl ⟨⟨xs, here, same, rfl⟩, hd H p⟩
/-! ### what a table makes of rows -/
def makes (ds : List Nat) (rs : List (List Nat)) (m : Nat) : List Nat := (List.range m).map fun i => val ds (rs.map fun r => r.getD i 0)
theorem rows_pairs {H : Hp} : ∀ {ys : List V} {rs : List (List Nat)}, Rows H ys rs → ∃ ps : List (Addr × List V), ys = ps.map (fun p => V.ref p.1) ∧ ps.map (·.2) = rs.map iv ∧ ∀ p ∈ ps, H p.1 = some (.tup p.2)
  | _, _, .nil => ⟨[], rfl, rfl, fun _ h => nomatch h⟩
  | _, r :: _, .cons ⟨a, e, h⟩ t => by
    obtain ⟨ps, e1, e2, e3⟩ := rows_pairs t
    refine ⟨(a, iv r) :: ps, by rw [List.map_cons, ← e1, e], by rw [List.map_cons, e2]; rfl, fun p hp => ?_⟩
    rcases List.mem_cons.mp hp with rfl | hp
    · exact h
    · exact e3 p hp
theorem iv_getD {r : List Nat} {i : Nat} (h : i < r.length) : (iv r).getD i .non = .int ((r.getD i 0 : Nat) : Int) := by
  unfold iv
  rw [List.getD_eq_getElem?_getD, List.getElem?_map, List.getElem?_eq_getElem h, List.getD_eq_getElem?_getD, List.getElem?_eq_getElem h]
  rfl
theorem side_iv {ps : List (Addr × List V)} {rs : List (List Nat)} {m i : Nat} (e : ps.map (·.2) = rs.map iv) (hr : ∀ r ∈ rs, r.length = m) (hi : i < m) :
    (ps.map fun p => p.2.getD i .non) = iv (rs.map fun r => r.getD i 0) := by
  have a : (ps.map fun p => p.2.getD i .non) = (ps.map (·.2)).map fun l => l.getD i .non := by rw [List.map_map]; rfl
  rw [a, e, List.map_map]
  unfold iv
  rw [List.map_map]
  refine List.map_congr_left fun r h => ?_
  exact iv_getD (by rw [hr r h]; exact hi)
theorem given_makes (ds : List Nat) (rs : List (List Nat)) (m : Nat) : given m (fun _ => true) (fun i => V.int ((val ds (rs.map fun r => r.getD i 0) : Nat) : Int)) = iv (makes ds rs m) := by
  unfold given makes iv
  rw [List.filter_eq_self.mpr (fun _ _ => rfl), List.map_map]
  rfl
theorem col_ok {rs : List (List Nat)} {m i : Nat} (hr : ∀ r ∈ rs, r.length = m ∧ ∀ a ∈ r, a < 3) (hi : i < m) : ∀ a ∈ rs.map (fun r => r.getD i 0), a < 3 := by
  intro a ha
  obtain ⟨r, h, rfl⟩ := List.mem_map.mp ha
  obtain ⟨l, d⟩ := hr r h
  rw [List.getD_eq_getElem?_getD, List.getElem?_eq_getElem (by omega : i < r.length)]
  exact d _ (List.getElem_mem _)
end Tv

namespace Tv
open PySem PySem.Spec PyProof.Rows L2 Evl
/-! ### a row among rows -/
def dI (as : List Nat) : List PyData := as.map fun (a : Nat) => PyData.int (a : Int)
theorem dI_eqv : ∀ as bs : List Nat, PyData.eqvAll (dI as) (dI bs) = decide (as = bs)
  | [], [] => rfl
  | [], _ :: _ => rfl
  | _ :: _, [] => rfl
  | a :: as, b :: bs => by
    have ih := dI_eqv as bs
    unfold dI at ih ⊢
    rw [List.map_cons, List.map_cons]
    show (PyData.eqv (.int (a : Int)) (.int (b : Int)) && PyData.eqvAll _ _) = _
    rw [ih]
    show (((a : Int) == (b : Int)) && _) = _
    by_cases e : a = b
    · subst e
      simp
    · have : ((a : Int) == (b : Int)) = false := beq_eq_false_iff_ne.mpr fun z => e (Int.ofNat.inj z)
      rw [this]
      simp [e]
theorem dI_lay : ∀ as : List Nat, PyData.canLayAll0 (dI as) = true
  | [] => rfl
  | a :: as => by
    have ih := dI_lay as
    unfold dI at ih ⊢
    rw [List.map_cons]
    show (true && PyData.canLayAll0 _) = true
    rw [ih]
    rfl
theorem dI_depth : ∀ as : List Nat, PyData.depthAll (dI as) = 0
  | [] => rfl
  | a :: as => by
    have ih := dI_depth as
    unfold dI at ih ⊢
    rw [List.map_cons]
    show max 0 (PyData.depthAll _) = 0
    rw [ih]
    rfl
def dRs (L : List (List Nat)) : List PyData := L.map fun r => PyData.tuple (dI r)
theorem dRs_lay : ∀ L : List (List Nat), PyData.canLayAll0 (dRs L) = true
  | [] => rfl
  | r :: L => by
    have ih := dRs_lay L
    unfold dRs at ih ⊢
    rw [List.map_cons]
    show (PyData.canLayAll0 (dI r) && PyData.canLayAll0 _) = true
    rw [ih, dI_lay]
    rfl
theorem dRs_any (r : List Nat) : ∀ L : List (List Nat), (dRs L).any (fun z => PyData.eqv z (.tuple (dI r))) = decide (r ∈ L)
  | [] => rfl
  | q :: L => by
    have ih := dRs_any r L
    unfold dRs at ih ⊢
    rw [List.map_cons, List.any_cons, ih]
    show (PyData.eqvAll (dI q) (dI r) || _) = _
    rw [dI_eqv]
    by_cases e : q = r
    · subst e
      simp
    · have e2 : ¬ r = q := fun z => e z.symm
      simp [e, e2]
theorem dp_iv {K : PySem.W.Frag} {H : Hp} : ∀ as : List Nat, DpAll K H (iv as) (dI as)
  | [] => .nil
  | a :: as => .cons (.int _) (dp_iv as)
theorem dp_row {K : PySem.W.Frag} {H : Hp} {x : V} {as : List Nat} (h : IsRow H x as) : Dp K H x (.tuple (dI as)) := by
  obtain ⟨a, rfl, ha⟩ := h
  exact .tup (SqT.of ha) (dp_iv as)
theorem dp_rows {K : PySem.W.Frag} {H : Hp} : ∀ {ys : List V} {L : List (List Nat)}, Rows H ys L → DpAll K H ys (dRs L)
  | _, [], .nil => .nil
  | _, _ :: _, .cons r t => .cons (dp_row r) (dp_rows t)
def rInR (K : PySem.W.Frag) (neg : Bool) : R2 := fun x y H Q => ∃ (p : Addr) (as : List Nat) (ys : List V) (L : List (List Nat)), y = .ref p ∧ IsRow H x as ∧ SqT K H p ys ∧ Rows H ys L ∧
  Q (.bl (if neg then !decide (as ∈ L) else decide (as ∈ L))) H
section
variable {X : Cx}
theorem row_in {neg : Bool} {pins : List (Addr × Obj)} {s : Shared} {σ : L2.St} {H : Hp} {x : V} {v : Value} {p : Addr} {as : List Nat} {ys : List V} {L : List (List Nat)} {E : Value → Shared → Prop} {Q : Value → Shared → Prop} (hu : X.A.units + 64 < cLine)
    (I : Inv X pins σ H s) (rx : RelV x v) (hx : IsRow H x as) (hy : SqT X.K H p ys) (R : Rows H ys L) (q : Q (.bool (if neg then !decide (as ∈ L) else decide (as ∈ L))) s) :
    wpAny (model X.prog X.w) X.A (compareOp (if neg then .NotIn else .In) v (.ref p)) Q E s := by
  obtain ⟨a1, r1⟩ := Dp.reads I _ x v (dp_row hx) rx
  obtain ⟨its, vals, pt, hz⟩ := I.tuple hy
  obtain ⟨a2, r2⟩ := Dp.readsAll I _ ys its (dp_rows R) vals
  have lay : PyData.canLay0 (.tuple (dI as)) = true := dI_lay as
  have dep : (PyData.tuple (dI as)).depth ≤ 1 := by
    unfold PyData.depth
    rw [dI_depth]
    exact Nat.le_refl 1
  have each := SeqAt.items_eqAt (A := X.A) (vs := its.toArray) (by simpa using r2) r1 (dRs_lay L) lay (by have := Nat.min_le_right (PyData.depthAll (dRs L)) (PyData.tuple (dI as)).depth; omega)
  have e : (its.toArray.any fun u => PyData.eqv (SeqAt.readOf s.heap u) (.tuple (dI as))) = decide (as ∈ L) := by
    rw [← dRs_any as L, ← SeqAt.readsAll_map (dRs L) its a2 (dRs_lay L) r2]
    simp [List.any_map, Function.comp_def]
  cases neg with
  | true =>
    refine SeqAt.notIn_tupleAt _ pt each ?_
    rw [e]
    exact q
  | false =>
    refine SeqAt.in_tupleAt _ pt each ?_
    rw [e]
    exact q
theorem op_inR (hu : X.A.units + 64 < cLine) : OpR X (compareOp .In) (rInR X.K false) := by
  intro pins s σ H x y v u Q I rx ry h
  obtain ⟨p, as, ys, L, rfl, hx, hy, R, q⟩ := h
  cases ry
  exact row_in (neg := false) hu I rx hx hy R ⟨.bl _, H, I, rfl, q⟩
theorem op_notInR (hu : X.A.units + 64 < cLine) : OpR X (compareOp .NotIn) (rInR X.K true) := by
  intro pins s σ H x y v u Q I rx ry h
  obtain ⟨p, as, ys, L, rfl, hx, hy, R, q⟩ := h
  cases ry
  exact row_in (neg := true) hu I rx hx hy R ⟨.bl _, H, I, rfl, q⟩
end
/-! ### len(set(row)) -/
theorem nodup_le : ∀ {l m : List Int}, l.Nodup → (∀ k ∈ l, k ∈ m) → l.length ≤ m.length
  | [], m, _, _ => Nat.zero_le _
  | a :: l, m, h, s => by
    obtain ⟨h1, h2⟩ := List.nodup_cons.mp h
    have am := s a (by simp)
    have ih := nodup_le (m := m.erase a) h2 fun k hk => by
      have ne : k ≠ a := fun z => h1 (z ▸ hk)
      exact (List.mem_erase_of_ne ne).mpr (s k (List.mem_cons_of_mem _ hk))
    have le := List.length_erase_of_mem am
    have pos : 0 < m.length := List.length_pos_of_mem am
    rw [List.length_cons]
    omega
def tLenSetT (K : PySem.W.Frag) (ta : TE) : TE := fun σ H Q => ta σ H fun x H1 => ∃ (l : Addr) (ns : List Int), x = .ref l ∧ SqT K H1 l (ns.map V.int) ∧ ns.length ≤ 1000 ∧
  ∀ out : List Int, out.Nodup → (∀ k, k ∈ out ↔ k ∈ ns) → Q (.int (out.length : Nat)) H1
theorem pe_lenSetT {X : Cx} {a : Expr} {ta : TE} {p p2 q pos : Pos} (hc : X.calm = true) (hg : Gl X "len") (hm : X.mg "len" = none) (hg2 : Gl X "set") (hm2 : X.mg "set" = none) (ha : PE X a ta)
    (na : starEach [a] X.env = (false, eval a X.env) :: starEach [] X.env := by rfl) : PE X (.Call (.Name "len" p) [.Call (.Name "set" p2) [a] [] q] [] pos) (tLenSetT X.K ta) := by
  refine ⟨fun pins s σ H Q I h => Call_ (ld_blt I hg hm boot_len ?_)⟩
  refine callWith_builtin1 (args_cons (Call_ (ld_blt I hg2 hm2 boot_set ?_)) rfl) rfl rfl
  refine callWith_type1 (args_cons (thn (ha.run pins s σ H _ I h) fun v s1 ⟨x, H1, I1, r1, q1⟩ => args_nil ?_) na) na rfl
  obtain ⟨l, ns, rfl, hq, small, q1⟩ := q1
  cases r1
  obtain ⟨its, rv, pt, hz⟩ := I1.tuple hq
  refine call_set_tupI ns (I1.ok.hd hc) (isTuple_of pt) (ints_of_vals rv) (by unfold scanBound; omega) fun h' tk c R1 hcn k => ?_
  obtain ⟨o, es, ep, t, ho, hex, hdt, g, nd, hm3, hb, hf, hn, hr, hl2⟩ := R1
  refine args_nil ?_
  have I2 : Inv X pins σ H1 { s1 with heap := h', toks := tk } := I1.kept k
  have sz : (es.toList.map keyOf).length = es.size := by simp
  have fin := q1 (es.toList.map keyOf) nd fun j => (hm3 j).symm.trans decide_eq_true_iff
  rw [sz] at fin
  exact call_len_set ho hex hdt hf (by omega) ⟨.int es.size, H1, I2.tok _, ⟨_, rfl⟩, fin⟩
/-- whether a row of three has the same value twice -/
def twice3 (r : List Nat) : Bool := match r with
  | [a, b, c] => decide (a = b ∨ b = c ∨ a = c)
  | _ => false
theorem out_three {a b c : Nat} {out : List Int} (nd : out.Nodup) (h : ∀ k, k ∈ out ↔ k ∈ ([a, b, c].map fun (x : Nat) => (x : Int))) : decide ((out.length : Int) < 3) = twice3 [a, b, c] := by
  show _ = decide (a = b ∨ b = c ∨ a = c)
  by_cases e : a = b ∨ b = c ∨ a = c
  · rw [decide_eq_true e]
    have : ∃ x y : Nat, ∀ k ∈ out, k ∈ [(x : Int), (y : Int)] := by
      rcases e with rfl | rfl | rfl
      · exact ⟨a, c, fun k hk => by have := (h k).mp hk; simp at this ⊢; omega⟩
      · exact ⟨a, b, fun k hk => by have := (h k).mp hk; simp at this ⊢; omega⟩
      · exact ⟨a, b, fun k hk => by have := (h k).mp hk; simp at this ⊢; omega⟩
    obtain ⟨x, y, sub⟩ := this
    have := nodup_le nd sub
    exact decide_eq_true (by simp at this; omega)
  · rw [decide_eq_false e]
    have nd3 : ([a, b, c].map fun (x : Nat) => (x : Int)).Nodup := by
      simp
      omega
    have := nodup_le nd3 fun k hk => (h k).mpr hk
    exact decide_eq_false (by simp at this; omega)
/-! ### new lists of rows -/
def EvRows (te : TE) (σ : L2.St) (H : Hp) (L : List (List Nat)) : Prop := ∀ H1, Ex H H1 → ∀ Q : VK, (∀ p H2 ys, H1 p = none → Ex H1 H2 → H2 p = some (.lst ys) → Rows H2 ys L → Q (.ref p) H2) → te σ H1 Q
/-- gives a new tuple of rows back -/
abbrev GivesTR (L : List (List Nat)) (H : Hp) (Q : VK) : Prop := ∀ p H' ys, H p = none → Ex H H' → H' p = some (.tup ys) → Rows H' ys L → Q (.ref p) H'
section
variable {K : PySem.W.Frag} {σ : L2.St} {H : Hp} {te tl : TE} {tt : TT} {D : Ends}
theorem q_unpack {tz : TS} {g : TG} {xs : List V} (h : EvL te σ H xs) (k : ∀ p H1, H p = none → Ex H H1 → H1 p = some (.lst xs) → g (.ref p) σ H1 (tz D)) : tSeq (tAsg te g) tz D σ H := h H (Ex.refl H) _ k
theorem s_retTR {L : List (List Nat)} (h : EvRows te σ H L) (k : GivesTR L H D.rt) :
    tRet (tCB (fun xs H Q => ∃ p ys, xs = [.ref p] ∧ ((SqL K H p ys ∧ ∀ l, H l = none → Q (.ref l) (upd H l (.tup ys))) ∨ (SqT K H p ys ∧ Q (.ref p) H))) (tCons te tNil)) D σ H :=
  h H (Ex.refl H) _ fun p H2 ys hp e2 hy R => ⟨p, ys, rfl, Or.inl ⟨SqL.of hy, fun l hl => k l _ ys (fresh_back e2 hl) (e2.trans (Ex.new hl)) upd_same (R.mono (Ex.new hl))⟩⟩
theorem q_part {ta tb : TE} {tz : TS} {g : TG} {z sep : Str} (h : Ev ta σ H (.str z)) (h2 : Ev tb σ H (.str sep)) (ne : (sep.length == 0) = false) (few : z.length ≤ sizeLine)
    (k : ∀ p H1, Ex H H1 → H1 p = some (.tup [.str (Txt.partition z sep).1, .str (Txt.partition z sep).2.1, .str (Txt.partition z sep).2.2]) → g (.ref p) σ H1 (tz D)) :
    tSeq (tAsg (tBM K "str" (fun x xs H Q => ∃ a b, x = .str a ∧ xs = [.str b] ∧ (b.length == 0) = false ∧ a.length ≤ sizeLine ∧
      ∀ p, H p = none → Q (.ref p) (upd H p (.tup [.str (Txt.partition a b).1, .str (Txt.partition a b).2.1, .str (Txt.partition a b).2.2]))) ta (tCons tb tNil)) g) tz D σ H :=
  h H (Ex.refl H) _ fun H1 e1 => ⟨rfl, h2 H1 e1 _ fun H2 e2 => ⟨z, sep, rfl, rfl, ne, few, fun p hp => k p _ ((e1.trans e2).trans (Ex.new hp)) upd_same⟩⟩
theorem ev_intS {z : Str} {i : Int} (h : Ev te σ H (.str z)) (hi : PySem.intText? z = some i) (few : z.length ≤ 640) :
    Ev (tCB (fun xs H Q => ∃ (s : Str) (i : Int), xs = [.str s] ∧ PySem.intText? s = some i ∧ s.length ≤ 640 ∧ Q (.int i) H) (tCons te tNil)) σ H (.int i) :=
  fun H1 e Q q => h H1 e _ fun H2 e2 => ⟨z, i, rfl, hi, few, q H2 e2⟩
theorem tups_mem : ∀ n, n ≤ 4 → ∀ r ∈ tups n, r.length = n ∧ r.all (· < 3) = true := by decide
theorem filter_take {f : List Nat → Bool} {L : List (List Nat)} {i : Nat} {r : List Nat} (h : L[i]? = some r) : (L.take (i + 1)).filter f = (L.take i).filter f ++ if f r = true then [r] else [] := by
  rw [List.take_succ, h, List.filter_append]
  show _ ++ ([r].filter f) = _
  by_cases e : f r = true
  · rw [if_pos e]
    simp [e]
  · rw [if_neg e]
    simp [e]
theorem er_filter {L : List (List Nat)} {j : Nat} {vs : List Nat} (f : List Nat → Bool) (h : EvRows tl σ H L) (few : L.length ≤ 40000) (hw : ∀ y, wipe ((wipe σ vs).set j (some y)) vs = wipe σ vs)
    (hj : ∀ y, ((wipe σ vs).set j (some y))[j]? = some (some y)) (ht : ∀ (x : V) (r : List Nat) H1, Ex H H1 → r ∈ L → IsRow H1 x r → EvT tt ((wipe σ vs).set j (some x)) H1 (f r)) :
    EvRows (tLc (iList K tl) (gName j) tt (tVar j) vs) σ H (L.filter f) := fun H1 e Q q => h H1 e _ fun p H2 ys hp e2 hy R => ⟨p, rfl, ⟨ys, SqL.of hy⟩, fun Dl hD => lc_list (K := K) (xs := ys)
  (fun i H3 => Ex H2 H3 ∧ ∃ zs, H3 Dl = some (.lst zs) ∧ Rows H3 zs ((L.take i).filter f)) ⟨Ex.new hD, [], upd_same, .nil⟩ (fun i H3 _ pc => SqL.of (pc.1 _ _ hy))
  (fun i x H3 hi ⟨e3, zs, hD3, R3⟩ => ⟨hw _, by
    obtain ⟨r, at_r, rx⟩ := R.get hi
    have rx3 : IsRow H3 x r := by
      obtain ⟨a, ea, ha⟩ := rx
      exact ⟨a, ea, e3 _ _ ha⟩
    refine ht x r H3 ((e.trans e2).trans e3) (List.mem_of_getElem? at_r) rx3 H3 (Ex.refl _) _ fun H4 e4 => ?_
    have ft := filter_take (f := f) at_r
    by_cases hf : f r = true
    · rw [if_pos hf] at ft ⊢
      refine ⟨x, hj x, zs, e4 _ _ hD3, ?_, Ex.mut (e3.trans e4) hD, zs ++ [x], upd_same, ?_⟩
      · rw [R3.len]
        have a1 := List.length_filter_le f (L.take i)
        have a2 : (L.take i).length ≤ 40000 := by rw [List.length_take]; omega
        exact Nat.lt_of_le_of_lt (Nat.le_trans a1 a2) (by decide)
      · rw [ft]
        obtain ⟨a, ea, ha⟩ := rx3
        have ha4 := e4 _ _ ha
        refine Rows.append ((R3.mono e4).but (p := Dl) (fun b o nb h => by rw [upd_ne nb]; exact h) (fun l h => by rw [e4 _ _ hD3] at h; cases h)) (.cons ⟨a, ea, ?_⟩ .nil)
        rw [upd_ne (fun z => by rw [z, e4 _ _ hD3] at ha4; cases ha4)]
        exact ha4
    · rw [if_neg hf] at ft ⊢
      refine ⟨e3.trans e4, zs, e4 _ _ hD3, ?_⟩
      rw [ft, List.append_nil]
      exact R3.mono e4⟩)
  (fun H3 ⟨e3, zs, hD3, R3⟩ => by
    rw [R.len, List.take_length] at R3
    exact q Dl H3 zs (fresh_back e2 hD) (e2.trans e3) hD3 R3)⟩
theorem er_ones {x : Str} {ns : List Nat} {j : Nat} {vs : List Nat} (h : Ev tl σ H (.str x)) (hx : x.cps.toList = ns.map (48 + ·)) (few : ns.length ≤ 1000) (hw : ∀ y, wipe ((wipe σ vs).set j (some y)) vs = wipe σ vs)
    (he : ∀ (n : Nat) H1, Ex H H1 → n ∈ ns → Ev te ((wipe σ vs).set j (some (.str ⟨#[48 + n]⟩))) H1 (.int (n : Int))) :
    EvRows (tLc (iStr tl) (gName j) tYes (tTup (tCons te tNil)) vs) σ H (ns.map fun n => [n]) := fun H1 e Q q => h H1 e _ fun H2 e2 => ⟨x, rfl, fun Dl hD => lc_str (x := x)
  (fun i H3 => Ex H2 H3 ∧ ∃ zs, H3 Dl = some (.lst zs) ∧ Rows H3 zs ((ns.take i).map fun n => [n])) ⟨Ex.new hD, [], upd_same, .nil⟩
  (fun i c H3 hi ⟨e3, zs, hD3, R3⟩ => ⟨hw _, by
    rw [← Array.getElem?_toList, hx, List.getElem?_map] at hi
    obtain ⟨n, hn, rfl⟩ := Option.map_eq_some_iff.mp hi
    refine yes_go (he n H3 ((e.trans e2).trans e3) (List.mem_of_getElem? hn) H3 (Ex.refl _) _ fun H4 e4 => ⟨by show 1 ≤ sizeLine; decide, fun p hp => ?_⟩)
    have e5 := e4.trans (Ex.new (o := .tup [V.int (n : Int)]) hp)
    refine ⟨zs, e5 _ _ hD3, ?_, Ex.mut (e3.trans e5) hD, zs ++ [.ref p], upd_same, ?_⟩
    · rw [R3.len, List.length_map, List.length_take]
      exact Nat.lt_of_le_of_lt (by omega : _ ≤ 1000) (by decide)
    · rw [List.take_succ, hn, List.map_append]
      refine Rows.append ((R3.mono e5).but (p := Dl) (fun b o nb h => by rw [upd_ne nb]; exact h) (fun l h => by rw [e5 _ _ hD3] at h; cases h)) (.cons ⟨p, rfl, ?_⟩ .nil)
      rw [upd_ne (fun z => by rw [z] at hp; rw [e4 _ _ hD3] at hp; cases hp), upd_same]
      rfl⟩)
  (fun H3 ⟨e3, zs, hD3, R3⟩ => by
    have sz : x.cps.size = ns.length := by rw [← Array.length_toList, hx, List.length_map]
    rw [sz, List.take_length] at R3
    exact q Dl H3 zs (fresh_back e2 hD) (e2.trans e3) hD3 R3)⟩
end
end Tv

namespace Tv
open PySem PySem.Spec PyProof.Rows L2 Evl
/-! ### ways over anything -/
section
variable {α β : Type}
def growA (L : List (List α)) (xs : List α) : List (List α) := L.flatMap fun r => xs.map fun x => r ++ [x]
def waysA (xss : List (List α)) : List (List α) := xss.foldl growA [[]]
theorem waysA_snoc (xss : List (List α)) (xs : List α) : waysA (xss ++ [xs]) = growA (waysA xss) xs := by simp [waysA]
theorem waysA_succ (n : Nat) (xs : List α) : waysA (List.replicate (n + 1) xs) = growA (waysA (List.replicate n xs)) xs := by
  rw [List.replicate_succ', waysA_snoc]
theorem growA_len (L : List (List α)) (xs : List α) : (growA L xs).length = L.length * xs.length := by
  unfold growA
  induction L with
  | nil => simp
  | cons a r ih =>
    rw [List.flatMap_cons, List.length_append, ih, List.length_cons, Nat.succ_mul, List.length_map]
    omega
theorem waysA_len (n : Nat) (xs : List α) : (waysA (List.replicate n xs)).length = xs.length ^ n := by
  induction n with
  | zero => rfl
  | succ n ih => rw [waysA_succ, growA_len, ih, Nat.pow_succ]
theorem waysA_mem {n : Nat} {xs : List α} {r : List α} (h : r ∈ waysA (List.replicate n xs)) : r.length = n ∧ ∀ x ∈ r, x ∈ xs := by
  induction n generalizing r with
  | zero =>
    have : r = [] := by simpa [waysA] using h
    subst this
    exact ⟨rfl, fun x hx => nomatch hx⟩
  | succ n ih =>
    rw [waysA_succ] at h
    unfold growA at h
    obtain ⟨q, hq, h⟩ := List.mem_flatMap.mp h
    obtain ⟨x, hx, rfl⟩ := List.mem_map.mp h
    obtain ⟨l, m⟩ := ih hq
    refine ⟨by rw [List.length_append, l]; rfl, fun y hy => ?_⟩
    rcases List.mem_append.mp hy with hy | hy
    · exact m y hy
    · rw [List.mem_singleton.mp hy]
      exact hx
theorem paired_app {R : α → β → Prop} : ∀ {xs : List α} {ys : List β} {us : List α} {vs : List β}, Paired R xs ys → Paired R us vs → Paired R (xs ++ us) (ys ++ vs)
  | _, _, _, _, .nil, s => s
  | _, _, _, _, .cons r t, s => .cons r (paired_app t s)
theorem paired_ext {R : α → β → Prop} {r : List α} {q : List β} (h : Paired R r q) : ∀ {xs : List α} {ys : List β}, Paired R xs ys → Paired (Paired R) (xs.map fun x => r ++ [x]) (ys.map fun y => q ++ [y])
  | _, _, .nil => .nil
  | _, _, .cons a t => .cons (paired_app h (.cons a .nil)) (paired_ext h t)
theorem paired_grow {R : α → β → Prop} {xs : List α} {ys : List β} (h : Paired R xs ys) : ∀ {A : List (List α)} {B : List (List β)}, Paired (Paired R) A B → Paired (Paired R) (growA A xs) (growA B ys)
  | _, _, .nil => .nil
  | _, _, .cons a t => by
    unfold growA
    rw [List.flatMap_cons, List.flatMap_cons]
    exact paired_app (paired_ext a h) (paired_grow h t)
theorem paired_ways {R : α → β → Prop} {xs : List α} {ys : List β} (h : Paired R xs ys) : ∀ n : Nat, Paired (Paired R) (waysA (List.replicate n xs)) (waysA (List.replicate n ys))
  | 0 => .cons .nil .nil
  | n + 1 => by
    rw [waysA_succ, waysA_succ]
    exact paired_grow h (paired_ways h n)
theorem paired_get {R : α → β → Prop} : ∀ {xs : List α} {ys : List β} {i : Nat} {x : α}, Paired R xs ys → xs[i]? = some x → ∃ y, ys[i]? = some y ∧ R x y
  | _, _, _, _, .nil, h => by simp at h
  | _, _, 0, _, .cons r t, h => by simp at h; subst h; exact ⟨_, rfl, r⟩
  | _, _, i + 1, _, .cons r t, h => by
    obtain ⟨as, h1, h2⟩ := paired_get (i := i) t (by simpa using h)
    exact ⟨as, by simpa using h1, h2⟩
theorem find_at {p : α → Bool} : ∀ {L : List α} {i : Nat} {z : α}, (∀ j y, j < i → L[j]? = some y → p y = false) → L[i]? = some z → p z = true → L.find? p = some z
  | [], _, _, _, h, _ => by simp at h
  | a :: L, 0, z, _, h, hz => by
    simp at h
    subst h
    rw [List.find?_cons_of_pos hz]
  | a :: L, i + 1, z, no, h, hz => by
    have := no 0 a (Nat.succ_pos _) rfl
    rw [List.find?_cons_of_neg (by rw [this]; decide)]
    exact find_at (i := i) (fun j y hj hy => no (j + 1) y (Nat.succ_lt_succ hj) (by simpa using hy)) (by simpa using h) hz
theorem find_no {p : α → Bool} {L : List α} (no : ∀ j y, j < L.length → L[j]? = some y → p y = false) : L.find? p = none := by
  rw [List.find?_eq_none]
  intro y hy
  obtain ⟨j, hj⟩ := List.mem_iff_getElem?.mp hy
  rw [no j y (List.getElem?_eq_some_iff.mp hj).1 hj]
  decide
end
theorem ways_eq (xss : List (List V)) : ways xss = waysA xss := rfl
/-! ### for k in d, d locked, its keys tuples -/
/-- all but what stands at d is as it was -/
def Save (d : Addr) (H H' : Hp) : Prop := ∀ b o, b ≠ d → H b = some o → H' b = some o
theorem Save.trans {d : Addr} {H H1 H2 : Hp} (a : Save d H H1) (b : Save d H1 H2) : Save d H H2 := fun c o n e => b c o n (a c o n e)
theorem Save.of {d : Addr} {H H' : Hp} (e : Ex H H') : Save d H H' := fun b o _ h => e b o h
theorem Save.back {d : Addr} {u : HO} {H H' : Hp} (e : Save d H H') (h : H d = some u) : Ex H (upd H' d u) := fun b o hb => by
  by_cases z : b = d
  · subst z
    rw [upd_same, ← h]
    exact hb
  · rw [upd_ne z]
    exact e b o z hb
theorem given_true (n : Nat) (v : Nat → V) : given n (fun _ => true) v = (List.range n).map v := by
  unfold given
  rw [List.filter_eq_self.mpr (fun _ _ => rfl)]
theorem given_true_at {n j : Nat} {v : Nat → V} {x : V} (h : (given n (fun _ => true) v)[j]? = some x) : j < n ∧ x = v j := by
  rw [given_true] at h
  have l := (List.getElem?_eq_some_iff.mp h).1
  rw [List.length_map, List.length_range] at l
  rw [List.getElem?_map, List.getElem?_range l] at h
  exact ⟨l, (Option.some.inj h).symm⟩
theorem given_true_len (n : Nat) (v : Nat → V) : (given n (fun _ => true) v).length = n := by rw [given_true]; simp
theorem ev_sum {K : PySem.W.Frag} {σ : L2.St} {H : Hp} {te : TE} {ns : List Int} (h : EvL te σ H (ns.map V.int)) : Ev (tCB (rSum K) (tCons te tNil)) σ H (.int ns.sum) :=
  fun H1 e Q q => h H1 e _ fun p H2 _ e2 hp => ⟨p, ns, rfl, SqL.of hp, q H2 e2⟩
theorem tupI_ok {n i : Nat} (n3 : n ≤ 3) (h : i < 3 ^ n) : (tupI n i).length = n ∧ ∀ a ∈ tupI n i, a < 3 := by
  have t := tups_ok n n3
  obtain ⟨_, a, b⟩ := t.2 i (by rw [t.1]; exact h)
  exact ⟨a, fun c hc => of_decide_eq_true (List.all_eq_true.mp b c hc)⟩
theorem kvU_get {ds : List Nat} {n m i : Nat} {k : List Key} {v : V} (h : (kvU ds n m)[i]? = some (k, v)) : i < m ∧ k = keyR (tupI n i) ∧ v = .int ((ds.getD i 0 : Nat) : Int) := by
  have l := (List.getElem?_eq_some_iff.mp h).1
  rw [kvU_len] at l
  unfold kvU at h
  rw [List.getElem?_map, List.getElem?_range l] at h
  cases h
  exact ⟨l, rfl, rfl⟩
theorem ev_joinTup {K : PySem.W.Frag} {σ : L2.St} {H : Hp} {te to : TE} {p : Addr} {ds : List Nat} (h1 : Ev to σ H (.str (Str.ofString ""))) (h2 : Ev te σ H (.ref p)) (hp : H p = some (.tup ((ds.map fun d => (⟨#[48 + d]⟩ : Str)).map V.str))) (z : ds.length ≤ 1000) :
    Ev (tM1 (rJoin K) to te) σ H (.str (tab ds)) := fun H1 e Q q => h1 H1 e _ fun H2 e2 => ⟨⟨_, rfl⟩, h2 H2 (e.trans e2) _ fun H3 e3 =>
  ⟨Str.ofString "", p, ds.map fun d => (⟨#[48 + d]⟩ : Str), rfl, rfl, Or.inr (st_of (e3 _ _ (e2 _ _ (e _ _ hp)))), by
    have e0 : (Str.ofString "").length = 0 := rfl
    have e9 : ((ds.map fun d => (⟨#[48 + d]⟩ : Str)).map (·.length)).sum = ds.length := by
      clear h2 hp z q
      induction ds with
      | nil => rfl
      | cons d r ih =>
        rw [List.map_cons, List.map_cons, List.sum_cons, ih, List.length_cons]
        show 1 + r.length = _
        omega
    rw [e0, e9, List.length_map]
    omega, by rw [join_tab]; exact q H3 (e2.trans e3)⟩⟩
theorem ev_lenU {K : PySem.W.Frag} {σ : L2.St} {H : Hp} {te : TE} {xs : List V} (h : EvU te σ H xs) : Ev (tCB (fun xs H Q => ∃ x n, xs = [x] ∧ LenV K x H n ∧ Q (.int (n : Nat)) H) (tCons te tNil)) σ H (.int (xs.length : Nat)) :=
  fun H1 e Q q => h H1 e _ fun p H2 _ e2 hx => ⟨.ref p, xs.length, rfl, Or.inr ⟨xs, SqT.of hx, rfl⟩, q H2 e2⟩
theorem ways_signs : ∀ n : Nat, ways (List.replicate n (signsOf (Str.ofString "012"))) = (tups n).map signs_
  | 0 => rfl
  | n + 1 => by
    rw [List.replicate_succ', ways_snoc, ways_signs n, tups_succ]
    unfold growAll
    rw [List.flatMap_map, List.map_flatMap]
    congr 1
    funext r
    show grow (signs_ r) (signsOf (Str.ofString "012")) = (ext r).map signs_
    have e : signsOf (Str.ofString "012") = [V.str ⟨#[48 + 0]⟩, V.str ⟨#[48 + 1]⟩, V.str ⟨#[48 + 2]⟩] := by decide +kernel
    rw [e]
    unfold grow ext
    rw [List.map_cons, List.map_cons, List.map_cons, List.map_nil, List.map_cons, List.map_cons, List.map_cons, List.map_nil, signs_snoc, signs_snoc, signs_snoc]
theorem tups_all : ∀ (n : Nat) (r : List Nat), r ∈ tups n → r.length = n ∧ ∀ a ∈ r, a < 3
  | 0, r, h => by
    have : r = [] := by simpa [tups] using h
    subst this
    exact ⟨rfl, fun a ha => nomatch ha⟩
  | n + 1, r, h => by
    rw [tups_succ] at h
    obtain ⟨q, hq, h⟩ := List.mem_flatMap.mp h
    obtain ⟨l, d⟩ := tups_all n q hq
    have : ∃ c, c < 3 ∧ r = q ++ [c] := by
      unfold ext at h
      simp at h
      rcases h with rfl | rfl | rfl
      · exact ⟨0, by decide, rfl⟩
      · exact ⟨1, by decide, rfl⟩
      · exact ⟨2, by decide, rfl⟩
    obtain ⟨c, c3, rfl⟩ := this
    refine ⟨by rw [List.length_append, l]; rfl, fun a ha => ?_⟩
    rcases List.mem_append.mp ha with ha | ha
    · exact d a ha
    · rw [List.mem_singleton.mp ha]
      exact c3
/-- gives a tuple of xs, tracked or written -/
def EvS (K : PySem.W.Frag) (te : TE) (σ : L2.St) (H : Hp) (xs : List V) : Prop := ∀ H1, Ex H H1 → ∀ Q : VK, (∀ a H2, Ex H1 H2 → SqT K H2 a xs → Q (.ref a) H2) → te σ H1 Q
theorem el_lcSq {K : PySem.W.Frag} {σ : L2.St} {H : Hp} {te : TE} {xs : List V} {tl : TE} {tt : TT} {j : Nat} {vs : List Nat} (f : Nat → Bool) (v : Nat → V) (h : EvS K tl σ H xs) (hz : xs.length ≤ 40000)
    (hw : ∀ y, wipe ((wipe σ vs).set j (some y)) vs = wipe σ vs)
    (ht : ∀ (i : Nat) (x : V) H1, Ex H H1 → xs[i]? = some x → EvT tt ((wipe σ vs).set j (some x)) H1 (f i))
    (he : ∀ (i : Nat) (x : V) H1, Ex H H1 → xs[i]? = some x → f i = true → Ev te ((wipe σ vs).set j (some x)) H1 (v i)) :
    EvL (tLc (iTup K tl) (gName j) tt te vs) σ H (given xs.length f v) := fun H0 e Q q => h H0 e _ fun a H1 e1 hx => ⟨a, rfl, ⟨xs, hx⟩, fun Dl hD =>
  lc_tup (xs := xs) (Cw H1 f v Dl) ⟨hD, Ex.new hD, upd_same⟩ (fun i H' _ p => ex_t p.2.1 hx) (fun i x H' hi p =>
    ⟨hw _, cw_turn p (by have := (List.getElem?_eq_some_iff.mp hi).1; omega) (ht i x H1 (e.trans e1) hi) (fun hf => he i x H1 (e.trans e1) hi hf)⟩)
    (fun H' p => q Dl H' (fresh_back e1 p.1) (e1.trans p.2.1) p.2.2)⟩
/-- the first k of a tuple -/
theorem es_take {K : PySem.W.Frag} {σ : L2.St} {H : Hp} {te tk : TE} {xs : List V} {k : Nat} (h : EvS K te σ H xs) (hk : Ev tk σ H (.int (k : Int))) (le : k ≤ xs.length) : EvS K (tSl (rSlA K) te tNoPart (tPart tk)) σ H (xs.take k) :=
  fun H1 e Q q => h H1 e _ fun a H2 e2 hx => hk H2 (e.trans e2) _ fun H3 e3 => by
    refine ⟨(k : Int), rfl, a, xs, rfl, ex_t e3 hx, fun z => ?_, fun _ r hr => ?_⟩
    · rw [HT.sIx_nat, Nat.min_eq_left le] at z
      refine q a H3 (e2.trans e3) ?_
      rw [z.2, List.take_length]
      exact ex_t e3 hx
    · refine q r _ ((e2.trans e3).trans (Ex.new hr)) (SqT.of ?_)
      rw [upd_same]
      unfold cutV
      rw [HT.sIx_none, HT.sIx_nat, List.drop_zero, Nat.sub_zero, Nat.min_eq_left le]
theorem for_keysT {d : Addr} {o : Obj} {kv : List (List Key × V)} {g : TG} {tb : TS} {D : Ends} {σ : L2.St} {H : Hp} (Pv : Nat → L2.St → Hp → Prop) (h0 : Pv 0 σ H)
    (hl : ∀ i σ H, Pv i σ H → H d = some (.frz o (.dT kv)))
    (hs : ∀ (i : Nat) (k : List Key) (v : V) (q : Addr) (σ : L2.St) (H : Hp), kv[i]? = some (k, v) → Pv i σ H → H q = some (.tup (k.map kV)) →
      g (.ref q) σ H fun σ2 H2 => tb { D with nx := Pv (i + 1), ct := Pv (i + 1), bk := D.nx } σ2 H2)
    (hd : ∀ σ H, Pv kv.length σ H → D.nx σ H) :
    ∃ W : Nat → Nat → L2.St → Hp → Prop, (∃ m, W 0 m σ H) ∧ ∀ i m σ H, W i m σ H →
      ((Itkt d o kv).stop i H ∧ D.nx σ H) ∨ ((Itkt d o kv).go i H ∧ ∃ N : L2.St → Hp → Prop, (∀ σ' H', N σ' H' → ∃ m', m' < m ∧ W (i + 1) m' σ' H') ∧
        ∀ v H', (Itkt d o kv).yld i H v H' → g v σ H' fun σ2 H2 => tb { D with nx := N, ct := N, bk := D.nx } σ2 H2) := by
  refine ⟨fun i m σ H => m = kv.length - i ∧ i ≤ kv.length ∧ Pv i σ H, ⟨_, rfl, Nat.zero_le _, h0⟩, ?_⟩
  rintro i m σ H ⟨rfl, le, p⟩
  have here := hl i σ H p
  rcases Nat.lt_or_ge i kv.length with lt | ge
  · refine Or.inr ⟨⟨here, lt⟩, Pv (i + 1), fun σ' H' p' => ⟨kv.length - (i + 1), by omega, rfl, lt, p'⟩, ?_⟩
    rintro v H' ⟨rfl, k, u, q, at_i, rfl, hq⟩
    exact hs i k u q σ _ at_i p hq
  · have e : i = kv.length := by omega
    rw [e] at p ⊢
    exact Or.inl ⟨⟨hl _ _ _ p, Nat.le_refl _⟩, hd σ H p⟩
/-- the reading of a comprehension over zip(list, tuple) -/
theorem lc_zipLT {K : PySem.W.Frag} {a b : Addr} {xs ys : List V} {g : TG} {tt : TT} {te : TE} {vs : List Nat} {σ : L2.St} {H1 : Hp} {D : Addr} {Qd : Hp → Prop} (same : xs.length = ys.length) (Pv : Nat → Hp → Prop)
    (h0 : Pv 0 (upd H1 D (.lst []))) (hq : ∀ i H, Pv i H → SqL K H a xs ∧ SqT K H b ys)
    (hs : ∀ (i : Nat) (x y : V) (T : Addr) (H : Hp), xs[i]? = some x → ys[i]? = some y → Pv i H → H T = none → g (.ref T) (wipe σ vs) (upd H T (.tup [x, y])) fun σ2 H2 => wipe σ2 vs = wipe σ vs ∧ tt σ2 H2 fun c H3 =>
      if c = true then te σ2 H3 fun u H4 => ∃ acc, H4 D = some (.lst acc) ∧ acc.length < sizeLine ∧ Pv (i + 1) (upd H4 D (.lst (acc ++ [u]))) else Pv (i + 1) H3)
    (hd : ∀ H, Pv xs.length H → Qd H) :
    ∃ W : Nat → Nat → Hp → Prop, (∃ m, W 0 m (upd H1 D (.lst []))) ∧ ∀ i m H, W i m H →
      ((Itlt K a b).stop i H ∧ Qd H) ∨ ((Itlt K a b).go i H ∧ ∃ Nx : Hp → Prop, (∀ H', Nx H' → ∃ m', m' < m ∧ W (i + 1) m' H') ∧
        ∀ v H', (Itlt K a b).yld i H v H' → g v (wipe σ vs) H' fun σ2 H2 => wipe σ2 vs = wipe σ vs ∧ tt σ2 H2 fun c H3 =>
          if c = true then te σ2 H3 fun u H4 => ∃ acc, H4 D = some (.lst acc) ∧ acc.length < sizeLine ∧ Nx (upd H4 D (.lst (acc ++ [u]))) else Nx H3) := by
  refine ⟨fun i m H => m = xs.length - i ∧ i ≤ xs.length ∧ Pv i H, ⟨_, rfl, Nat.zero_le _, h0⟩, ?_⟩
  rintro i m H ⟨rfl, le, p⟩
  obtain ⟨hx, hy⟩ := hq i H p
  rcases Nat.lt_or_ge i xs.length with lt | ge
  · have at_x := List.getElem?_eq_getElem lt
    have at_y := List.getElem?_eq_getElem (by omega : i < ys.length)
    refine Or.inr ⟨⟨xs, ys, _, _, hx, hy, at_x, at_y, same⟩, Pv (i + 1), fun H' p' => ⟨xs.length - (i + 1), by omega, rfl, lt, p'⟩, ?_⟩
    rintro v H' ⟨T, x, y, rfl, none_, rfl, k1, k2⟩
    exact hs i x y T H (k1 xs hx) (k2 ys hy) p none_
  · have e : i = xs.length := by omega
    rw [e] at p ⊢
    exact Or.inl ⟨⟨xs, ys, hx, hy, same, rfl⟩, hd H p⟩
end Tv

namespace Tv
open PySem PySem.Spec PyProof.Rows L2
/-! ### sorted(t), t a tuple of integers -/
def rSortedT (K : PySem.W.Frag) : List V → Hp → VK → Prop := fun vs H Q => ∃ (a : Addr) (ns : List Int), vs = [V.ref a] ∧ SqT K H a (ns.map V.int) ∧ ns.length < 64 ∧
  ∀ (ms : List Int) (p : Addr), ms.Perm ns → ms.Pairwise (· ≤ ·) → H p = none → Q (.ref p) (upd H p (.lst (ms.map V.int)))
theorem cr_sortedT {X : Cx} : CallR X (.builtin "sorted") (rSortedT X.K) := by
  intro pins s σ H vs us Q I r h
  obtain ⟨a, ns, rfl, hT, few, q⟩ := h
  obtain ⟨its, rv, ⟨⟨cls, dd, dat, sl⟩, at_a, hc, n, hd⟩, _⟩ := I.tuple hT
  simp only at hc hd
  subst hc hd
  rw [Vals.ref1 r]
  have are := rv.ints
  have few' : its.length < 64 := by rw [are.length]; exact few
  refine Calls.call_function_entry kind_sorted plain_sorted entry_sorted (args_sorted1 _) ?_
  unfold Builtin.«sorted»
  refine wpAny_bind (m := checkCount "sorted" 1 1 _) (wpAny_pure (wpAny_bind ?_))
  refine wpAny_collect_seq a (.inr rfl) at_a rfl rfl (fun h1 keep => ?_) (by rw [List.size_toArray]; exact Nat.le_of_lt (Nat.lt_of_lt_of_le few' (by decide)))
  refine wpAny_bind (wpAny_newList ?_)
  have at_l : (h1.push (seqObj "list" its.toArray 0)).get? h1.objs.size = some (seqObj "list" its.toArray 0) := Heap.get?_push_size _ rfl
  refine wpAny_bind (wpAny_holding (wpAny_call_entry slot_list_sort ⟨_, at_l, rfl⟩ entry_list_sort (list_sort_tree at_l are few' fun out ms o1 o2 o3 => ⟨_, rfl, ?_⟩) (args_list_sort _)))
  have I1 : Inv X pins σ H { s with heap := h1 } := I.kept (t' := s.toks) keep
  have small : (ms.map V.int).length ≤ sizeLine := by
    rw [List.length_map, o2.length_eq]
    exact Nat.le_of_lt (Nat.lt_of_lt_of_le few (by decide))
  obtain ⟨ep, at_s⟩ := sortedHeap_at (out := out) (n := 0) at_l
  refine wpAny_pure ⟨_, rfl, .ref h1.objs.size, upd H h1.objs.size (.lst (ms.map V.int)), ?_, rfl, q ms _ o2 o3 (I1.hok.fresh (Nat.le_refl _))⟩
  refine I1.laid (t' := s.toks) (h' := sortedHeap (h1.push (seqObj "list" its.toArray 0)) h1.objs.size its out) (fun b o e => ?_) (Nat.le_refl _) ⟨small, out.toList, ep, vals_of_ints o1, at_s⟩
  have lt := Heap.lt_size e
  rw [sortedHeap_old (Nat.ne_of_lt lt) (by rw [Heap.size_push]; exact Nat.lt_succ_of_lt lt)]
  exact Heap.get?_push_of_some _ e

/-! ### int(t, 3), t a text of at most three of the signs 0, 1, 2 -/
theorem read3 : ∀ ds : List Nat, ds ≠ [] → ds.length ≤ 3 → (∀ d ∈ ds, d < 3) → (int_private% "readNumeral") 0 3 (ds.map (48 + ·)) = (int_private% "Numeral.value") ((num ds : Nat) : Int) := by
  have three : ∀ {a : Nat}, a < 3 → a = 0 ∨ a = 1 ∨ a = 2 := by omega
  intro ds ne few dig
  match ds, ne, few, dig with
  | [a], _, _, dig =>
    rcases three (dig a (by simp)) with rfl | rfl | rfl <;> rfl
  | [a, b], _, _, dig =>
    rcases three (dig a (by simp)) with rfl | rfl | rfl <;> rcases three (dig b (by simp)) with rfl | rfl | rfl <;> rfl
  | [a, b, c], _, _, dig =>
    rcases three (dig a (by simp)) with rfl | rfl | rfl <;> rcases three (dig b (by simp)) with rfl | rfl | rfl <;> rcases three (dig c (by simp)) with rfl | rfl | rfl <;> rfl
theorem keep_all {α : Type} {p : α → Bool} : ∀ l : List α, (∀ c ∈ l, p c = true) → l.takeWhile p = l
  | [], _ => rfl
  | a :: r, h => by
    rw [List.takeWhile_cons, h a List.mem_cons_self, if_pos rfl, keep_all r fun c hc => h c (List.mem_cons_of_mem _ hc)]
theorem clean3 {ds : List Nat} (dig : ∀ d ∈ ds, d < 3) : numTextOf (tab ds) = ds.map (48 + ·) ∧ numSeenOf (tab ds) = ds.map (48 + ·) := by
  have e1 : numTextOf (tab ds) = ds.map (48 + ·) := by
    rw [← tab_cps]
    refine if_pos ?_
    rw [← Array.all_toList, tab_cps, List.all_eq_true]
    intro c hc
    obtain ⟨d, hd, rfl⟩ := List.mem_map.mp hc
    have := dig d hd
    exact decide_eq_true (by omega)
  refine ⟨e1, ?_⟩
  show (numTextOf (tab ds)).takeWhile _ = _
  rw [e1]
  refine keep_all _ fun c hc => ?_
  obtain ⟨d, hd, rfl⟩ := List.mem_map.mp hc
  exact bne_iff_ne.mpr (by omega)
theorem made3 {ds : List Nat} {u t : Tok} (ne : ds ≠ []) (few : ds.length ≤ 3) (dig : ∀ d ∈ ds, d < 3) :
    Gives (Builtin.«int.__new__» ⟨[.type "int", .str (tab ds) u, .int 3 t], []⟩) (.int ((num ds : Nat) : Int)) :=
  .of_wp fun M A E s Q done => by
    obtain ⟨hp, g, d, tk, os⟩ := s
    have sub_ := F.conv_sub_int
    have here_ := F.madeHere_int
    have ty_ : typeOf (.str (tab ds) u) = pure (.type "str") := rfl
    obtain ⟨e1, e2⟩ := clean3 dig
    have all_ := Hx.Hid.mk (And.intro (show (numSeenOf (tab ds)).length ≤ 640 by rw [e2, List.length_map]; omega)
      (And.intro (show (int_private% "readNumeral") 0 3 (numSeenOf (tab ds)) = (int_private% "Numeral.value") ((num ds : Nat) : Int) by rw [e2]; exact read3 ds ne few dig)
        (show ((numSeenOf (tab ds)).length == (numTextOf (tab ds)).length) = true by rw [e1, e2]; exact beq_self_eq_true _)))
    clear e1 e2 ne few dig
    repeat (any_goals (first
      | assumption
      | ((with_reducible show wpAny _ _ ((int_private% "intFromText") _ _ _) _ _ _); refine Hx.wp_textB all_.out.1 all_.out.2.1 all_.out.2.2 ?_)
      | wp_step))
    all_goals first | exact ⟨_, rfl, done⟩ | skip
def rInt3 : List V → Hp → VK → Prop := fun xs H Q => ∃ ds : List Nat, xs = [.str (tab ds), .int 3] ∧ ds ≠ [] ∧ ds.length ≤ 3 ∧ (∀ d ∈ ds, d < 3) ∧ Q (.int ((num ds : Nat) : Int)) H
theorem call_int3 {X : Cx} : CallR X (.type "int") rInt3 := by
  intro pins s σ H xs us Q I r h
  obtain ⟨ds, rfl, ne, few, dig, q⟩ := h
  obtain ⟨u, v, rfl, ⟨t1, rfl⟩, ⟨t2, rfl⟩⟩ := vals2 r
  exact callType_new F.called_int F.newNe_int (Hx.typeCall_int_2 _ _) (Hx.newCall_int_2 _ _) (fun obj => F.initArgs_range_2 obj _ _) F.entry_int_new (made3 ne few dig).meets
    (show (Made.int ((num ds : Nat) : Int)).post _ s from ⟨rfl, .int ((num ds : Nat) : Int), H, I.tok _, ⟨_, rfl⟩, q⟩)
end Tv

namespace Tv
open PySem PySem.Spec PyProof.Rows L2
/-! ### for i, a in enumerate(tuple) -/
theorem meets_enumerate_one {v : Value} {o : Obj} {H : Heap → Prop} (B : Begins v o H) :
    Meets (Builtin.«enumerate.__new__» ⟨[.type "enumerate", v], []⟩) (fun _ R s => H s.heap ∧
      R (.ok (.ret (.ref (s.heap.push o).objs.size))) { s with heap := (s.heap.push o).push { cls := .type "enumerate", data := .fields #[.none, .bool false, .ref s.heap.objs.size, rawInt 0, .none, .none] } }) :=
  .of_wp fun prog w A R s h => by
    obtain ⟨hp, g, d, tk, os⟩ := s; obtain ⟨h1, h⟩ := h
    have hsub := sub_enumerate
    have q1 : ∀ {A' : Around} {E : Value → Shared → Prop} {Q : Value → Shared → Prop}, Q (.ref hp.objs.size) ⟨hp.push o, g, d, tk, os⟩ → wpAny (model prog w) A' (pyIter v) Q E ⟨hp, g, d, tk, os⟩ :=
      fun q => B.iter prog w _ _ ⟨hp, g, d, tk, os⟩ _ h1 q
    wp_walk using q1
    refine wpAny_stack_any fun st => wpAny_pure ?_
    split
    · rename_i c _ _ _ _ _
      cases (c == Value.type "enumerate")
      · wp_walk using q1
        exact ⟨_, rfl, h⟩
      · wp_walk using q1
        exact ⟨_, rfl, h⟩
    · wp_walk using q1
      exact ⟨_, rfl, h⟩
section
variable {prog : Program} {w : World} {A : Around} {E : Value → Shared → Prop} {s : Shared}
theorem enum_one {v : Value} {o : Obj} {H : Heap → Prop} {Q : Value → Shared → Prop} (B : Begins v o H) (h1 : H s.heap)
    (h : ∀ h', IsEnum h' (s.heap.objs.size + 1) s.heap.objs.size 0 .none → h'.get? s.heap.objs.size = some o → h'.objs.size = s.heap.objs.size + 2 →
      (∀ b o, s.heap.get? b = some o → h'.get? b = some o) → Q (.ref (s.heap.objs.size + 1)) { s with heap := h' }) :
    wpAny (model prog w) A (call (.type "enumerate") [v]) Q E s := by
  refine callType_new F.called_enumerate (by decide) (F.typeCall_enumerate_1 _) (F.newCall_enumerate_1 _) (fun obj => F.args_object_init_2 obj _) F.entry_enumerate_new
    (meets_enumerate_one B) ⟨h1, ?_⟩
  have hz : (s.heap.push o).objs.size = s.heap.objs.size + 1 := Heap.size_push ..
  show _ ∧ _
  rw [hz]
  have he : IsEnum ((s.heap.push o).push { cls := .type "enumerate", data := .fields #[.none, .bool false, .ref s.heap.objs.size, rawInt 0, .none, .none] }) (s.heap.objs.size + 1) s.heap.objs.size 0 .none := by
    have := Heap.get?_push_size (s.heap.push o) (o := { cls := .type "enumerate", data := .fields #[.none, .bool false, .ref s.heap.objs.size, rawInt 0, .none, .none] }) rfl
    rw [hz] at this; exact this
  refine ⟨⟨_, he, rfl⟩, h _ he (Heap.get?_push_of_some _ (Heap.get?_push_size _ B.free)) (by rw [Heap.size_push, hz]) fun b o x => Heap.get?_push_of_some _ (Heap.get?_push_of_some _ x)⟩
end
def IteT (K : PySem.W.Frag) (a : Addr) : It :=
  ⟨fun i H => ∃ (xs : List V) (x : V), SqT K H a xs ∧ xs[i]? = some x,
    fun i H v H' => ∃ T x, v = .ref T ∧ H T = none ∧ H' = upd H T (.tup [.int (i : Nat), x]) ∧ ∀ xs, SqT K H a xs → xs[i]? = some x,
    fun i H => ∃ xs : List V, SqT K H a xs ∧ xs.length = i⟩
theorem turn_enumT {P : Program} {w : World} {K : PySem.W.Frag} {elts : List Expr} {kk : Nat} {tpos : Pos} {a e it : Addr} (nei : e ≠ it) (nea : e ≠ a) (nai : a ≠ it) :
    Turn P w K (.Tuple elts kk tpos) (IteT K a) [e, it] e (fun i h => (∃ old, IsEnum h e it ((i : Nat) : Int) old) ∧ h.IsTupleIter it a i) where
  mem := by simp
  obj := fun i h st b hb => by
    obtain ⟨⟨old, he⟩, ⟨o, ho, hc, hd⟩⟩ := st
    have e' : b = e ∨ b = it := by simpa using hb
    rcases e' with z | z
    · rw [z]; exact ⟨_, he, fun v q => nomatch q⟩
    · rw [z]; exact ⟨o, ho, fun v q => by rw [hd] at q; cases q⟩
  keep := fun i h h' st k => let ⟨⟨old, he⟩, hi⟩ := st; ⟨⟨old, k e (by simp) _ he⟩, hi.at fun o q => k it (by simp) o q⟩
  item := by
    rintro X rfl rfl rfl calm i pins s σ H E I fp ⟨⟨old, he⟩, hit⟩ ⟨xs, x, hq, hx⟩
    obtain ⟨its, rv, p, _⟩ := I.tuple hq
    obtain ⟨u, hu, ru⟩ := rv.get hx
    have lt : i < xs.length := (List.getElem?_eq_some_iff.mp hx).1
    have many := rv.length
    have hel : e < s.heap.objs.size := Heap.lt_size he
    have hil : it < s.heap.objs.size := by obtain ⟨_, q, _⟩ := hit; exact Heap.lt_size q
    have hh : X.A.handled = none := I.ok.hd calm
    refine wpAny_pyNext_enum_itemC (Draws.tuple (A := X.A.in1) hh it a nai its.toArray) he ⟨hit, p⟩ (by rw [List.size_toArray]; omega) nei (by simp [nei, nea]) fun w1 h' tk p1 ho st hT hsz hk => ?_
    refine ⟨_, rfl, wpAny_letOwnedTupleGo_enum (s := { s with heap := h', toks := tk + 1 }) ho fun h2 he2 same2 => ?_⟩
    have eu : w1 = u := by
      have p1' : its.toArray[i]? = some w1 := p1
      rw [List.getElem?_toArray, hu] at p1'
      exact (Option.some.inj p1').symm
    subst eu
    have hT2 : h2.get? s.heap.objs.size = some { cls := .type "tuple", data := .seq #[.int i tk, w1] } := (same2.2 _ (Nat.ne_of_gt hel)).trans hT
    have new : ObjOk X.prog X.w (upd H s.heap.objs.size (.tup [.int (i : Nat), x])) h2 s.heap.objs.size (.tup [.int (i : Nat), x]) :=
      ⟨by show 2 ≤ sizeLine; decide, [.int i tk, w1], .cons ⟨_, rfl⟩ (.cons ru .nil), ⟨_, hT2, rfl, _, rfl⟩⟩
    have keep2 : ∀ c o, c ∉ [e, it] → s.heap.get? c = some o → h2.get? c = some o := fun c o nb q =>
      (same2.2 c fun z => nb (by simp [z])).trans (hk c o (fun z => nb (by simp [z])) (fun z => nb (by simp [z])) q)
    have J := I.turnedNew (t' := tk + 1) (ch := [e, it]) keep2 fp (Nat.le_refl _) new
    refine ⟨.ref s.heap.objs.size, _, J, rfl, ⟨_, x, rfl, I.hok.fresh (Nat.le_refl _), rfl, fun l hl => by rw [I.tuple_inj hl hq]; exact hx⟩, ⟨⟨w1, ?_⟩, st.1.at fun o q => (same2.2 it (Ne.symm nei)).trans q⟩, fun b hb => ?_⟩
    · have e1 : ((i + 1 : Nat) : Int) = (i : Int) + 1 := by omega
      rw [e1]; exact he2
    · have hb' : b < s.heap.objs.size := by
        have e' : b = e ∨ b = it := by simpa using hb
        rcases e' with z | z
        · rw [z]; exact hel
        · rw [z]; exact hil
      rw [upd_ne (Nat.ne_of_lt hb')]
      exact (fp b hb).1
  done := by
    rintro X rfl rfl rfl calm i pins s σ H E I fp ⟨⟨old, he⟩, hit⟩ ⟨xs, hq, over⟩
    obtain ⟨its, rv, p, _⟩ := I.tuple hq
    obtain ⟨f0, f1, f2, f3, f4, f5⟩ := fp it (by simp)
    have hh : X.A.handled = none := I.ok.hd calm
    have many := rv.length
    have sz : its.toArray.size = i := by rw [List.size_toArray]; omega
    exact wpAny_pyNext_enum_endD (Draws.tuple (A := X.A.in1) hh it a nai its.toArray) he (by rw [sz]; exact ⟨hit, p⟩) fun h' eb => ⟨rfl, I.turned (t' := s.toks) (fun b o hb q => eb b o hb q) f0 f1 f3 f4 f5⟩
  self := fun A i s Q E st h => let ⟨⟨_, he⟩, _⟩ := st; wpAny_pyIter_enum he h
def iEnumT (K : PySem.W.Frag) (ta : TA) : TI := fun σ H R => ta σ H fun vs H1 => ∃ a xs, vs = [.ref a] ∧ SqT K H1 a xs ∧ R (IteT K a) H1
theorem pi_enumT {X : Cx} {e : Expr} {ta : TA} {p pos tpos : Pos} {elts : List Expr} {kk : Nat} (hg : Gl X "enumerate") (hm : X.mg "enumerate" = none) (ha : PA X [e] ta) (hs : starEach [e] X.env = [(false, eval e X.env)] := by rfl) :
    PI X (.Tuple elts kk tpos) (.Call (.Name "enumerate" p) [e] [] pos) (iEnumT X.K ta) := by
  refine ⟨fun pins s σ H R I h => ?_⟩
  refine Call_ (ld_blt I hg hm boot_enumerate (PyProof.Rows.callWith_type1 (thn (ha.run pos pins s σ H _ I h) fun us s1 ⟨vs, H1, I1, r1, q1⟩ => ?_) hs rfl))
  obtain ⟨a, xs, rfl, hq, q⟩ := q1
  obtain _ | ⟨r, rr⟩ := r1
  cases rr
  cases r
  obtain ⟨its, rv, p2, _⟩ := I1.tuple hq
  have la : a < s1.heap.objs.size := let ⟨o, e, _⟩ := p2; Heap.lt_size e
  refine enum_one (begins_tuple a its.toArray) p2 fun h' he hit hsz hk => wpAny_pyIter_enum he ?_
  have I2 : Inv X pins σ H1 { s1 with heap := h' } := I1.kept (t' := s1.toks) hk
  refine ⟨s1.heap.objs.size + 1, [s1.heap.objs.size + 1, s1.heap.objs.size], _, _, H1, rfl, I2, turn_enumT (Nat.succ_ne_self _) (Nat.ne_of_gt (Nat.lt_succ_of_lt la)) (Nat.ne_of_lt la), ⟨⟨.none, he⟩, ⟨_, hit, rfl, rfl⟩⟩, fun b hb => ?_, q⟩
  have hle : s1.heap.objs.size ≤ b := by
    have e' : b = s1.heap.objs.size + 1 ∨ b = s1.heap.objs.size := by simpa using hb
    rcases e' with z | z
    · rw [z]; exact Nat.le_add_right _ _
    · rw [z]; exact Nat.le_refl _
  exact I1.fpOk hle (I1.hok.fresh hle)
theorem for_enumT {K : PySem.W.Frag} {a : Addr} {xs : List V} {g : TG} {tb : TS} {D : Ends} {σ : L2.St} {H : Hp} (Pv : Nat → L2.St → Hp → Prop) (h0 : Pv 0 σ H) (hq : ∀ i σ H, Pv i σ H → SqT K H a xs)
    (hs : ∀ (i : Nat) (x : V) (T : Addr) (σ : L2.St) (H : Hp), xs[i]? = some x → Pv i σ H → H T = none → g (.ref T) σ (upd H T (.tup [.int (i : Nat), x])) fun σ2 H2 => tb { D with nx := Pv (i + 1), ct := Pv (i + 1), bk := D.nx } σ2 H2)
    (hd : ∀ σ H, Pv xs.length σ H → D.nx σ H) :
    ∃ W : Nat → Nat → L2.St → Hp → Prop, (∃ m, W 0 m σ H) ∧ ∀ i m σ H, W i m σ H →
      ((IteT K a).stop i H ∧ D.nx σ H) ∨ ((IteT K a).go i H ∧ ∃ N : L2.St → Hp → Prop, (∀ σ' H', N σ' H' → ∃ m', m' < m ∧ W (i + 1) m' σ' H') ∧
        ∀ x H', (IteT K a).yld i H x H' → g x σ H' fun σ2 H2 => tb { D with nx := N, ct := N, bk := D.nx } σ2 H2) := by
  refine ⟨fun i m σ H => m = xs.length - i ∧ i ≤ xs.length ∧ Pv i σ H, ⟨_, rfl, Nat.zero_le _, h0⟩, ?_⟩
  rintro i m σ H ⟨rfl, le, p⟩
  have hx := hq i σ H p
  rcases Nat.lt_or_ge i xs.length with lt | ge
  · have at_x := List.getElem?_eq_getElem lt
    refine Or.inr ⟨⟨xs, _, hx, at_x⟩, Pv (i + 1), fun σ' H' p' => ⟨xs.length - (i + 1), by omega, rfl, lt, p'⟩, ?_⟩
    rintro v H' ⟨T, x, rfl, none_, rfl, k1⟩
    exact hs i x T σ H (k1 xs hx) p none_
  · have e : i = xs.length := by omega
    rw [e] at p ⊢
    exact Or.inl ⟨⟨xs, hq _ _ _ p, rfl⟩, hd σ H p⟩
end Tv

namespace Tv
open PySem PySem.Spec PyProof.Rows L2
/-! ### for a, b in zip(tuple, tuple) -/
def Ittt (K : PySem.W.Frag) (a b : Addr) : It :=
  ⟨fun i H => ∃ (xs ys : List V) (x y : V), SqT K H a xs ∧ SqT K H b ys ∧ xs[i]? = some x ∧ ys[i]? = some y ∧ xs.length = ys.length,
    fun i H v H' => ∃ T x y, v = .ref T ∧ H T = none ∧ H' = upd H T (.tup [x, y]) ∧ (∀ xs, SqT K H a xs → xs[i]? = some x) ∧ ∀ ys, SqT K H b ys → ys[i]? = some y,
    fun i H => ∃ xs ys : List V, SqT K H a xs ∧ SqT K H b ys ∧ xs.length = ys.length ∧ xs.length = i⟩
abbrev SideTT (h : Heap) (z TI TO i1 i2 a b : Addr) (i : Nat) : Prop :=
  IsZip h z TI TO .none ∧ IsTupOf2 h TI (.ref i1) (.ref i2) ∧ (∃ v u, IsTupOf2 h TO v u) ∧ h.IsTupleIter i1 a i ∧ h.IsTupleIter i2 b i
theorem turn_sideTT {P : Program} {w : World} {K : PySem.W.Frag} {elts : List Expr} {kk : Nat} {tpos : Pos} {z TI TO i1 i2 a b : Addr} (S : ZipSep2 z TI TO i1 i2 [i1, a] [i2, b]) (na : a ≠ i1) (nb2 : b ≠ i2) :
    Turn P w K (.Tuple elts kk tpos) (Ittt K a b) [z, TI, TO, i1, i2] z (fun i h => SideTT h z TI TO i1 i2 a b i) where
  mem := by simp
  obj := fun i h st c hc => by
    obtain ⟨q1, q2, ⟨_, _, q3⟩, ⟨o1, e1, _, d1⟩, ⟨o2, e2, _, d2⟩⟩ := st
    have where_ : c = z ∨ c = TI ∨ c = TO ∨ c = i1 ∨ c = i2 := by simpa using hc
    rcases where_ with rfl | rfl | rfl | rfl | rfl
    · exact ⟨_, q1, fun v q => nomatch q⟩
    · exact ⟨_, q2, fun v q => nomatch q⟩
    · exact ⟨_, q3, fun v q => nomatch q⟩
    · exact ⟨o1, e1, fun v q => by rw [d1] at q; cases q⟩
    · exact ⟨o2, e2, fun v q => by rw [d2] at q; cases q⟩
  keep := fun i h h' ⟨q1, q2, ⟨v, u, q3⟩, q4, q5⟩ k =>
    ⟨k _ (by simp) _ q1, k _ (by simp) _ q2, ⟨v, u, k _ (by simp) _ q3⟩, q4.at fun o q => k _ (by simp) o q, q5.at fun o q => k _ (by simp) o q⟩
  item := by
    rintro X rfl rfl rfl calm i pins s σ H E I fp ⟨q1, q2, ⟨v0, u0, q3⟩, q4, q5⟩ ⟨xs, ys, x, y, hx, hy, at_x, at_y, same⟩
    obtain ⟨its, vals, p, _⟩ := I.tuple hx
    obtain ⟨jts, wals, pt, _⟩ := I.tuple hy
    obtain ⟨u, at_u, ru⟩ := vals.get at_x
    obtain ⟨u2, at_u2, ru2⟩ := wals.get at_y
    have lt : i < xs.length := (List.getElem?_eq_some_iff.mp at_x).1
    have many := vals.length
    have many2 := wals.length
    have lz := Heap.lt_size q1
    have hh : X.A.handled = none := I.ok.hd calm
    refine wpAny_pyNext_zipD2_item S (Draws.tuple (A := X.A.in1) hh i1 a na its.toArray) (Draws.tuple (A := X.A.in1) hh i2 b nb2 jts.toArray) q1 q2 q3 ⟨q4, p⟩ ⟨q5, pt⟩
      (by rw [List.size_toArray]; omega) (by rw [List.size_toArray]; omega) fun w1 w2 h' tk p1 p2 z' out' st1 st2 made size_ keep => ?_
    refine ⟨_, rfl, wpAny_letOwnedTupleGo_zip (s := { s with heap := h', toks := tk }) z' fun h2 z2 same2 => ?_⟩
    have made2 : h2.get? s.heap.objs.size = some { cls := .type "tuple", data := .seq #[w1, w2] } := (same2.2 _ (Nat.ne_of_gt lz)).trans made
    have eu : w1 = u := by
      have p1' : its.toArray[i]? = some w1 := p1
      rw [List.getElem?_toArray, at_u] at p1'
      exact (Option.some.inj p1').symm
    have eu2 : w2 = u2 := by
      have p2' : jts.toArray[i]? = some w2 := p2
      rw [List.getElem?_toArray, at_u2] at p2'
      exact (Option.some.inj p2').symm
    subst eu eu2
    have new : ObjOk X.prog X.w (upd H s.heap.objs.size (.tup [x, y])) h2 s.heap.objs.size (.tup [x, y]) :=
      ⟨by show 2 ≤ sizeLine; decide, _, .cons ru (.cons ru2 .nil), ⟨_, made2, rfl, _, rfl⟩⟩
    have keep2 : ∀ c o, c ∉ [z, TI, TO, i1, i2] → s.heap.get? c = some o → h2.get? c = some o := fun c o nb q =>
      (same2.2 c fun e => nb (by simp [e])).trans (keep c o (fun e => nb (by simp [e])) (fun e => nb (by simp [e])) (fun e => nb (by simp [e])) (fun e => nb (by simp [e])) q)
    have J := I.turnedNew (t' := tk) (ch := [z, TI, TO, i1, i2]) keep2 fp (Nat.le_refl _) new
    refine ⟨.ref s.heap.objs.size, _, J, rfl, ⟨_, x, y, rfl, I.hok.fresh (Nat.le_refl _), rfl, fun l hl => by rw [I.tuple_inj hl hx]; exact at_x, fun l hl => by rw [I.tuple_inj hl hy]; exact at_y⟩, ⟨z2, ?_, ⟨w1, w2, ?_⟩, ?_, ?_⟩, fun c hc => ?_⟩
    · exact (same2.2 _ S.TIz).trans (keep _ _ S.TIz S.TITO S.TIi1 S.TIi2 q2)
    · exact (same2.2 _ S.TOz).trans out'
    · exact st1.1.at fun o q => (same2.2 _ S.zi1.symm).trans q
    · exact st2.1.at fun o q => (same2.2 _ S.zi2.symm).trans q
    · have lb : c < s.heap.objs.size := by
        obtain ⟨o1, e1, _⟩ := q4
        obtain ⟨o2, e2, _⟩ := q5
        have where_ : c = z ∨ c = TI ∨ c = TO ∨ c = i1 ∨ c = i2 := by simpa using hc
        rcases where_ with rfl | rfl | rfl | rfl | rfl
        · exact lz
        · exact Heap.lt_size q2
        · exact Heap.lt_size q3
        · exact Heap.lt_size e1
        · exact Heap.lt_size e2
      rw [upd_ne (Nat.ne_of_lt lb)]
      exact (fp c hc).1
  done := by
    rintro X rfl rfl rfl calm i pins s σ H E I fp ⟨q1, q2, ⟨v0, u0, q3⟩, q4, q5⟩ ⟨xs, ys, hx, hy, same, over⟩
    obtain ⟨its, vals, p, _⟩ := I.tuple hx
    obtain ⟨jts, wals, pt, _⟩ := I.tuple hy
    have many := vals.length
    have many2 := wals.length
    have hh : X.A.handled = none := I.ok.hd calm
    exact wpAny_pyNext_zipD2_end S (Draws.tuple (A := X.A.in1) hh i1 a na its.toArray) (Draws.tuple (A := X.A.in1) hh i2 b nb2 jts.toArray) q1 q2 q3 ⟨q4, p⟩ ⟨q5, pt⟩
      (by rw [List.size_toArray]; omega) (by rw [List.size_toArray]; omega) (.inl (by rw [List.size_toArray]; omega)) fun h' tk keep =>
      ⟨rfl, I.turnedL (t' := tk) (ch := [z, TI, TO, i1, i2]) (fun c o nb q => keep c o (fun e => nb (by simp [e])) (fun e => nb (by simp [e])) (fun e => nb (by simp [e])) (fun e => nb (by simp [e])) q) fp⟩
  self := fun A i s Q E st h => wpAny_pyIter_zip st.1 h
def iZipTT (K : PySem.W.Frag) (ta : TA) : TI := fun σ H R => ta σ H fun vs H1 => ∃ (a b : Addr) (xs ys : List V), vs = [.ref a, .ref b] ∧ SqT K H1 a xs ∧ SqT K H1 b ys ∧ R (Ittt K a b) H1
theorem pi_zipTT {X : Cx} {e e2 : Expr} {ta : TA} {p pos tpos : Pos} {elts : List Expr} {kk : Nat} (hg : Gl X "zip") (hm : X.mg "zip" = none) (ha : PA X [e, e2] ta)
    (two : starEach [e, e2] X.env = (false, eval e X.env) :: starEach [e2] X.env := by rfl) (plain : (backTo pos (starEach [e2] X.env)).any (·.1) = false := by rfl) :
    PI X (.Tuple elts kk tpos) (.Call (.Name "zip" p) [e, e2] [] pos) (iZipTT X.K ta) := by
  refine ⟨fun pins s σ H R I h => ?_⟩
  refine Call_ (ld_blt I hg hm PyProof.Rows.boot_zip (PyProof.Rows.callWith_type1 (thn (ha.run pos pins s σ H _ I h) fun us s1 ⟨vs, H1, I1, r1, q1⟩ => ?_) two plain))
  obtain ⟨a, b, xs, ys, rfl, hx, hy, q⟩ := q1
  obtain _ | ⟨r0, rr⟩ := r1
  obtain _ | ⟨r2, rr⟩ := rr
  cases rr
  cases r0
  cases r2
  obtain ⟨its, vals, p1, _⟩ := I1.tuple hx
  obtain ⟨jts, wals, p2, _⟩ := I1.tuple hy
  have la : a < s1.heap.objs.size := let ⟨o, e, _⟩ := p1; Heap.lt_size e
  have lb : b < s1.heap.objs.size := let ⟨o, e, _⟩ := p2; Heap.lt_size e
  refine zip_begins2 (begins_tuple a its.toArray) (begins_tuple b jts.toArray) p1 p2 fun h' c1 c2 c3 c4 c5 size_ keep => wpAny_pyIter_zip c1 ?_
  have I2 : Inv X pins σ H1 { s1 with heap := h' } := I1.kept (t' := s1.toks) keep
  refine ⟨_, [s1.heap.objs.size + 4, s1.heap.objs.size + 2, s1.heap.objs.size + 3, s1.heap.objs.size, s1.heap.objs.size + 1], _, _, H1, rfl, I2,
    turn_sideTT (zip_sep2 (N := s1.heap.objs.size) (fp1 := [a]) (fp2 := [b]) (by simpa using la) (by simpa using lb)) (Nat.ne_of_lt la) (Nat.ne_of_lt (Nat.lt_succ_of_lt lb)), ⟨c1, c2, ⟨_, _, c3⟩, ⟨_, c4, rfl, rfl⟩, ⟨_, c5, rfl, rfl⟩⟩, fun c hc => ?_, q⟩
  have le : s1.heap.objs.size ≤ c := by
    have where_ : c = s1.heap.objs.size + 4 ∨ c = s1.heap.objs.size + 2 ∨ c = s1.heap.objs.size + 3 ∨ c = s1.heap.objs.size ∨ c = s1.heap.objs.size + 1 := by simpa using hc
    rcases where_ with rfl | rfl | rfl | rfl | rfl
    · exact Nat.le_add_right ..
    · exact Nat.le_add_right ..
    · exact Nat.le_add_right ..
    · exact Nat.le_refl _
    · exact Nat.le_add_right ..
  exact I1.fpOk le (I1.hok.fresh le)
/-- the reading of a comprehension over zip(tuple, tuple) -/
theorem lc_zipTT {K : PySem.W.Frag} {a b : Addr} {xs ys : List V} {g : TG} {tt : TT} {te : TE} {vs : List Nat} {σ : L2.St} {H1 : Hp} {D : Addr} {Qd : Hp → Prop} (same : xs.length = ys.length) (Pv : Nat → Hp → Prop)
    (h0 : Pv 0 (upd H1 D (.lst []))) (hq : ∀ i H, Pv i H → SqT K H a xs ∧ SqT K H b ys)
    (hs : ∀ (i : Nat) (x y : V) (T : Addr) (H : Hp), xs[i]? = some x → ys[i]? = some y → Pv i H → H T = none → g (.ref T) (wipe σ vs) (upd H T (.tup [x, y])) fun σ2 H2 => wipe σ2 vs = wipe σ vs ∧ tt σ2 H2 fun c H3 =>
      if c = true then te σ2 H3 fun u H4 => ∃ acc, H4 D = some (.lst acc) ∧ acc.length < sizeLine ∧ Pv (i + 1) (upd H4 D (.lst (acc ++ [u]))) else Pv (i + 1) H3)
    (hd : ∀ H, Pv xs.length H → Qd H) :
    ∃ W : Nat → Nat → Hp → Prop, (∃ m, W 0 m (upd H1 D (.lst []))) ∧ ∀ i m H, W i m H →
      ((Ittt K a b).stop i H ∧ Qd H) ∨ ((Ittt K a b).go i H ∧ ∃ Nx : Hp → Prop, (∀ H', Nx H' → ∃ m', m' < m ∧ W (i + 1) m' H') ∧
        ∀ v H', (Ittt K a b).yld i H v H' → g v (wipe σ vs) H' fun σ2 H2 => wipe σ2 vs = wipe σ vs ∧ tt σ2 H2 fun c H3 =>
          if c = true then te σ2 H3 fun u H4 => ∃ acc, H4 D = some (.lst acc) ∧ acc.length < sizeLine ∧ Nx (upd H4 D (.lst (acc ++ [u]))) else Nx H3) := by
  refine ⟨fun i m H => m = xs.length - i ∧ i ≤ xs.length ∧ Pv i H, ⟨_, rfl, Nat.zero_le _, h0⟩, ?_⟩
  rintro i m H ⟨rfl, le, p⟩
  obtain ⟨hx, hy⟩ := hq i H p
  rcases Nat.lt_or_ge i xs.length with lt | ge
  · have at_x := List.getElem?_eq_getElem lt
    have at_y := List.getElem?_eq_getElem (by omega : i < ys.length)
    refine Or.inr ⟨⟨xs, ys, _, _, hx, hy, at_x, at_y, same⟩, Pv (i + 1), fun H' p' => ⟨xs.length - (i + 1), by omega, rfl, lt, p'⟩, ?_⟩
    rintro v H' ⟨T, x, y, rfl, none_, rfl, k1, k2⟩
    exact hs i x y T H (k1 xs hx) (k2 ys hy) p none_
  · have e : i = xs.length := by omega
    rw [e] at p ⊢
    exact Or.inl ⟨⟨xs, ys, hx, hy, same, rfl⟩, hd H p⟩
end Tv

namespace Tv
open PySem PySem.Spec PyProof.Rows L2 Evl
/-! ### promises by position, the guards known -/
def FnGR (P : Program) (w : World) (K : PySem.W.Frag) (mg : Str → Option Value) (base : Heap) (k : Nat) (f : Addr) (sp : Sp) : Prop :=
  ∀ (A : Around) (outer : List Env) (s : Shared) (H : Hp) (us : List Value) (vs : List V) (Q : VK) (E : XK), Room k A → A.guards = some [] → Env0 P w K mg base A outer s H → Vals vs us → sp vs H Q E →
    codeAny (model P w) A (.call (.ref f) ⟨us, []⟩) (CR CX0 outer P w H s Q E) s
section
variable {P : Program} {w : World} {K : PySem.W.Frag} {mg : Str → Option Value} {base : Heap} {j k : Nat} {f : Addr} {sp : Sp}
theorem FnGR.mono (F : FnGR P w K mg base j f sp) (h : j ≤ k) : FnGR P w K mg base k f sp := fun A outer s H us vs Q E hr => F A outer s H us vs Q E (hr.mono h)
theorem FnG.raw {fd : FuncData} {ps : List Str} (F : FnG P w K mg base k f fd ps sp) (hb : Binds K fd ps []) : FnGR P w K mg base k f sp := by
  intro A outer s H us vs Q E hr hg e0 r hs
  have hl : (us ++ []).length = ps.length := by rw [List.append_nil, ← r.length]; exact F.len _ _ _ _ hs
  have bt := hb s us (e0.mod.kin.keeps fun b o e => (e0.bs b o e).1) hl
  rw [List.append_nil] at bt
  exact F.run A outer s H ⟨us, []⟩ us vs Q E hr hg e0 bt r hs
end
section
variable {X : Cx} {pins : List (Addr × Obj)} {σ : L2.St} {H : Hp} {s : Shared}
theorem run_fnGR {k : Nat} {f : Addr} {sp : Sp} {Q : VK} {us : List Value} {vs : List V} (F : FnGR X.prog X.w X.K X.mg X.base k f sp) (hr : Room k X.A) (hg : X.A.guards = some []) (I : Inv X pins σ H s) (r : Vals vs us) (h : sp vs H Q E0) :
    codeAny (model X.prog X.w) X.A (.call (.ref f) ⟨us, []⟩) (fun r s' => match r with | .ok (.ret v) => EP X pins σ Q v s' | .ok _ => False | .error e => X.xe e s') s := by
  refine codeAny_mono (F X.A X.stack s H us vs Q E0 hr hg I.env0 r h) fun r s' hq => ?_
  cases r with
  | error e => exact hq.elim
  | ok fl =>
    cases fl with
    | ret u => exact I.after hq
    | next => exact False.elim hq
    | brk => exact False.elim hq
    | cont => exact False.elim hq
end
/-- def f(a, .., *v), the guards known -/
theorem fn_starG {P : Program} {w : World} {K : PySem.W.Frag} {mg : Str → Option Value} {base : Heap} {lev : Nat} {f : Addr} {name qual : Str} {st : Stmt} {fd : FuncData} {N ps : List Str} {pv : Str} {sp : Sp}
    (F : Fun K name qual st f fd) (S : FnScope N (ps ++ [pv]) (defScope st))
    (hb : ∀ (kV doc pm : Value) (an : Option Addr) (cdv ct : Value) (us rest : List Value), us.length = ps.length → bindArgs (PySem.W.fnOf name qual (defArgs st) (defBody st) (defScope st) .none kV doc pm an cdv ct) ⟨us ++ rest, []⟩ = (newTuple rest >>= fun t => pure (ps.zip us ++ [(pv, t)])))
    (hbody : ∀ (cdv : Value) (A : Around) (outer : List Env) (s : Shared) (H : Hp) (vs : List V) (Q : VK) (E : XK), Room lev (A.deeper (envOfC qual (defScope st) s.heap.objs.size f cdv)) → A.guards = some [] → sp vs H Q E →
      ∃ t, PSs (cxOf CX0 P w K mg base N qual (defScope st) f cdv A outer s H E).nox (defBody st) t ∧ t { nx := fun _ H' => Q .non H', rt := Q } (start N vs) H) :
    FnGR P w K mg base (lev + 1) f (fun vs H Q E => ∃ ws rest, vs = ws ++ rest ∧ ws.length = ps.length ∧ rest.length ≤ sizeLine ∧ ∀ p, H p = Option.none → sp (ws ++ [V.ref p]) (upd H p (.tup rest)) Q E) := by
  obtain ⟨oc, od, kV, doc, pm, an, cdv, ct, osl, rfl, lk, hcd⟩ := F.ex
  intro A outer s H us vs Q E hr hg e0 r hsp
  obtain ⟨ws, rest, ev, hl, hz, hq⟩ := hsp
  subst ev
  obtain ⟨u1, u2, eu, r1, r2⟩ := StX.vals_split r
  subst eu
  have hn : H s.heap.objs.size = Option.none := e0.hok.fresh (Nat.le_refl _)
  have hl1 : u1.length = ps.length := by rw [← r1.length]; exact hl
  have hl2 : u2.length ≤ sizeLine := by rw [← r2.length]; exact hz
  refine StX.run_bnd (CX := CX0) (N := N) (ps := ps ++ [pv]) lk hcd S hr e0 (G := fun xs H2 => ∃ p, H p = Option.none ∧ xs = ws ++ [V.ref p] ∧ H2 = upd H p (.tup rest)) (fun A' Ex Q' h => ?_) fun s2 H2 xs ⟨p, hp, ex, eH⟩ hr' => ?_
  · rw [hb _ _ _ _ _ _ u1 u2 hl1]
    refine wpAny_bind (wpAny_newTuple (wpAny_pure ?_) hl2)
    have new : ObjOk P w (upd H s.heap.objs.size (.tup rest)) (s.heap.push ({ cls := .type "tuple", data := .seq u2.toArray } : Obj)) s.heap.objs.size (.tup rest) := ⟨hz, u2, r2, ⟨_, Heap.get?_push_size _ rfl, rfl, _, rfl⟩⟩
    have un := StX.un_laid (fs := frs outer) (s := s) (o := ({ cls := .type "tuple", data := .seq u2.toArray } : Obj)) (u := .tup rest) hn
    have z := h _ _ (ws ++ [V.ref s.heap.objs.size]) (u1 ++ [Value.ref s.heap.objs.size]) (StX.env0_laid e0 new) un rfl (fun e s' => False.elim) (r1.append (.cons rfl .nil))
      (by rw [List.length_append, List.length_append, hl] <;> rfl) ⟨_, hn, rfl, rfl⟩
    rw [List.zip_append hl1.symm] at z
    exact z
  · subst ex eH
    obtain ⟨t, h, q⟩ := hbody cdv A outer s2 _ _ Q E hr' hg (hq p hp)
    exact ⟨t, h.nox, q⟩
/-! ### an instance made: C(e, ..), C(), C( *e) with C a name of the module or a local one -/
def tMakeG (C : Addr) (sp : Sp) (t : TA) : TE := fun σ H Q => t σ H fun vs H1 => ∀ x dx, H1 x = Option.none → H1 dx = Option.none → dx ≠ x →
  sp (V.ref x :: vs) (upd (upd H1 dx (.own x)) x (.ins C dx [])) (fun v H2 => v = .non ∧ Q (.ref x) H2) E0
/-- *e alone as the arguments -/
def tStarA (K : PySem.W.Frag) (te : TE) : TA := fun σ H Q => te σ H fun y H1 => ∃ a xs, y = V.ref a ∧ (SqT K H1 a xs ∨ SqL K H1 a xs) ∧ Q xs H1
section
variable {X : Cx} {k i : Nat} {f C : Addr} {sp : Sp} {x : Str} {e : Expr} {es : List Expr} {te : TE} {t : TA} {p pos sp_ : Pos}
theorem make_guards {A : Around} {C : Addr} {us : List Value} {kw : List (Str × Value)} (h : A.guards = some []) : (A.under (.builtin "type.__call__" ⟨.ref C :: us, kw⟩)).guards = some [] := by
  first | exact h | (simpa [Around.under, Code.guards, pushGuards] using h)
theorem run_makeG {pins : List (Addr × Obj)} {σ : L2.St} {H : Hp} {s : Shared} {Q : VK} {us : List Value} {vs : List V} (M : Mk X.K C f) (F : FnGR X.prog X.w X.K X.mg X.base k f sp) (hr : Room (k + 1) X.A) (hg : X.A.guards = some []) (I : Inv X pins σ H s) (r : Vals vs us)
    (h : ∀ x dx, H x = Option.none → H dx = Option.none → dx ≠ x → sp (V.ref x :: vs) (upd (upd H dx (.own x)) x (.ins C dx [])) (fun v H2 => v = .non ∧ Q (.ref x) H2) E0) :
    wpAny (model X.prog X.w) X.A (call (.ref C) us) (EP X pins σ Q) X.xe s := by
  have hq := h (s.heap.objs.size + 1) s.heap.objs.size (I.hok.fresh (Nat.le_succ _)) (I.hok.fresh (Nat.le_refl _)) (Nat.ne_of_lt (Nat.lt_succ_self _))
  have I2 := Inv.made (C := C) I
  have r2 : Vals (V.ref (s.heap.objs.size + 1) :: vs) (Value.ref (s.heap.objs.size + 1) :: us) := .cons rfl r
  refine wpAny_call (make_map (f := f) I.kIn M.makes M.init (beq_iff_eq.mp M.fn) (codeAny_mono (F _ X.stack _ _ (Value.ref (s.heap.objs.size + 1) :: us) _ _ E0 (hr.make C us []) (make_guards hg) (I2.env0.make C us []) r2 hq) fun r s' hq' => ?_))
  cases r with
  | error e => exact hq'.elim
  | ok fl =>
    cases fl with
    | ret u =>
      obtain ⟨v, H', I3, rv, ev, q3⟩ := I2.after hq'
      subst ev
      exact ⟨rv, ⟨V.ref (s.heap.objs.size + 1), H', I3, rfl, q3⟩⟩
    | next => exact False.elim hq'
    | brk => exact False.elim hq'
    | cont => exact False.elim hq'
theorem pe_makeG (M : Mk X.K C f) (F : FnGR X.prog X.w X.K X.mg X.base k f sp) (hr : Room (k + 1) X.A) (gd : X.A.guards = some []) (hg : Gl X x) (hm : X.mg x = some (.ref C)) (ha : PA X (e :: es) t) (hdb : (x == ("__debug__" : Str)) = false := by decide)
    (he : starEach (e :: es) X.env = (false, eval e X.env) :: starEach es X.env := by rfl) (hpl : (backTo pos (starEach es X.env)).any (·.1) = false := by rfl) : PE X (.Call (.Name x p) (e :: es) [] pos) (tMakeG C sp t) := by
  refine ⟨fun pins s σ H Q I h => ?_⟩
  refine wpAny_Call_Name_kw (ld_glob I hg hm ?_ hdb)
  refine PySem.W.callWith_K (h₀ := X.base) I.ok.mod.kin M.kp (thn (ha.run pos pins s σ H _ I h) fun us s1 ⟨vs, H1, I1, r, q⟩ => ⟨I1.kIn, ?_⟩) he hpl
  exact run_makeG M F hr gd I1 r q
theorem pe_makeG0 (M : Mk X.K C f) (F : FnGR X.prog X.w X.K X.mg X.base k f sp) (hr : Room (k + 1) X.A) (gd : X.A.guards = some []) (hg : Gl X x) (hm : X.mg x = some (.ref C)) (hdb : (x == ("__debug__" : Str)) = false := by decide) :
    PE X (.Call (.Name x p) [] [] pos) (tMakeG C sp tNil) := by
  refine ⟨fun pins s σ H Q I h => ?_⟩
  refine wpAny_Call_Name_kw (ld_glob I hg hm ?_ hdb)
  exact PySem.W.callWith_K0 I.kIn M.kp (run_makeG (us := []) M F hr gd I .nil h)
theorem pe_makeGS (M : Mk X.K C f) (F : FnGR X.prog X.w X.K X.mg X.base k f sp) (hr : Room (k + 1) X.A) (gd : X.A.guards = some []) (hg : Gl X x) (hm : X.mg x = some (.ref C)) (he : PE X e te) (hdb : (x == ("__debug__" : Str)) = false := by decide)
    (hst : starEach [.Starred e sp_] X.env = [(true, eval e X.env)] := by rfl) : PE X (.Call (.Name x p) [.Starred e sp_] [] pos) (tMakeG C sp (tStarA X.K te)) := by
  refine ⟨fun pins s σ H Q I h => ?_⟩
  refine wpAny_Call_Name_kw (ld_glob I hg hm ?_ hdb)
  refine PySem.W.callWith_S (h₀ := X.base) I.ok.mod.kin M.kp (thn (he.run pins s σ H _ I h) fun v s1 ⟨y, H1, I1, ry, a, xs, ey, hxs, q⟩ => ?_) hst
  subst ey
  obtain rfl : v = Value.ref a := ry
  exact StX.star_any I1 hxs fun us s2 I2 rv => ⟨I2.kIn, run_makeG M F hr gd I2 rv q⟩
/-- .. by a local name that holds the class -/
def tAtC (i : Nat) (C : Addr) (t : TE) : TE := fun σ H Q => σ[i]? = some (some (.ref C)) ∧ t σ H Q
theorem pe_makeLS (M : Mk X.K C f) (F : FnGR X.prog X.w X.K X.mg X.base k f sp) (hr : Room (k + 1) X.A) (gd : X.A.guards = some []) (hN : X.N[i]? = some x) (hv : Vis X.env.scope x) (he : PE X e te) (hdb : (x == ("__debug__" : Str)) = false := by decide) (hcd : (x == ("__classdict__" : Str)) = false := by decide)
    (hst : starEach [.Starred e sp_] X.env = [(true, eval e X.env)] := by rfl) : PE X (.Call (.Name x p) [.Starred e sp_] [] pos) (tAtC i C (tMakeG C sp (tStarA X.K te))) := by
  refine ⟨fun pins s σ H Q I h => ?_⟩
  obtain ⟨hs, h⟩ := h
  refine wpAny_Call_Name_kw (thn ((pe_var (pos := p) hN hv hdb hcd).run pins s σ H (fun v H1 => v = .ref C ∧ H1 = H) I ⟨.ref C, hs, rfl, rfl⟩) fun u s1 ⟨v, H1, I1, r1, q1⟩ => ?_)
  obtain ⟨rfl, rfl⟩ := q1
  cases r1
  refine PySem.W.callWith_S (h₀ := X.base) I1.ok.mod.kin M.kp (thn (he.run pins s1 σ _ _ I1 h) fun v s1 ⟨y, H1, I1, ry, a, xs, ey, hxs, q⟩ => ?_) hst
  subst ey
  obtain rfl : v = Value.ref a := ry
  exact StX.star_any I1 hxs fun us s2 I2 rv => ⟨I2.kIn, run_makeG M F hr gd I2 rv q⟩
end
/-! ### a property read -/
def tPropG (C : Addr) (sp : Sp) (ta : TE) : TE := fun σ H Q => ta σ H fun x H1 => ∃ a dx fs, x = .ref a ∧ H1 a = some (.ins C dx fs) ∧ sp [.ref a] H1 Q E0
section
variable {X : Cx} {k : Nat} {C p g a dx : Addr} {fs : List (Str × V)} {f : Str} {sp : Sp} {e : Expr} {pos : Pos} {ta : TE}
theorem getpropG {pins : List (Addr × Obj)} {σ : L2.St} {H : Hp} {s : Shared} {Q : VK} {b : Bool} {E' : Value → Shared → Prop} (I : Inv X pins σ H s) (ea : H a = some (.ins C dx fs)) (c : Cls X.K C) (hp : PropOf X.K C f p g)
    (F : FnGR X.prog X.w X.K X.mg X.base k g sp) (hr : Room (k + 1) X.A) (gd : X.A.guards = some []) (h : sp [.ref a] H Q E0) :
    wpAny (model X.prog X.w) X.A (getAttr (.ref a) f b) (EP X pins σ Q) E' s := by
  obtain ⟨mA, O, _, _, _, _⟩ := ins_get I.hok ea
  obtain ⟨od, J, _⟩ := O.look
  obtain ⟨rest, hrec⟩ := hp.rec_
  have I1 := I.tok (s.toks + 1)
  have hc : (PySem.W.clsIn X.K C).isSome = true := by
    obtain ⟨cd, hc, _⟩ := PySem.W.any_some c.hd
    rw [hc]
    rfl
  refine PySem.W.get_bind I.kIn J (PySem.W.plainGet_of (c.get f)).1 (PySem.W.findObj_data hc hp.at_ hp.get hp.tak) (PySem.W.plainGet_of (c.get f)).2 (wpAny_call (PySem.W.prop_get (s := { s with toks := s.toks + 1 }) I.kIn hrec ?_))
  refine codeAny_mono (F X.A.in1 X.stack { s with toks := s.toks + 1 } H [.ref a] [.ref a] Q E0 hr.in1 gd I1.env0.in1 (.cons rfl .nil) h) fun r s' hq => ?_
  cases r with
  | error er => exact hq.elim
  | ok fl =>
    cases fl with
    | ret u =>
      obtain ⟨v, H', I3, rv, q3⟩ := I1.after hq
      show wpAny _ _ (handedOut u) _ _ _
      rw [PySem.W.handedOut_of (handed_of rv)]
      exact wpAny_pure ⟨v, H', I3, rv, q3⟩
    | next => exact False.elim hq
    | brk => exact False.elim hq
    | cont => exact False.elim hq
theorem pe_propG (he : PE X e ta) (c : Cls X.K C) (hp : PropOf X.K C f p g) (F : FnGR X.prog X.w X.K X.mg X.base k g sp) (hr : Room (k + 1) X.A) (gd : X.A.guards = some [])
    (hab : attributeBase e f X.env (eval e X.env) = eval e X.env := by rfl) : PE X (.Attribute e f pos) (tPropG C sp ta) := by
  refine ⟨fun pins s σ H Q I h => ?_⟩
  refine attr_of hab (thn (he.run pins s σ H _ I h) fun u s1 ⟨x, H1, I1, rx, a, dx, fs, ex, ea, q⟩ => ?_)
  subst ex
  obtain rfl : u = Value.ref a := rx
  exact getpropG I1 ea c hp F hr gd q
end
/-! ### a classmethod called off the class: C.m(e, ..) -/
section
variable {X : Cx} {k : Nat} {C p g : Addr} {mc : Value} {sp : Sp} {o e : Expr} {es : List Expr} {m : Str} {pos apos : Pos} {ta : TE} {t : TA} {pl : Sem Bool}
theorem run_cmG {pins : List (Addr × Obj)} {σ : L2.St} {H : Hp} {s : Shared} {q : Addr} {Q : VK} {us : List Value} {vs : List V} (F : FnGR X.prog X.w X.K X.mg X.base k g sp) (hr : Room k X.A) (gd : X.A.guards = some []) (I : Inv X ((q, PySem.W.methodObj (.ref g) (.ref C)) :: pins) σ H s)
    (r : Vals vs us) (h : sp (.ref C :: vs) H Q E0) : wpAny (model X.prog X.w) X.A (call (.ref q) us) (EP X pins σ Q) X.xe s := by
  have z : wpAny (model X.prog X.w) X.A (call (.ref q) us) (EP X ((q, PySem.W.methodObj (.ref g) (.ref C)) :: pins) σ Q) X.xe s :=
    wpAny_call (PySem.W.method_call (ClX.pin_at I) (run_fnGR (us := .ref C :: us) (vs := .ref C :: vs) F hr gd I (.cons rfl r) h))
  exact thn z fun _ _ y => ClX.unpinE y
def tCMethG (C : Addr) (sp : Sp) (ta : TE) (t : TA) : TE := fun σ H Q => ta σ H fun x H1 => x = .ref C ∧ t σ H1 fun vs H2 => sp (.ref C :: vs) H2 Q E0
theorem pe_cmethG (he : PE X o ta) (r : ClX.CRead X.K C mc) (c : ClX.CMet X.K C mc m p g) (F : FnGR X.prog X.w X.K X.mg X.base k g sp) (hr : Room k X.A) (gd : X.A.guards = some []) (ha : PA X (e :: es) t)
    (hst : starEach (e :: es) X.env = (false, eval e X.env) :: starEach es X.env := by rfl) (hpl : (backTo pos (starEach es X.env)).any (·.1) = false := by rfl)
    (ht : eval (.Call (.Attribute o m apos) (e :: es) [] pos) X.env = (do
      let ov ← eval o X.env
      standAt apos.atName
      let (f, first) ← holding [ov] (getMethod ov m pl)
      callWith pos f first (backTo pos (starEach (e :: es) X.env)) (backToKw pos (keywordEach [] X.env))) := by rfl) :
    PE X (.Call (.Attribute o m apos) (e :: es) [] pos) (tCMethG C sp ta t) := by
  refine ⟨fun pins s σ H Q I h => ?_⟩
  refine PySem.W.methodCall_KW (pl := pl) (thn (he.run pins s σ H _ I h) fun u s1 ⟨x, H1, I1, rx, ex, q⟩ => ?_) ht
  subst ex
  obtain rfl : u = Value.ref C := rx
  refine ClX.getmethcm_ok I1 r c fun s2 I2 => ?_
  refine ClX.callwith_cm I2 (ClX.base_none I1 (Nat.le_refl _)) c.fi (thn (ha.run pos _ s2 σ H1 _ I2 q) fun us s3 ⟨vs, H2, I3, rv, q2⟩ => ⟨⟨ClX.pin_at I3, I3.kIn⟩, ?_⟩) hst hpl
  exact run_cmG F hr gd I3 rv q2
/-- o.m(e, ..), a method of o's class -/
def tMethG (C : Addr) (m : Str) (sp : Sp) (ta : TE) (t : TA) : TE := fun σ H Q => ta σ H fun x H1 => ∃ a dx fs, x = .ref a ∧ H1 a = some (.ins C dx fs) ∧ fs.lookup m = none ∧ t σ H1 fun vs H2 => sp (x :: vs) H2 Q E0
theorem pe_methG (he : PE X o ta) (c : Cls X.K C) (hm : Meth X.K C m g) (F : FnGR X.prog X.w X.K X.mg X.base k g sp) (hr : Room k X.A) (gd : X.A.guards = some []) (ha : PA X (e :: es) t)
    (hst : starEach (e :: es) X.env = (false, eval e X.env) :: starEach es X.env := by rfl) (hpl : (backTo pos (starEach es X.env)).any (·.1) = false := by rfl)
    (ht : eval (.Call (.Attribute o m apos) (e :: es) [] pos) X.env = (do
      let ov ← eval o X.env
      standAt apos.atName
      let (f, first) ← holding [ov] (getMethod ov m pl)
      callWith pos f first (backTo pos (starEach (e :: es) X.env)) (backToKw pos (keywordEach [] X.env))) := by rfl) :
    PE X (.Call (.Attribute o m apos) (e :: es) [] pos) (tMethG C m sp ta t) := by
  refine ⟨fun pins s σ H Q I h => ?_⟩
  refine PySem.W.methodCall_KW (pl := pl) (thn (he.run pins s σ H _ I h) fun u s1 ⟨x, H1, I1, rx, a, dx, fs, ex, ea, l, q⟩ => ?_) ht
  subst ex
  obtain rfl : u = Value.ref a := rx
  refine getmeth_ok I1 ea c hm l ?_
  refine PySem.W.callWith_K (h₀ := X.base) (first := [.ref a]) I1.ok.mod.kin hm.kp (thn (ha.run pos pins s1 σ H1 _ I1 q) fun us s2 ⟨vs, H2, I2, r, q2⟩ => ⟨I2.kIn, ?_⟩) hst hpl
  exact wpAny_call (run_fnGR (us := .ref a :: us) (vs := .ref a :: vs) F hr gd I2 (.cons rfl r) q2)
end

/-! ### short: a property, a class made, as the text has them -/
structure PropG (P : Program) (w : World) (K : PySem.W.Frag) (mg : Str → Option Value) (base : Heap) (C : Addr) (f : Str) (k : Nat) (sp : Sp) : Prop where
  ex : ∃ p g : Addr, PropOf K C f p g ∧ FnGR P w K mg base k g sp
structure MakeG (P : Program) (w : World) (K : PySem.W.Frag) (mg : Str → Option Value) (base : Heap) (C : Addr) (k : Nat) (sp : Sp) : Prop where
  ex : ∃ f : Addr, Mk K C f ∧ FnGR P w K mg base k f sp
structure ReadG (P : Program) (w : World) (K : PySem.W.Frag) (mg : Str → Option Value) (base : Heap) (C : Addr) (m : Str) (k : Nat) (sp : Sp) : Prop where
  ex : ∃ (p g : Addr) (mc : Value), ClX.CRead K C mc ∧ ClX.CMet K C mc m p g ∧ FnGR P w K mg base k g sp
structure MethG (P : Program) (w : World) (K : PySem.W.Frag) (mg : Str → Option Value) (base : Heap) (C : Addr) (m : Str) (k : Nat) (sp : Sp) : Prop where
  ex : ∃ g : Addr, Meth K C m g ∧ FnGR P w K mg base k g sp
section
variable {X : Cx} {k i : Nat} {C : Addr} {f x m : Str} {sp : Sp} {o e : Expr} {es : List Expr} {pos p sp_ apos : Pos} {ta te : TE} {t : TA} {pl : Sem Bool}
theorem pe_propX (D : PropG X.prog X.w X.K X.mg X.base C f k sp) (c : Cls X.K C) (hr : Room (k + 1) X.A) (gd : X.A.guards = some []) (he : PE X e ta)
    (hab : attributeBase e f X.env (eval e X.env) = eval e X.env := by rfl) : PE X (.Attribute e f pos) (tPropG C sp ta) := by
  obtain ⟨p, g, hp, F⟩ := D.ex
  exact pe_propG he c hp F hr gd hab
theorem pe_makeX (D : MakeG X.prog X.w X.K X.mg X.base C k sp) (hr : Room (k + 1) X.A) (gd : X.A.guards = some []) (hg : Gl X x) (hm : X.mg x = some (.ref C)) (ha : PA X (e :: es) t) (hdb : (x == ("__debug__" : Str)) = false := by decide)
    (he : starEach (e :: es) X.env = (false, eval e X.env) :: starEach es X.env := by rfl) (hpl : (backTo pos (starEach es X.env)).any (·.1) = false := by rfl) : PE X (.Call (.Name x p) (e :: es) [] pos) (tMakeG C sp t) := by
  obtain ⟨f, M, F⟩ := D.ex
  exact pe_makeG M F hr gd hg hm ha hdb he hpl
theorem pe_makeX0 (D : MakeG X.prog X.w X.K X.mg X.base C k sp) (hr : Room (k + 1) X.A) (gd : X.A.guards = some []) (hg : Gl X x) (hm : X.mg x = some (.ref C)) (hdb : (x == ("__debug__" : Str)) = false := by decide) :
    PE X (.Call (.Name x p) [] [] pos) (tMakeG C sp tNil) := by
  obtain ⟨f, M, F⟩ := D.ex
  exact pe_makeG0 M F hr gd hg hm hdb
theorem pe_makeXS (D : MakeG X.prog X.w X.K X.mg X.base C k sp) (hr : Room (k + 1) X.A) (gd : X.A.guards = some []) (hg : Gl X x) (hm : X.mg x = some (.ref C)) (he : PE X e te) (hdb : (x == ("__debug__" : Str)) = false := by decide)
    (hst : starEach [.Starred e sp_] X.env = [(true, eval e X.env)] := by rfl) : PE X (.Call (.Name x p) [.Starred e sp_] [] pos) (tMakeG C sp (tStarA X.K te)) := by
  obtain ⟨f, M, F⟩ := D.ex
  exact pe_makeGS M F hr gd hg hm he hdb hst
theorem pe_makeXL (D : MakeG X.prog X.w X.K X.mg X.base C k sp) (hr : Room (k + 1) X.A) (gd : X.A.guards = some []) (i : Nat) (hN : X.N[i]? = some x) (hv : Vis X.env.scope x) (he : PE X e te) (hdb : (x == ("__debug__" : Str)) = false := by decide) (hcd : (x == ("__classdict__" : Str)) = false := by decide)
    (hst : starEach [.Starred e sp_] X.env = [(true, eval e X.env)] := by rfl) : PE X (.Call (.Name x p) [.Starred e sp_] [] pos) (tAtC i C (tMakeG C sp (tStarA X.K te))) := by
  obtain ⟨f, M, F⟩ := D.ex
  exact pe_makeLS M F hr gd hN hv he hdb hcd hst
theorem pe_cmethX (D : ReadG X.prog X.w X.K X.mg X.base C m k sp) (hr : Room k X.A) (gd : X.A.guards = some []) (he : PE X o ta) (ha : PA X (e :: es) t)
    (hst : starEach (e :: es) X.env = (false, eval e X.env) :: starEach es X.env := by rfl) (hpl : (backTo pos (starEach es X.env)).any (·.1) = false := by rfl)
    (ht : eval (.Call (.Attribute o m apos) (e :: es) [] pos) X.env = (do
      let ov ← eval o X.env
      standAt apos.atName
      let (f, first) ← holding [ov] (getMethod ov m pl)
      callWith pos f first (backTo pos (starEach (e :: es) X.env)) (backToKw pos (keywordEach [] X.env))) := by rfl) :
    PE X (.Call (.Attribute o m apos) (e :: es) [] pos) (tCMethG C sp ta t) := by
  obtain ⟨p, g, mc, r, c, F⟩ := D.ex
  exact pe_cmethG he r c F hr gd ha hst hpl ht
theorem pe_methX (D : MethG X.prog X.w X.K X.mg X.base C m k sp) (c : Cls X.K C) (hr : Room k X.A) (gd : X.A.guards = some []) (he : PE X o ta) (ha : PA X (e :: es) t)
    (hst : starEach (e :: es) X.env = (false, eval e X.env) :: starEach es X.env := by rfl) (hpl : (backTo pos (starEach es X.env)).any (·.1) = false := by rfl)
    (ht : eval (.Call (.Attribute o m apos) (e :: es) [] pos) X.env = (do
      let ov ← eval o X.env
      standAt apos.atName
      let (f, first) ← holding [ov] (getMethod ov m pl)
      callWith pos f first (backTo pos (starEach (e :: es) X.env)) (backToKw pos (keywordEach [] X.env))) := by rfl) :
    PE X (.Call (.Attribute o m apos) (e :: es) [] pos) (tMethG C m sp ta t) := by
  obtain ⟨g, hm, F⟩ := D.ex
  exact pe_methG he c hm F hr gd ha hst hpl ht
end
end Tv

namespace Tv
open PySem PySem.Spec PyProof.Rows L2 Evl
/-! ### t[::-1], t a tuple -/
section
variable {prog : Program} {w : World} {A : Around} {E : Value → Shared → Prop} {s : Shared}
theorem applied_rev {sl : Addr} {vs : Value} {n : Nat} {Q : Int × Int × Nat → Shared → Prop} (hs : s.heap.IsSliceOf sl .none .none vs) (ps : IsPart vs (some (-1)))
    (h : Q ((n : Int) - 1, -1, n) s) : wpAny (model prog w) A (Builtin.Slice.sliceApplied (.ref sl) (pure (n : Int))) Q E s := by
  obtain ⟨os, hos, hcs, hds⟩ := id hs
  unfold Builtin.Slice.sliceApplied Builtin.Slice.sliceFields
  refine wpAny_bind (wpAny_bind (wpAny_field hos hds (x := .none) rfl (wpAny_bind (wpAny_field hos hds (x := .none) rfl (wpAny_bind (wpAny_field hos hds (x := vs) rfl (wpAny_pure ?_)))))))
  refine wpAny_bind (HT.slicePart_ ps ?_)
  show wpAny _ _ (if ((-1 : Int) == 0) = true then _ else _) _ _ s
  rw [if_neg (by decide)]
  refine wpAny_bind (HT.slicePart_ .none (wpAny_bind (HT.slicePart_ .none (wpAny_bind (wpAny_pure ?_)))))
  show wpAny _ _ (pure ((n : Int) - 1, (-1 : Int), Builtin.Slice.slicePlaces ((n : Int) - 1) (-1) (-1))) _ _ s
  have e : Builtin.Slice.slicePlaces ((n : Int) - 1) (-1) (-1) = n := by
    unfold Builtin.Slice.slicePlaces
    rw [if_neg (by decide : ¬ ((-1 : Int) > 0))]
    by_cases h0 : (n : Int) - 1 > -1
    · rw [if_pos h0, show -(-1 : Int) = 1 from rfl, Int.ediv_one]
      omega
    · rw [if_neg h0]
      omega
  rw [e]
  exact wpAny_pure h
theorem pick_rev (xs : Array Value) : ((List.range xs.size).filterMap fun (m : Nat) => xs[(((xs.size : Nat) : Int) - 1 + (m : Int) * -1).toNat]?).toArray = xs.toList.reverse.toArray := by
  congr 1
  have e : (List.range xs.size).filterMap (fun (m : Nat) => xs[(((xs.size : Nat) : Int) - 1 + (m : Int) * -1).toNat]?) = (List.range xs.size).filterMap (fun m => xs.toList.reverse[m]?) := by
    have cg : ∀ (l : List Nat) (f g : Nat → Option Value), (∀ m ∈ l, f m = g m) → l.filterMap f = l.filterMap g := fun l f g => by
      induction l with
      | nil => intro _; rfl
      | cons a r ih =>
        intro h
        rw [List.filterMap_cons, List.filterMap_cons, h a List.mem_cons_self, ih fun m hm => h m (List.mem_cons_of_mem _ hm)]
    refine cg _ _ _ fun m hm => ?_
    have lt := List.mem_range.mp hm
    have e1 : (((xs.size : Nat) : Int) - 1 + (m : Int) * -1).toNat = xs.size - 1 - m := by omega
    rw [e1, List.getElem?_reverse (by simpa using lt)]
    simp
  rw [e]
  have l : xs.toList.reverse.length = xs.size := by simp
  rw [← l]
  generalize xs.toList.reverse = ys
  clear e l
  induction ys with
  | nil => rfl
  | cons a r ih =>
    rw [List.length_cons, List.range_succ_eq_map, List.filterMap_cons]
    show a :: _ = _
    rw [List.filterMap_map]
    exact congrArg (a :: ·) ih
theorem getItem_tuple_rev {t sl : Addr} {items : Array Value} {vs : Value} {Q : Value → Shared → Prop} (ht : IsTup s.heap t items) (hs : s.heap.IsSliceOf sl .none .none vs) (ps : IsPart vs (some (-1)))
    (h : Q (.ref s.heap.objs.size) { s with heap := s.heap.push { cls := .type "tuple", data := .seq items.toList.reverse.toArray } })
    (hsz : items.size ≤ sizeLine) : wpAny (model prog w) A (getItem (.ref t) (.ref sl)) Q E s := by
  have htake : sizeOk (.seq items.toList.reverse.toArray) := by
    show items.toList.reverse.toArray.size ≤ sizeLine
    rw [List.size_toArray, List.length_reverse, Array.length_toList]
    exact hsz
  obtain ⟨os, hos, hcs, hds⟩ := id hs
  have hTs : s.TypeIs (.ref sl) "slice" := ⟨os, hos, hcs⟩
  unfold getItem
  try with_reducible refine wpAny_holding ?_
  first | refine wpAny_bind (wpAny_pure ?_) | skip
  refine wpAny_bind (wpAny_sequenceKey ht.typeIs (by decide) ?_)
  refine wpAny_bind (wpAny_callSpecial?_slot (name := Str.ofString "__getitem__") ht.typeIs PyProof.Rows.slot_tuple_getitem
    (wpAny_call_entry PyProof.Rows.slot_tuple_getitem ht.typeIs entry_tuple_getitem ?_ (args_tuple_getitem _ _)))
  show wpAny _ _ (Builtin.Tuple.tupleItemsOf (.ref t) >>= _) _ _ s
  refine wpAny_bind (tupleItemsOf_ ht ?_)
  refine wpAny_bind (wpAny_typeOf hTs ?_)
  rw [if_pos (by decide)]
  refine wpAny_bind (applied_rev hs ps ?_)
  have hno : ¬ ((((items.size : Nat) : Int) - 1 == 0 && (-1 : Int) == 1 && items.size == items.size) = true) := by
    intro q
    rw [Bool.and_eq_true, Bool.and_eq_true] at q
    exact absurd q.1.2 (by decide)
  show wpAny _ _ (if (((items.size : Nat) : Int) - 1 == 0 && (-1 : Int) == 1 && items.size == items.size) = true then _ else _) _ _ s
  rw [if_neg hno, pick_rev]
  first
    | exact wpAny_bind (m := Builtin.Tuple.tupleExact _) (wpAny_newObj_type (wpAny_pure ⟨_, rfl, wpAny_pure h⟩) htake)
    | exact wpAny_bind (m := Builtin.Tuple.tupleExact _) (wpAny_newObj_type (wpAny_bind (wpAny_pure (wpAny_pure ⟨_, rfl, wpAny_pure h⟩))) htake)
    | exact wpAny_bind (wpAny_bind (m := Builtin.Tuple.tupleExact _) (wpAny_newObj_type (wpAny_pure (wpAny_pure ⟨_, rfl, wpAny_pure h⟩)) htake))
    | exact wpAny_bind (wpAny_bind (m := Builtin.Tuple.tupleExact _) (wpAny_newObj_type (wpAny_pure ⟨_, rfl, wpAny_pure h⟩) htake))
end
section
variable {X : Cx}
def tRevT (K : PySem.W.Frag) (te : TE) : TE := fun σ H Q => te σ H fun x H1 => ∃ a xs, x = .ref a ∧ SqT K H1 a xs ∧ ∀ p, H1 p = none → Q (.ref p) (upd H1 p (.tup xs.reverse))
theorem pe_revT {e : Expr} {te : TE} {k : Nat} {p1 p2 p3 pos : Pos} (he : PE X e te) : PE X (.Subscript e (.Slice none none (some (.UnaryOp .USub (.Constant (.int 1) k p1) p2)) p3) pos) (tRevT X.K te) := by
  refine ⟨fun pins s σ H Q I h => ?_⟩
  refine Subscript_ (thn (he.run pins s σ H _ I h) fun v s1 ⟨x, H1, I1, r1, q1⟩ => ?_)
  obtain ⟨a, xs, ex, hx, q⟩ := q1
  subst ex
  cases r1
  have hst : PO X (some (.UnaryOp .USub (.Constant (.int 1) k p1) p2)) (tPart (tUn (rU fun i => .int (-i)) (tC (.int 1)))) := po_some (pe_un un_neg pe_int)
  rw [show (Expr.Slice none none (some (.UnaryOp .USub (.Constant (.int 1) k p1) p2)) p3) = Expr.Slice none none (some (.UnaryOp .USub (.Constant (.int 1) k p1) p2)) p3 from rfl]
  refine wpAny_Slice ?_
  rw [evalPart_none]
  refine wpAny_pure (wpAny_pure ?_)
  refine thn (hst.run pins s1 σ H1 (fun o H4 => o = some (-1) ∧ H4 = H1) I1 ⟨1, rfl, -1, rfl, rfl, rfl⟩) fun vs s4 ⟨o, H4, I4, ps, eo, e4⟩ => ?_
  subst eo e4
  have I5 : Inv X pins σ H4 { s4 with heap := s4.heap.push { cls := .type "slice", data := .fields #[.none, .none, vs] } } := I4.kept (t' := s4.toks) fun b ob q => Heap.get?_push_of_some _ q
  obtain ⟨its, r, ht, hz⟩ := I5.tuple hx
  have hlen := r.length
  show wpAny (model X.prog X.w) X.A (subscriptTail e (.Slice none none (some (.UnaryOp .USub (.Constant (.int 1) k p1) p2)) p3) (.ref a) (.ref s4.heap.objs.size)) (EP X pins σ Q) X.xe { s4 with heap := s4.heap.push { cls := .type "slice", data := .fields #[.none, .none, vs] } }
  refine tail_any (ops := [.ref a, .ref s4.heap.objs.size]) ht.typeIs (PyProof.Rows.slot_tuple_getitem.lookup) ?_ (by with_unfolding_all rfl)
  refine getItem_tuple_rev ht (Heap.IsSliceOf.new _ .none .none vs) ps ?_ (by rw [List.size_toArray]; omega)
  refine ⟨.ref _, _, I5.laid (t' := s4.toks) (o := .tup xs.reverse) (fun b ob q => Heap.get?_push_of_some _ q) (Nat.le_refl _) ?_, rfl, q _ (I5.hok.fresh (Nat.le_refl _))⟩
  exact ⟨by rw [List.length_reverse]; exact hz, its.toArray.toList.reverse, by simpa using r.reverse, IsTup.new _ _⟩
/-! ### x in a tuple, by data -/
def rInT (K : PySem.W.Frag) : R2 := fun x y H Q => ∃ (p : Addr) (ys : List V) (d : PyData) (ds : List PyData), y = .ref p ∧ Dp K H x d ∧ SqT K H p ys ∧ DpAll K H ys ds ∧ SeqAt.shaped d = true ∧ PyData.canLayAll0 ds = true ∧ Q (.bl (ds.any fun z => PyData.eqv z d)) H
theorem op_inT (hu : X.A.units + 66 < cLine) : OpR X (compareOp .In) (rInT X.K) := by
  intro pins s σ H x y v u Q I rx ry h
  obtain ⟨p, ys, d, ds, rfl, hx, hy, R, sh, lay, q⟩ := h
  cases ry
  obtain ⟨a1, r1⟩ := Dp.reads I _ x v hx rx
  obtain ⟨its, vals, pt, hz⟩ := I.tuple hy
  obtain ⟨a2, r2⟩ := Dp.readsAll I _ ys its R vals
  have dep : d.depth ≤ 64 := by
    unfold SeqAt.shaped at sh
    exact of_decide_eq_true (Bool.and_eq_true_iff.mp sh).2
  have each := SeqAt.items_eqAt (A := X.A) (vs := its.toArray) (by simpa using r2) r1 lay (SeqAt.canLay_of_shaped sh) (by have := Nat.min_le_right (PyData.depthAll ds) d.depth; omega)
  have e : (its.toArray.any fun u => PyData.eqv (SeqAt.readOf s.heap u) d) = ds.any fun z => PyData.eqv z d := by
    rw [← SeqAt.readsAll_map ds its a2 lay r2]
    simp [List.any_map, Function.comp_def]
  refine SeqAt.in_tupleAt _ pt each ?_
  rw [e]
  exact ⟨.bl _, H, I, rfl, q⟩
end
end Tv

namespace Tv
open PySem PySem.Spec PyProof.Rows L2 Evl
/-! ### rows sorted -/
def insN (r : List Nat) : List (List Nat) → List (List Nat)
  | [] => [r]
  | a :: t => if num r ≤ num a then r :: a :: t else a :: insN r t
def sortN : List (List Nat) → List (List Nat)
  | [] => []
  | a :: t => insN a (sortN t)
theorem insN_perm (r : List Nat) : ∀ L : List (List Nat), (insN r L).Perm (r :: L)
  | [] => List.Perm.refl _
  | a :: t => by
    unfold insN
    split
    · exact List.Perm.refl _
    · exact ((insN_perm r t).cons a).trans (List.Perm.swap r a t)
theorem sortN_perm : ∀ L : List (List Nat), (sortN L).Perm L
  | [] => List.Perm.refl _
  | a :: t => (insN_perm a (sortN t)).trans ((sortN_perm t).cons a)
theorem insN_sorted (r : List Nat) : ∀ {L : List (List Nat)}, L.Pairwise (fun a b => num a ≤ num b) → (insN r L).Pairwise (fun a b => num a ≤ num b)
  | [], _ => by unfold insN; simp
  | a :: t, h => by
    obtain ⟨h1, h2⟩ := List.pairwise_cons.mp h
    unfold insN
    split
    · rename_i le
      refine List.pairwise_cons.mpr ⟨fun b hb => ?_, h⟩
      rcases List.mem_cons.mp hb with rfl | hb
      · exact le
      · exact Nat.le_trans le (h1 b hb)
    · rename_i nle
      refine List.pairwise_cons.mpr ⟨fun b hb => ?_, insN_sorted r h2⟩
      rcases List.mem_cons.mp ((insN_perm r t).mem_iff.mp hb) with rfl | hb
      · omega
      · exact h1 b hb
theorem sortN_sorted : ∀ L : List (List Nat), (sortN L).Pairwise (fun a b => num a ≤ num b)
  | [] => List.Pairwise.nil
  | a :: t => insN_sorted a (sortN_sorted t)
theorem num_from : ∀ (r : List Nat) (k : Nat), r.foldl (fun at_ x => 3 * at_ + x) k = k * 3 ^ r.length + num r
  | [], k => by simp [num]
  | a :: r, k => by
    unfold num
    rw [List.foldl_cons, List.foldl_cons, num_from r, num_from r, List.length_cons, Nat.pow_succ]
    have : (3 * k + a) * 3 ^ r.length = k * (3 ^ r.length * 3) + a * 3 ^ r.length := by
      rw [Nat.add_mul, Nat.mul_comm (3 ^ r.length) 3, ← Nat.mul_assoc, Nat.mul_comm k 3]
    simp
    omega
theorem num_cons (a : Nat) (r : List Nat) : num (a :: r) = a * 3 ^ r.length + num r := by
  have := num_from r (3 * 0 + a)
  unfold num at this ⊢
  rw [List.foldl_cons, this]
  simp
theorem num_inj : ∀ {a b : List Nat}, a.length = b.length → (∀ x ∈ a, x < 3) → (∀ x ∈ b, x < 3) → num a = num b → a = b
  | [], [], _, _, _, _ => rfl
  | [], _ :: _, h, _, _, _ => nomatch h
  | _ :: _, [], h, _, _, _ => nomatch h
  | x :: a, y :: b, h, ha, hb, e => by
    have l : a.length = b.length := by simpa using h
    have la := num_lt a.length a rfl fun z hz => ha z (List.mem_cons_of_mem _ hz)
    have lb := num_lt b.length b rfl fun z hz => hb z (List.mem_cons_of_mem _ hz)
    rw [num_cons, num_cons, ← l] at e
    rw [← l] at lb
    have pos : 0 < 3 ^ a.length := Nat.pow_pos (by decide)
    generalize 3 ^ a.length = P at la lb pos e
    have d1 : (x * P + num a) / P = x := by rw [Nat.add_comm, Nat.add_mul_div_right _ _ pos, Nat.div_eq_of_lt la, Nat.zero_add]
    have d2 : (y * P + num b) / P = y := by rw [Nat.add_comm, Nat.add_mul_div_right _ _ pos, Nat.div_eq_of_lt lb, Nat.zero_add]
    have xy : x = y := by rw [← d1, ← d2, e]
    subst xy
    rw [num_inj l (fun z hz => ha z (List.mem_cons_of_mem _ hz)) (fun z hz => hb z (List.mem_cons_of_mem _ hz)) (by omega)]
theorem code_num : ∀ r : List Nat, TS.code 3 (r.map fun (a : Nat) => (a : Int)) = (num r : Int)
  | [] => rfl
  | a :: r => by
    rw [List.map_cons, num_cons]
    show (a : Int) * 3 ^ (r.map fun (a : Nat) => (a : Int)).length + TS.code 3 (r.map fun (a : Nat) => (a : Int)) = _
    rw [code_num r, List.length_map]
    push_cast
    rfl
abbrev Wid (d : Nat) (L : List (List Nat)) : Prop := ∀ r ∈ L, r.length = d ∧ ∀ a ∈ r, a < 3
theorem sort_one {d : Nat} {L L' : List (List Nat)} (W : Wid d L) (pm : L'.Perm L) (so : L'.Pairwise (fun a b => num a ≤ num b)) : L' = sortN L := by
  refine List.Perm.eq_of_pairwise (le := fun a b => num a ≤ num b) (fun a b ha hb h1 h2 => ?_) so (sortN_sorted L) (pm.trans (sortN_perm L).symm)
  obtain ⟨a1, a2⟩ := W a (pm.mem_iff.mp ha)
  obtain ⟨b1, b2⟩ := W b ((sortN_perm L).mem_iff.mp hb)
  exact num_inj (by rw [a1, b1]) a2 b2 (Nat.le_antisymm h1 h2)
theorem rows_perm {H : Hp} {xs ys : List V} (pm : ys.Perm xs) : ∀ {L : List (List Nat)}, Rows H xs L → ∃ L', Rows H ys L' ∧ L'.Perm L := by
  induction pm with
  | nil => exact fun {L} R => ⟨L, R, List.Perm.refl _⟩
  | cons x _ ih =>
    intro L R
    cases R with
    | cons r t =>
      obtain ⟨L', R', p'⟩ := ih t
      exact ⟨_ :: L', .cons r R', p'.cons _⟩
  | swap x y l =>
    intro L R
    cases R with
    | cons r t =>
      cases t with
      | cons r2 t2 => exact ⟨_ :: _ :: _, .cons r2 (.cons r t2), List.Perm.swap _ _ _⟩
  | trans _ _ ih1 ih2 =>
    intro L R
    obtain ⟨L1, R1, p1⟩ := ih2 R
    obtain ⟨L2, R2, p2⟩ := ih1 R1
    exact ⟨L2, R2, p2.trans p1⟩
theorem tupI_row {K : PySem.W.Frag} {H : Hp} {x : V} {r : List Nat} (h : IsRow H x r) : TupI K H x (r.map fun (a : Nat) => (a : Int)) := by
  obtain ⟨a, ea, ha⟩ := h
  refine ⟨a, ea, st_of ?_⟩
  rw [List.map_map]
  exact ha
theorem rows_mem {H : Hp} {y : V} : ∀ {ys : List V} {L : List (List Nat)}, Rows H ys L → y ∈ ys → ∃ r ∈ L, IsRow H y r
  | _, _, .nil, h => nomatch h
  | _, _, .cons a t, h => by
    rcases List.mem_cons.mp h with rfl | h
    · exact ⟨_, List.mem_cons_self, a⟩
    · obtain ⟨r, hr, h2⟩ := rows_mem t h
      exact ⟨r, List.mem_cons_of_mem _ hr, h2⟩
theorem mem_rows {H : Hp} {r : List Nat} : ∀ {ys : List V} {L : List (List Nat)}, Rows H ys L → r ∈ L → ∃ y ∈ ys, IsRow H y r
  | _, _, .nil, h => nomatch h
  | _, _, .cons a t, h => by
    rcases List.mem_cons.mp h with rfl | h
    · exact ⟨_, List.mem_cons_self, a⟩
    · obtain ⟨y, hy, h2⟩ := mem_rows t h
      exact ⟨y, List.mem_cons_of_mem _ hy, h2⟩
theorem rows_sorted {K : PySem.W.Frag} {H : Hp} : ∀ {ys : List V} {L : List (List Nat)}, Rows H ys L → ys.Pairwise (fun x y => ∀ n m, TupI K H x n → TupI K H y m → TS.code 3 n ≤ TS.code 3 m) → L.Pairwise (fun a b => num a ≤ num b)
  | _, _, .nil, _ => List.Pairwise.nil
  | _, _, .cons a t, h => by
    obtain ⟨h1, h2⟩ := List.pairwise_cons.mp h
    refine List.pairwise_cons.mpr ⟨fun b hb => ?_, rows_sorted t h2⟩
    obtain ⟨y, hy, hr⟩ := mem_rows t hb
    have := h1 y hy _ _ (tupI_row a) (tupI_row hr)
    rw [code_num, code_num] at this
    omega
section
variable {K : PySem.W.Frag} {σ : L2.St} {H : Hp} {ta tb te tl : TE} {tt : TT}
/-- a list of rows, new or not; a tuple of rows, new or not -/
def EvRs (te : TE) (σ : L2.St) (H : Hp) (L : List (List Nat)) : Prop := ∀ H1, Ex H H1 → ∀ Q : VK, (∀ p H2 ys, Ex H1 H2 → H2 p = some (.lst ys) → Rows H2 ys L → Q (.ref p) H2) → te σ H1 Q
def EvTR (te : TE) (σ : L2.St) (H : Hp) (L : List (List Nat)) : Prop := ∀ H1, Ex H H1 → ∀ Q : VK, (∀ p H2 ys, Ex H1 H2 → H2 p = some (.tup ys) → Rows H2 ys L → Q (.ref p) H2) → te σ H1 Q
theorem ers_new {L : List (List Nat)} (h : EvRows te σ H L) : EvRs te σ H L := fun H1 e Q q => h H1 e Q fun p H2 ys _ e2 hy R => q p H2 ys e2 hy R
theorem ers_var {L : List (List Nat)} {p : Addr} {ys : List V} (h : Ev te σ H (.ref p)) (hp : H p = some (.lst ys)) (R : Rows H ys L) : EvRs te σ H L := fun H1 e Q q => h H1 e _ fun H2 e2 => q p H2 ys e2 (e2 _ _ (e _ _ hp)) (R.mono (e.trans e2))
theorem etr_tuple {L : List (List Nat)} (h : EvRs te σ H L) : EvTR (tCB (fun xs H Q => ∃ p ys, xs = [.ref p] ∧ ((SqL K H p ys ∧ ∀ l, H l = none → Q (.ref l) (upd H l (.tup ys))) ∨ (SqT K H p ys ∧ Q (.ref p) H))) (tCons te tNil)) σ H L := fun H1 e Q q =>
  h H1 e _ fun p H2 ys e2 hy R => ⟨p, ys, rfl, Or.inl ⟨SqL.of hy, fun l hl => q l _ ys (e2.trans (Ex.new hl)) upd_same (R.mono (Ex.new hl))⟩⟩
theorem evd_trs {L : List (List Nat)} (h : EvTR te σ H L) : EvD K te σ H (.tuple (dRs L)) := fun H1 e Q q => h H1 e _ fun p H2 ys e2 hy R => q _ H2 e2 (.tup (st_of hy) (dp_rows R))
theorem evd_lrs {L : List (List Nat)} (h : EvRs te σ H L) : EvD K te σ H (.list (dRs L)) := fun H1 e Q q => h H1 e _ fun p H2 ys e2 hy R => q _ H2 e2 (.lst (sq_of hy) (dp_rows R))
theorem evr_tup {t : TA} {ds : List PyData} (h : EvDs K t σ H ds) (z : ds.length ≤ 1000) : EvR K (tTup t) σ H (.tuple ds) := fun H1 e Q q =>
  h H1 e _ fun vs H2 e2 dv => ⟨by rw [dps_len dv]; exact Nat.le_trans z (by decide), fun p hp => q p _ (e2.trans (Ex.new hp)) (.tup (st_of upd_same) (dps_mono (Ex.new hp) dv))⟩
theorem ev_inT {d : PyData} {ds : List PyData} (h1 : EvD K ta σ H d) (h2 : EvR K tb σ H (.tuple ds)) (sh : SeqAt.shaped d = true) (lay : PyData.canLayAll0 ds = true) : Ev (tOp (rInT K) ta tb) σ H (.bl (ds.any fun z => PyData.eqv z d)) :=
  fun H1 e Q q => h1 H1 e _ fun v H2 e2 dv => h2 H2 (e.trans e2) _ fun p H3 e3 dp => by
    cases dp with
    | tup hs ha => exact ⟨p, _, d, ds, rfl, dp_mono e3 dv, hs, ha, sh, lay, q H3 (e2.trans e3)⟩
theorem er_sort {d : Nat} {L : List (List Nat)} (h : EvRs te σ H L) (few : L.length < 64) (W : Wid d L) : EvRows (tCB (rSortU K d 3) (tCons te tNil)) σ H (sortN L) := fun H1 e Q q =>
  h H1 e _ fun p H2 ys e2 hy R => ⟨p, ys, rfl, SqL.of hy, by rw [R.len]; exact few, fun x hx => by
    obtain ⟨r, hr, rx⟩ := rows_mem R hx
    obtain ⟨w1, w2⟩ := W r hr
    refine ⟨_, tupI_row rx, by rw [List.length_map]; exact w1, fun m hm => ?_⟩
    obtain ⟨a, ha, rfl⟩ := List.mem_map.mp hm
    have := w2 a ha
    omega, fun ys' r pm so hr => by
    obtain ⟨L', R', p'⟩ := rows_perm pm R
    have eL := sort_one W p' (rows_sorted R' so)
    rw [eL] at R'
    exact q r _ ys' (fresh_back e2 hr) (e2.trans (Ex.new hr)) upd_same (R'.mono (Ex.new hr))⟩
theorem evrow_u {as : List Nat} (h : EvU te σ H (iv as)) : EvRow te σ H as := fun H1 e Q q => h H1 e _ fun p H2 _ e2 hp => q _ H2 e2 ⟨p, rfl, hp⟩
theorem evrow_rev {a : Addr} {r : List Nat} (h : Ev te σ H (.ref a)) (ha : H a = some (.tup (iv r))) : EvRow (tRevT K te) σ H r.reverse := fun H1 e Q q => h H1 e _ fun H2 e2 =>
  ⟨a, iv r, rfl, SqT.of (e2 _ _ (e _ _ ha)), fun p hp => q _ _ (e2.trans (Ex.new hp)) ⟨p, rfl, by rw [upd_same]; unfold iv; rw [List.map_reverse]⟩⟩
theorem er_mapT {L : List (List Nat)} {j : Nat} {vs : List Nat} (f : List Nat → List Nat) (h : EvTR tl σ H L) (few : L.length ≤ 40000) (hw : ∀ y, wipe ((wipe σ vs).set j (some y)) vs = wipe σ vs)
    (he : ∀ (x : V) (r : List Nat) H1, Ex H H1 → r ∈ L → IsRow H1 x r → EvRow te ((wipe σ vs).set j (some x)) H1 (f r)) :
    EvRows (tLc (iTup K tl) (gName j) tYes te vs) σ H (L.map f) := fun H1 e Q q => h H1 e _ fun p H2 ys e2 hy R => ⟨p, rfl, ⟨ys, SqT.of hy⟩, fun Dl hD => lc_tup (K := K) (xs := ys)
  (fun i H3 => Ex H2 H3 ∧ ∃ zs, H3 Dl = some (.lst zs) ∧ Rows H3 zs ((L.take i).map f)) ⟨Ex.new hD, [], upd_same, .nil⟩ (fun i H3 _ pc => SqT.of (pc.1 _ _ hy))
  (fun i x H3 hi ⟨e3, zs, hD3, R3⟩ => ⟨hw _, by
    obtain ⟨r, at_r, rx⟩ := R.get hi
    have rx3 : IsRow H3 x r := by
      obtain ⟨a, ea, ha⟩ := rx
      exact ⟨a, ea, e3 _ _ ha⟩
    refine yes_go (he x r H3 ((e.trans e2).trans e3) (List.mem_of_getElem? at_r) rx3 H3 (Ex.refl _) _ fun y H4 e4 hb' => ?_)
    obtain ⟨b, eb, hb⟩ := hb'
    subst eb
    refine ⟨zs, e4 _ _ hD3, ?_, Ex.mut (e3.trans e4) hD, zs ++ [.ref b], upd_same, ?_⟩
    · rw [R3.len, List.length_map, List.length_take]
      exact Nat.lt_of_le_of_lt (by omega : _ ≤ 40000) (by decide)
    · rw [List.take_succ, at_r, List.map_append]
      refine Rows.append ((R3.mono e4).but (p := Dl) (fun b o nb h => by rw [upd_ne nb]; exact h) (fun l h => by rw [e4 _ _ hD3] at h; cases h)) (.cons ⟨b, rfl, ?_⟩ .nil)
      rw [upd_ne (fun z => by rw [z] at hb; rw [e4 _ _ hD3] at hb; cases hb)]
      exact hb⟩)
  (fun H3 ⟨e3, zs, hD3, R3⟩ => by
    rw [R.len, List.take_length] at R3
    exact q Dl H3 zs (fresh_back e2 hD) (e2.trans e3) hD3 R3)⟩
theorem er_mapL {L : List (List Nat)} {j : Nat} {vs : List Nat} (f : List Nat → List Nat) (h : EvRs tl σ H L) (few : L.length ≤ 40000) (hw : ∀ y, wipe ((wipe σ vs).set j (some y)) vs = wipe σ vs)
    (he : ∀ (x : V) (r : List Nat) H1, Ex H H1 → r ∈ L → IsRow H1 x r → EvRow te ((wipe σ vs).set j (some x)) H1 (f r)) :
    EvRows (tLc (iList K tl) (gName j) tYes te vs) σ H (L.map f) := fun H1 e Q q => h H1 e _ fun p H2 ys e2 hy R => ⟨p, rfl, ⟨ys, SqL.of hy⟩, fun Dl hD => lc_list (K := K) (xs := ys)
  (fun i H3 => Ex H2 H3 ∧ ∃ zs, H3 Dl = some (.lst zs) ∧ Rows H3 zs ((L.take i).map f)) ⟨Ex.new hD, [], upd_same, .nil⟩ (fun i H3 _ pc => SqL.of (pc.1 _ _ hy))
  (fun i x H3 hi ⟨e3, zs, hD3, R3⟩ => ⟨hw _, by
    obtain ⟨r, at_r, rx⟩ := R.get hi
    have rx3 : IsRow H3 x r := by
      obtain ⟨a, ea, ha⟩ := rx
      exact ⟨a, ea, e3 _ _ ha⟩
    refine yes_go (he x r H3 ((e.trans e2).trans e3) (List.mem_of_getElem? at_r) rx3 H3 (Ex.refl _) _ fun y H4 e4 hb' => ?_)
    obtain ⟨b, eb, hb⟩ := hb'
    subst eb
    refine ⟨zs, e4 _ _ hD3, ?_, Ex.mut (e3.trans e4) hD, zs ++ [.ref b], upd_same, ?_⟩
    · rw [R3.len, List.length_map, List.length_take]
      exact Nat.lt_of_le_of_lt (by omega : _ ≤ 40000) (by decide)
    · rw [List.take_succ, at_r, List.map_append]
      refine Rows.append ((R3.mono e4).but (p := Dl) (fun b o nb h => by rw [upd_ne nb]; exact h) (fun l h => by rw [e4 _ _ hD3] at h; cases h)) (.cons ⟨b, rfl, ?_⟩ .nil)
      rw [upd_ne (fun z => by rw [z] at hb; rw [e4 _ _ hD3] at hb; cases hb)]
      exact hb⟩)
  (fun H3 ⟨e3, zs, hD3, R3⟩ => by
    rw [R.len, List.take_length] at R3
    exact q Dl H3 zs (fresh_back e2 hD) (e2.trans e3) hD3 R3)⟩
theorem q_rows {D : Ends} {tz : TS} {j : Nat} {L : List (List Nat)} (h : EvRows te σ H L) (k : ∀ p H1 ys, H p = none → Ex H H1 → H1 p = some (.lst ys) → Rows H1 ys L → tz D (σ.set j (some (.ref p))) H1) : tSeq (tAsg te (gName j)) tz D σ H := h H (Ex.refl H) _ k
end
theorem dRs_eqv : ∀ A B : List (List Nat), PyData.eqvAll (dRs A) (dRs B) = decide (A = B)
  | [], [] => rfl
  | [], _ :: _ => rfl
  | _ :: _, [] => rfl
  | a :: A, b :: B => by
    have ih := dRs_eqv A B
    unfold dRs at ih ⊢
    rw [List.map_cons, List.map_cons]
    show (PyData.eqv (.tuple (dI a)) (.tuple (dI b)) && PyData.eqvAll _ _) = _
    rw [ih]
    show (PyData.eqvAll (dI a) (dI b) && _) = _
    rw [dI_eqv]
    by_cases e : a = b
    · subst e
      simp
    · simp [e]
end Tv

namespace Tv
open PySem PySem.Spec PyProof.Rows L2 Evl
/-! ### named tables; boxes of them -/
structure Nt where
  nm : Str
  ds : List Nat
  n : Nat
structure IsName (x : Str) : Prop where
  some_ : 1 ≤ x.length
  few : x.length ≤ 4
  lets : ∀ c ∈ x.cps.toList, 97 ≤ c ∧ c < 123
structure Nt.Ok (x : Nt) : Prop where
  name : IsName x.nm
  tab : IsTab x.ds x.n
def Nt.row (x : Nt) : Str := x.nm ++ Str.ofString " " ++ Tv.tab x.ds
def rowsV (L : List Nt) : List V := L.map fun x => V.str x.row
def namesV (L : List Nt) : List V := L.map fun x => V.str x.nm
def tablesV (L : List Nt) : List V := L.map fun x => V.str (Tv.tab x.ds)
/-- rows that make a box -/
structure Oks (L : List Nt) : Prop where
  ok : ∀ x ∈ L, x.Ok
  few : L.length ≤ 6
  apart : (L.map (·.nm)).Nodup
theorem IsName.noBlank {x : Str} (h : IsName x) : 32 ∉ x.cps.toList := fun m => by
  have := (h.lets 32 m).1
  omega
theorem row_parts {x : Nt} (h : x.Ok) : Txt.partition x.row (Str.ofString " ") = (x.nm, Str.ofString " ", Tv.tab x.ds) :=
  TL.partition_app (s := 32) (S := []) rfl h.name.noBlank
theorem row_len {x : Nt} (h : x.Ok) : x.row.length ≤ 40 := by
  unfold Nt.row
  rw [strs_len, strs_len, tab_len]
  have a := h.name.few
  have b := h.tab.small
  have e : (Str.ofString " ").length = 1 := rfl
  omega
theorem row_small {x : Nt} (h : x.Ok) : x.row.length ≤ sizeLine := Nat.le_trans (row_len h) (by decide)
theorem letters_all : (Str.ofString "abcdefghijklmnopqrstuvwxyz").cps.toList = (List.range 26).map (97 + ·) := by decide +kernel
theorem letter_in {c : Nat} (h : 97 ≤ c ∧ c < 123) : decide (c ∈ (Str.ofString "abcdefghijklmnopqrstuvwxyz").cps.toList) = true := by
  rw [letters_all, decide_eq_true_eq, List.mem_map]
  exact ⟨c - 97, List.mem_range.mpr (by omega), by omega⟩
theorem inV_strs (x : Str) : ∀ L : List Str, inV (.str x) (L.map V.str) = decide (x ∈ L)
  | [] => rfl
  | y :: L => by
    have ih := inV_strs x L
    unfold inV at ih ⊢
    rw [List.map_cons, List.any_cons, ih]
    show ((y == x) || decide (x ∈ L)) = decide (x ∈ y :: L)
    by_cases e : y = x
    · subst e
      simp
    · have q : (y == x) = false := beq_eq_false_iff_ne.mpr e
      have e2 : ¬ x = y := fun z => e z.symm
      simp [q, e2]
theorem strs_flat : ∀ L : List Str, (L.map V.str).all flatV = true
  | [] => rfl
  | _ :: L => strs_flat L
theorem namesV_eq (L : List Nt) : namesV L = (L.map (·.nm)).map V.str := by
  unfold namesV
  rw [List.map_map]
  rfl
/-- a box stands at a -/
structure BoxAt (C : Addr) (H : Hp) (a : Addr) (L : List Nt) : Prop where
  oks : Oks L
  ob : ∃ dx p, H a = some (.ins C dx [(("_rows" : Str), V.ref p)]) ∧ H p = some (.tup (rowsV L))
theorem BoxAt.mono {C a : Addr} {H H' : Hp} {L : List Nt} (e : Ex H H') (B : BoxAt C H a L) : BoxAt C H' a L := by
  obtain ⟨dx, p, h1, h2⟩ := B.ob
  exact ⟨B.oks, dx, p, e _ _ h1, e _ _ h2⟩
/-- what of the text the class is known by -/
structure BoxC (K : PySem.W.Frag) (mg : Str → Option Value) (C : Addr) : Prop where
  mg : mg "Box" = some (.ref C)
  ins : C8.InsC K C
  nR : NoAttr K C "_rows"
theorem BoxC.cl {K : PySem.W.Frag} {mg : Str → Option Value} {C : Addr} (B : BoxC K mg C) : Cls K C := B.ins.cl
section
variable {K : PySem.W.Frag} {C : Addr} {σ : L2.St} {H : Hp} {te : TE} {t : TA}
def EvBox (C : Addr) (te : TE) (σ : L2.St) (H : Hp) (L : List Nt) : Prop := ∀ H1, Ex H H1 → ∀ Q : VK, (∀ a H2, Ex H1 H2 → BoxAt C H2 a L → Q (.ref a) H2) → te σ H1 Q
/-- __init__'s promise, and as a class made keeps it -/
def spInit (C : Addr) : Sp := fun vs H Q _ => ∃ (a dx p : Addr) (L : List Nt), Oks L ∧ vs = [.ref a, .ref p] ∧ H a = some (.ins C dx []) ∧ H p = some (.tup (rowsV L)) ∧
  ∀ H', (∀ b o, b ≠ a → H b = some o → H' b = some o) → H' a = some (.ins C dx [(("_rows" : Str), V.ref p)]) → Q .non H'
def spBoxed (C : Addr) : Sp := fun vs H Q E => ∃ ws rest, vs = ws ++ rest ∧ ws.length = [("self" : Str)].length ∧ rest.length ≤ sizeLine ∧ ∀ p, H p = none → spInit C (ws ++ [V.ref p]) (upd H p (.tup rest)) Q E
theorem made_box {L : List Nt} (ok : Oks L) {H1 : Hp} {Q : VK} (q : ∀ a H2, H1 a = none → Ex H1 H2 → BoxAt C H2 a L → Q (.ref a) H2) :
    ∀ x dx, H1 x = none → H1 dx = none → dx ≠ x → spBoxed C (V.ref x :: rowsV L) (upd (upd H1 dx (.own x)) x (.ins C dx [])) (fun v H2 => v = .non ∧ Q (.ref x) H2) E0 := fun x dx hx hdx ne =>
  ⟨[.ref x], rowsV L, rfl, rfl, by unfold rowsV; rw [List.length_map]; exact Nat.le_trans ok.few (by decide), fun p hp => by
    have px : p ≠ x := fun z => by rw [z, upd_same] at hp; cases hp
    have pd : p ≠ dx := fun z => by rw [z, upd_ne ne, upd_same] at hp; cases hp
    have p0 : H1 p = none := by rw [upd_ne px, upd_ne pd] at hp; exact hp
    refine ⟨x, dx, p, L, ok, rfl, by rw [upd_ne px.symm, upd_same], upd_same, fun H' keep here => ⟨rfl, q x H' hx (fun b o hb => ?_) ⟨ok, dx, p, here, keep _ _ px upd_same⟩⟩⟩
    have bx := ne_of_none hb hx
    refine keep b o bx ?_
    rw [upd_ne (ne_of_none hb p0), upd_ne bx, upd_ne (ne_of_none hb hdx)]
    exact hb⟩
theorem eb_make {L : List Nt} (ok : Oks L) (h : EvA t σ H (rowsV L)) : EvBox C (tMakeG C (spBoxed C) t) σ H L := fun H1 e Q q =>
  h H1 e _ fun H2 e2 => made_box ok fun a H3 _ e3 B => q a H3 (e2.trans e3) B
/-- *rows, a list or tuple of the rows -/
theorem ea_starL {xs : List V} (h : EvL te σ H xs) : EvA (tStarA K te) σ H xs := fun H1 e Q q => h H1 e _ fun p H2 _ e2 hp => ⟨p, xs, rfl, Or.inr (sq_of hp), q H2 e2⟩
theorem ea_starP {xs : List V} {p : Addr} (h : Ev te σ H (.ref p)) (hp : SqT K H p xs ∨ SqL K H p xs) : EvA (tStarA K te) σ H xs := fun H1 e Q q => h H1 e _ fun H2 e2 =>
  ⟨p, xs, rfl, hp.imp (ex_t (e.trans e2)) (ex_l (e.trans e2)), q H2 e2⟩
theorem q_box {D : Ends} {tz : TS} {i : Nat} {L : List Nt} (h : EvBox C te σ H L) (k : ∀ a H1, Ex H H1 → BoxAt C H1 a L → tz D (σ.set i (some (.ref a))) H1) : tSeq (tAsg te (gName i)) tz D σ H :=
  h H (Ex.refl H) _ fun a H1 e B => k a H1 e B
theorem eb_ref {a : Addr} {L : List Nt} (h : Ev te σ H (.ref a)) (B : BoxAt C H a L) : EvBox C te σ H L := fun H1 e Q q => h H1 e _ fun H2 e2 => q a H2 e2 (B.mono (e.trans e2))
/-- a property that gives a new tuple -/
def spGet (C : Addr) (g : List Nt → List V) : Sp := fun vs H Q _ => ∃ (a : Addr) (L : List Nt), vs = [.ref a] ∧ BoxAt C H a L ∧ ∀ p H', H p = none → Ex H H' → H' p = some (.tup (g L)) → Q (.ref p) H'
theorem eu_get {a : Addr} {L : List Nt} {g : List Nt → List V} (h : Ev te σ H (.ref a)) (B : BoxAt C H a L) : EvU (tPropG C (spGet C g) te) σ H (g L) := fun H1 e Q q =>
  h H1 e _ fun H2 e2 => by
    have B2 := B.mono (e.trans e2)
    obtain ⟨dx, p, h1, _⟩ := B2.ob
    exact ⟨a, dx, _, rfl, h1, a, L, rfl, B2, fun p H3 hp e3 h3 => q p H3 (fresh_back e2 hp) (e2.trans e3) h3⟩
/-- a call of a def with a box -/
theorem ev_defBox {sp : Sp} {v : V} {L : List Nt} (h : EvBox C te σ H L) (hs : ∀ a H1, Ex H H1 → BoxAt C H1 a L → ∀ Q : VK, (∀ H2, Ex H1 H2 → Q v H2) → sp [.ref a] H1 Q E0) : Ev (tDef sp (tCons te tNil)) σ H v :=
  fun H1 e Q q => h H1 e _ fun a H2 e2 B => hs a H2 (e.trans e2) B Q fun H3 e3 => q H3 (e2.trans e3)
theorem eu_defBox {sp : Sp} {xs : List V} {L : List Nt} (h : EvBox C te σ H L) (hs : ∀ a H1, Ex H H1 → BoxAt C H1 a L → ∀ Q : VK, (∀ p H2, H1 p = none → Ex H1 H2 → H2 p = some (.tup xs) → Q (.ref p) H2) → sp [.ref a] H1 Q E0) :
    EvU (tDef sp (tCons te tNil)) σ H xs :=
  fun H1 e Q q => h H1 e _ fun a H2 e2 B => hs a H2 (e.trans e2) B Q fun p H3 hp e3 h3 => q p H3 (fresh_back e2 hp) (e2.trans e3) h3
end
end Tv

namespace Tv
open PySem PySem.Spec PyProof.Rows L2 Evl
/-! ### a <= b <= c, both hold; calls that give new things of a kind -/
section
variable {K : PySem.W.Frag} {σ : L2.St} {H : Hp} {ta tb tc te : TE} {t : TA} {r r' : R2} {x y z : V}
theorem ev_chain (ha : Ev ta σ H x) (hb : Ev tb σ H y) (h1 : RV r x y H (.bl true)) (hc : Ev tc σ H z) {b : Bool} (h2 : RV r' y z H (.bl b)) : Ev (tChain r r' ta tb tc) σ H (.bl b) := fun H1 e Q q =>
  ha H1 e _ fun H2 e2 => hb H2 (e.trans e2) _ fun H3 e3 => h1 H3 ((e.trans e2).trans e3) _ fun H4 e4 => ⟨true, rfl, by
    rw [if_pos rfl]
    exact hc H4 (((e.trans e2).trans e3).trans e4) _ fun H5 e5 => h2 H5 ((((e.trans e2).trans e3).trans e4).trans e5) Q fun H6 e6 => q H6 ((((e2.trans e3).trans e4).trans e5).trans e6)⟩
theorem ev_fld {C a dx : Addr} {fs : List (Str × V)} {f : Str} {v : V} (h : Ev te σ H (.ref a)) (ha : H a = some (.ins C dx fs)) (c : Cls K C) (n : NoAttr K C f) (l : fs.lookup f = some v) : Ev (tFld K te f) σ H v := fun H1 e Q q =>
  h H1 e _ fun H2 e2 => ⟨a, C, dx, fs, v, rfl, e2 _ _ (e _ _ ha), c, n, l, q H2 e2⟩
/-- the module's numbers and texts that the boxes use -/
structure BoxK (mg : Str → Option Value) : Prop where
  mML : ∃ u, mg "MOST_LETTERS" = some u ∧ RelV (.int 4) u
  mMT : ∃ u, mg "MOST_TABLES" = some u ∧ RelV (.int 6) u
  mLe : ∃ u, mg "LETTERS" = some u ∧ RelV (.str (Str.ofString "abcdefghijklmnopqrstuvwxyz")) u
  m_enumerate : mg "enumerate" = none
theorem q_pair {D : Ends} {tz : TS} {g : TG} {T : Addr} (k : g (.ref T) σ H (tz D)) : g (.ref T) σ H (tz D) := k
theorem es_U {xs : List V} (h : EvU te σ H xs) : EvS K te σ H xs := fun H1 e Q q => h H1 e _ fun p H2 _ e2 hp => q p H2 e2 (st_of hp)
end
theorem seq_nat {j n : Nat} (h : j < n) : seqIndex? (j : Int) n = some j := by
  unfold seqIndex?
  have e : ¬ ((j : Int) < 0) := by omega
  simp only [e, if_false]
  simp
  omega
end Tv

namespace Tv
open PySem PySem.Spec PyProof.Rows L2
/-! ### zip( *rows), rows a list of tuples -/
def iZipsTL (K : PySem.W.Frag) (te : TE) : TI := fun σ H R => te σ H fun v H1 => ∃ (a : Addr) (ps : List (Addr × List V)) (m : Nat), v = .ref a ∧ SqL K H1 a (ps.map fun p => V.ref p.1) ∧ 1 ≤ ps.length ∧ ps.length ≤ 3 ∧
  (∀ p ∈ ps, SqT K H1 p.1 p.2 ∧ p.2.length = m) ∧ R (ItT K ps m) H1
theorem pi_zipsTL {X : Cx} {e : Expr} {te : TE} {p sp pos np : Pos} {nm : Str} (hg : Gl X "zip") (hm : X.mg "zip" = none) (he : PE X e te)
    (one : starEach [.Starred e sp] X.env = [(true, eval e X.env)] := by rfl) :
    PI X (.Name nm np) (.Call (.Name "zip" p) [.Starred e sp] [] pos) (iZipsTL X.K te) := by
  refine ⟨fun pins s σ H R I h => ?_⟩
  refine Call_ (ld_blt I hg hm PyProof.Rows.boot_zip ?_)
  rw [one]
  refine PySem.W.ks_call (P := fun _ => True) rfl (fun _ _ => ⟨.machine, .inr (.inl rfl), .now⟩) (PySem.W.ks_lone (thn (he.run pins s σ H _ I h) fun u s1 ⟨v, H1, I1, rv, q⟩ => ?_))
  obtain ⟨a, ps, m, rfl, hT, n1, n3, same, q⟩ := q
  cases rv
  obtain ⟨its, vals, pl, hz⟩ := I1.list hT
  obtain ⟨⟨cls, dd, dat, sl⟩, at_a, hc, n, hd⟩ := pl.isList
  simp only at hc hd
  subst hc hd
  have isT : s1.TypeIs (.ref a) "list" := ⟨_, at_a, rfl⟩
  refine wpAny_bind (wpAny_specialOf isT F.slot_list_iter.lookup (wpAny_pure ⟨rfl, ?_⟩))
  refine wpAny_collect_seq a (.inl rfl) at_a rfl rfl (fun h' keep => ⟨True.intro, ?_⟩) (by rw [List.size_toArray, ← vals.length]; exact hz)
  have I2 : Inv X pins σ H1 { s1 with heap := h' } := I1.kept (t' := s1.toks) keep
  have fresh_fp : ∀ {h2 : Heap} {L : List Addr}, (∀ b ∈ L, h'.objs.size ≤ b) → (∀ b o, h'.get? b = some o → h2.get? b = some o) → ∀ b ∈ L, FpOk X pins H1 b := fun {h2 L} below k b hb =>
    I2.fpOk (below b hb) (I2.hok.fresh (below b hb))
  have apart_ : ∀ {c : Addr} {l : Array Value} {L : List Addr}, h'.IsTuple c l → (∀ b ∈ L, h'.objs.size ≤ b) → c ∉ L := fun {c l L} t below hc => by
    obtain ⟨o, e, _⟩ := t
    exact absurd (Heap.lt_size e) (Nat.not_lt.mpr (below c hc))

  -- 1
  have case1 : ∀ {a1 : Addr} {y1 : List V} {us : List Value}, Vals [V.ref a1] us → (SqT X.K H1 a1 y1 ∧ y1.length = m) → R (ItT X.K [(a1, y1)] m) H1 → wpAny (model X.prog X.w) X.A (call (.type "zip") us) (fun v s2 => wpAny (model X.prog X.w) X.A (pyIter v) (PIE X pins σ (.Name nm np) R) X.xe s2) X.xe { s1 with heap := h' } := by
    intro a1 y1 us vs g1 q
    obtain _ | ⟨rf1, vs1⟩ := vs
    cases vs1
    cases rf1
    obtain ⟨its1, vals1, isT1, _⟩ := I2.tuple g1.1
    refine call_zipT1 rfl (isTuple_of isT1) fun h2 S k => ?_
    obtain ⟨f0, b1, at_z, _⟩ := S.zip
    refine iter_self (s := { s1 with heap := h2 }) at_z ?_
    have I3 : Inv X pins σ H1 { s1 with heap := h2 } := I2.kept (t' := s1.toks) k
    exact ⟨_, _, _, _, H1, rfl, I3, turn_sideT1 (by simp) (apart_ (isTuple_of isT1) (by simp)) g1.2, S, fresh_fp (h2 := h2) (by simp) k, q⟩
  -- 2
  have case2 : ∀ {a1 a2 : Addr} {y1 y2 : List V} {us : List Value}, Vals [V.ref a1, V.ref a2] us → (SqT X.K H1 a1 y1 ∧ y1.length = m) → (SqT X.K H1 a2 y2 ∧ y2.length = m) → R (ItT X.K [(a1, y1), (a2, y2)] m) H1 → wpAny (model X.prog X.w) X.A (call (.type "zip") us) (fun v s2 => wpAny (model X.prog X.w) X.A (pyIter v) (PIE X pins σ (.Name nm np) R) X.xe s2) X.xe { s1 with heap := h' } := by
    intro a1 a2 y1 y2 us vs g1 g2 q
    obtain _ | ⟨rf1, vs1⟩ := vs
    obtain _ | ⟨rf2, vs2⟩ := vs1
    cases vs2
    cases rf1
    cases rf2
    obtain ⟨its1, vals1, isT1, _⟩ := I2.tuple g1.1
    obtain ⟨its2, vals2, isT2, _⟩ := I2.tuple g2.1
    refine call_zipT2 rfl (isTuple_of isT1) (isTuple_of isT2) fun h2 S k => ?_
    obtain ⟨f0, b1, at_z, _⟩ := S.zip
    refine iter_self (s := { s1 with heap := h2 }) at_z ?_
    have I3 : Inv X pins σ H1 { s1 with heap := h2 } := I2.kept (t' := s1.toks) k
    exact ⟨_, _, _, _, H1, rfl, I3, turn_sideT2 (by simp) (apart_ (isTuple_of isT1) (by simp)) (apart_ (isTuple_of isT2) (by simp)) g1.2 g2.2, S, fresh_fp (h2 := h2) (by simp) k, q⟩
  -- 3
  have case3 : ∀ {a1 a2 a3 : Addr} {y1 y2 y3 : List V} {us : List Value}, Vals [V.ref a1, V.ref a2, V.ref a3] us → (SqT X.K H1 a1 y1 ∧ y1.length = m) → (SqT X.K H1 a2 y2 ∧ y2.length = m) → (SqT X.K H1 a3 y3 ∧ y3.length = m) → R (ItT X.K [(a1, y1), (a2, y2), (a3, y3)] m) H1 → wpAny (model X.prog X.w) X.A (call (.type "zip") us) (fun v s2 => wpAny (model X.prog X.w) X.A (pyIter v) (PIE X pins σ (.Name nm np) R) X.xe s2) X.xe { s1 with heap := h' } := by
    intro a1 a2 a3 y1 y2 y3 us vs g1 g2 g3 q
    obtain _ | ⟨rf1, vs1⟩ := vs
    obtain _ | ⟨rf2, vs2⟩ := vs1
    obtain _ | ⟨rf3, vs3⟩ := vs2
    cases vs3
    cases rf1
    cases rf2
    cases rf3
    obtain ⟨its1, vals1, isT1, _⟩ := I2.tuple g1.1
    obtain ⟨its2, vals2, isT2, _⟩ := I2.tuple g2.1
    obtain ⟨its3, vals3, isT3, _⟩ := I2.tuple g3.1
    refine call_zipT3 rfl (isTuple_of isT1) (isTuple_of isT2) (isTuple_of isT3) fun h2 S k => ?_
    obtain ⟨f0, b1, at_z, _⟩ := S.zip
    refine iter_self (s := { s1 with heap := h2 }) at_z ?_
    have I3 : Inv X pins σ H1 { s1 with heap := h2 } := I2.kept (t' := s1.toks) k
    exact ⟨_, _, _, _, H1, rfl, I3, turn_sideT3 (by simp) (apart_ (isTuple_of isT1) (by simp)) (apart_ (isTuple_of isT2) (by simp)) (apart_ (isTuple_of isT3) (by simp)) g1.2 g2.2 g3.2, S, fresh_fp (h2 := h2) (by simp) k, q⟩
  rcases ps with _ | ⟨⟨a1, y1⟩, _ | ⟨⟨a2, y2⟩, _ | ⟨⟨a3, y3⟩, _ | ⟨p4, r⟩⟩⟩⟩
  · exact absurd n1 (by decide)
  · exact case1 vals (same (a1, y1) (by simp)) q
  · exact case2 vals (same (a1, y1) (by simp)) (same (a2, y2) (by simp)) q
  · exact case3 vals (same (a1, y1) (by simp)) (same (a2, y2) (by simp)) (same (a3, y3) (by simp)) q
  · exact absurd n3 (by simp)
end Tv

namespace Tv
open PySem PySem.Spec PyProof.Rows L2 Evl
/-! ### lists of lists -/
abbrev IsListV (H : Hp) (x : V) (r : List V) : Prop := ∃ a, x = .ref a ∧ H a = some (.lst r)
abbrev ListsV (H : Hp) (xs : List V) (L : List (List V)) : Prop := Paired (IsListV H) xs L
theorem ListsV.mono {H H' : Hp} (e : Ex H H') : ∀ {xs : List V} {L : List (List V)}, ListsV H xs L → ListsV H' xs L
  | _, _, .nil => .nil
  | _, _, .cons ⟨a, r, h⟩ t => .cons ⟨a, r, e _ _ h⟩ (ListsV.mono e t)
theorem ListsV.len {H : Hp} {xs : List V} {L : List (List V)} (r : ListsV H xs L) : xs.length = L.length := Paired.length r
theorem ListsV.get {H : Hp} {xs : List V} {L : List (List V)} {i : Nat} {x : V} (r : ListsV H xs L) (h : xs[i]? = some x) : ∃ as, L[i]? = some as ∧ IsListV H x as := paired_get r h
theorem lists_rep {H : Hp} {a : Addr} {xs : List V} (h : H a = some (.lst xs)) : ∀ n : Nat, ListsV H (List.replicate n (.ref a)) (List.replicate n xs)
  | 0 => .nil
  | n + 1 => .cons ⟨a, rfl, h⟩ (lists_rep h n)
theorem rg_iv (n : Nat) : rgV 0 (n : Int) = iv (List.range n) := by
  unfold rgV iv
  rw [Int.sub_zero, Int.toNat_natCast]
  exact List.map_congr_left fun i _ => by show V.int (0 + (i : Int)) = V.int (i : Int); rw [Int.zero_add]
section
variable {K : PySem.W.Frag} {σ : L2.St} {H : Hp} {ta tb te tk : TE} {t : TA}
def EvLots (te : TE) (σ : L2.St) (H : Hp) (L : List (List V)) : Prop := ∀ H1, Ex H H1 → ∀ Q : VK, (∀ p H2 ys, H1 p = none → Ex H1 H2 → H2 p = some (.lst ys) → ListsV H2 ys L → Q (.ref p) H2) → te σ H1 Q
theorem elo_rep {b : Addr} {r : List V} {n : Nat} (h : Ev te σ H (.ref b)) (hb : H b = some (.lst r)) (hk : Ev tk σ H (.int (n : Int))) (n2 : n ≤ 1000) : EvLots (tOp rRep (tLst (tCons te tNil)) tk) σ H (List.replicate n r) := fun H1 e Q q =>
  h H1 e _ fun H2 e2 => ⟨by show 1 ≤ sizeLine; decide, fun l hl => hk _ ((e.trans e2).trans (Ex.new hl)) _ fun H3 e3 => ⟨l, (n : Int), [.ref b], rfl, rfl, e3 _ _ upd_same, by omega, by omega,
    by rw [Int.toNat_natCast]; exact Nat.le_trans (by show 1 * n ≤ 1000; omega) (by decide), fun p hp => by
    have e4 := (((e2.trans (Ex.new (o := .lst [V.ref b]) hl)).trans e3).trans (Ex.new (o := .lst (List.replicate (n : Int).toNat [V.ref b]).flatten) hp))
    refine q p _ _ (fresh_back ((e2.trans (Ex.new (o := .lst [V.ref b]) hl)).trans e3) hp) e4 upd_same ?_
    rw [Int.toNat_natCast, flat_one]
    exact lists_rep (by rw [Int.toNat_natCast, flat_one] at e4; exact e4 _ _ (e _ _ hb)) n⟩⟩
theorem elo_one {r : List V} (h : EvL te σ H r) : EvLots (tLst (tCons te tNil)) σ H [r] := fun H1 e Q q =>
  h H1 e _ fun p H2 hp e2 h2 => ⟨by show 1 ≤ sizeLine; decide, fun l hl => q l _ _ (fresh_back e2 hl) (e2.trans (Ex.new hl)) upd_same (.cons ⟨p, rfl, Ex.new hl _ _ h2⟩ .nil)⟩
theorem elo_cat {A B : List (List V)} (h1 : EvLots ta σ H A) (h2 : EvLots tb σ H B) (z : A.length + B.length ≤ 1000) : EvLots (tOp rCat ta tb) σ H (A ++ B) := fun H1 e Q q =>
  h1 H1 e _ fun p H2 ys hp e2 hy R => h2 H2 (e.trans e2) _ fun p2 H3 zs hp2 e3 hz S =>
    ⟨p, p2, ys, zs, rfl, rfl, e3 _ _ hy, hz, by rw [R.len, S.len]; exact Nat.le_trans z (by decide), fun r hr =>
      q r _ _ (fresh_back (e2.trans e3) hr) ((e2.trans e3).trans (Ex.new hr)) upd_same (paired_app (ListsV.mono (Ex.new hr) (ListsV.mono e3 R)) (ListsV.mono (Ex.new hr) S))⟩
/-- a call of a def with such a list -/
theorem er_defLots {sp : Sp} {A : List (List V)} {L : List (List Nat)} (h : EvLots te σ H A) (hs : ∀ p H1 ys, Ex H H1 → H1 p = some (.lst ys) → ListsV H1 ys A → ∀ Q : VK, (∀ p2 H2 zs, H1 p2 = none → Ex H1 H2 → H2 p2 = some (.lst zs) → Rows H2 zs L → Q (.ref p2) H2) → sp [.ref p] H1 Q E0) :
    EvRows (tDef sp (tCons te tNil)) σ H L := fun H1 e Q q => h H1 e _ fun p H2 ys _ e2 hy R => hs p H2 ys (e.trans e2) hy R Q fun p2 H3 zs hp2 e3 hz R3 => q p2 H3 zs (fresh_back e2 hp2) (e2.trans e3) hz R3
theorem er_catV {l : Addr} {ys : List V} {A B : List (List Nat)} (h1 : Ev ta σ H (.ref l)) (hl : H l = some (.lst ys)) (R : Rows H ys A) (h2 : EvRows tb σ H B) (z : A.length + B.length ≤ 100000) : EvRows (tOp rCat ta tb) σ H (A ++ B) := fun H1 e Q q =>
  h1 H1 e _ fun H2 e2 => h2 H2 (e.trans e2) _ fun p H3 zs hp e3 hz S => ⟨l, p, ys, zs, rfl, rfl, e3 _ _ (e2 _ _ (e _ _ hl)), hz, by rw [R.len, S.len]; exact sz_of z, fun r hr =>
    q r _ _ (fresh_back (e2.trans e3) hr) ((e2.trans e3).trans (Ex.new hr)) upd_same (((R.mono ((e.trans e2).trans e3)).mono (Ex.new hr)).append (S.mono (Ex.new hr)))⟩
theorem el_defRg {n : Nat} (h : Ev te σ H (.int (n : Int))) (few : n ≤ 100000) : EvL (tLstRg (tRg1 te)) σ H (iv (List.range n)) := fun H1 e Q q => h H1 e _ fun H2 e2 =>
  ⟨(n : Int), rfl, RgOk.of_le (by omega) (by omega) (by omega) (by omega), fun l hl => q l _ (fresh_back e2 hl) (e2.trans (Ex.new hl)) (by rw [upd_same, rg_iv])⟩
theorem q_par2 {D : Ends} {tz : TS} {i j : Nat} {xs ys : List V} (h1 : EvL ta σ H xs) (h2 : EvL tb σ H ys) (k : ∀ p p2 H1, H p = none → H p2 = none → Ex H H1 → H1 p = some (.lst xs) → H1 p2 = some (.lst ys) → tz D ((σ.set i (some (.ref p))).set j (some (.ref p2))) H1) :
    tSeq (tPar i j (tCons ta (tCons tb tNil))) tz D σ H := h1 H (Ex.refl H) _ fun p H1 hp e1 hx => h2 H1 e1 _ fun p2 H2 hp2 e2 hy => ⟨_, _, rfl, k p p2 H2 hp (fresh_back e1 hp2) (e1.trans e2) (e2 _ _ hx) hy⟩
end
/-! ### ways, counted -/
theorem ways_ivA (xss : List (List Nat)) : ways (xss.map iv) = (waysA xss).map iv := by
  have h : ∀ (l : List (List Nat)) (A : List (List Nat)), (l.map iv).foldl growAll (A.map iv) = (l.foldl growA A).map iv := by
    intro l
    induction l with
    | nil => exact fun A => rfl
    | cons x r ih =>
      intro A
      rw [List.map_cons, List.foldl_cons, List.foldl_cons, ← ih]
      congr 1
      unfold growAll growA grow
      rw [List.flatMap_map, List.map_flatMap]
      congr 1
      funext a
      unfold iv
      rw [List.map_map, List.map_map]
      exact List.map_congr_left fun z _ => by simp
  have := h xss [[]]
  exact this
theorem waysA_le {α : Type} {b : Nat} : ∀ (xss : List (List α)), (∀ xs ∈ xss, xs.length ≤ b) → (waysA xss).length ≤ b ^ xss.length := by
  have h : ∀ (l : List (List α)) (A : List (List α)), (∀ xs ∈ l, xs.length ≤ b) → (l.foldl growA A).length ≤ A.length * b ^ l.length := by
    intro l
    induction l with
    | nil => exact fun A _ => by simp
    | cons x r ih =>
      intro A hx
      rw [List.foldl_cons]
      refine Nat.le_trans (ih _ fun z hz => hx z (List.mem_cons_of_mem _ hz)) ?_
      rw [growA_len, List.length_cons, Nat.pow_succ]
      have := hx x List.mem_cons_self
      calc A.length * x.length * b ^ r.length ≤ A.length * b * b ^ r.length := Nat.mul_le_mul_right _ (Nat.mul_le_mul_left _ this)
        _ = A.length * (b ^ r.length * b) := by rw [Nat.mul_assoc, Nat.mul_comm b]
  intro xss hx
  have := h xss [[]] hx
  unfold waysA
  simpa using this
end Tv

namespace Tv
open PySem PySem.Spec PyProof.Rows L2
/-! ### name = {k: v for target in iter}, on one line, the keys tuples -/
section
variable {X : Cx} {kx vx tg iter : Expr} {scope : Scope} {own : List (Str × Nat)} {wi : TI} {g : TG} {tk tv : TE}
theorem dcT_core {pins : List (Addr × Obj)} {s : Shared} {σ : L2.St} {H : Hp} {Q : VK} {pos pos' : Pos} {use : Option (Value → Sem Unit)} {Qf : Value → Shared → Prop} (I : Inv X pins σ H s) (calm : X.calm = true) (nd : X.N.Nodup) (hu : X.A.units + 1 < cLine) (walk : PI X tg iter wi) (ok : BlkOk X.N X.env.scope scope own)
    (pg : Blk X scope fun Y => PG Y tg g) (pk : Blk X scope fun Y => PE Y kx tk) (pv : Blk X scope fun Y => PE Y vx tv) (plain : ∀ x, foldedSetIterable iter X.env x = pure x)
    (h : tDcT wi g tk tv (own.map (·.2)) σ H Q)
    (hRR : ∀ D C s' m H', Inv X pins σ H' s' → Q (.ref D) H' → s'.heap.Ns C m → FpOk X pins H' C → compPost (model X.prog X.w) X.A X.xe use Qf (.ref D) C (.ok .next) s') :
    wpAny (model X.prog X.w) X.A (comprehension (.DictComp kx vx [⟨tg, iter, [], 0⟩] scope pos) scope X.env pos' newDict false (eval iter X.env) use) Qf X.xe s := by
  have closed : ∀ y ∈ scope.names, y.2 = .free → ∃ c, X.env.cells.lookup y.1 = some c := by
    intro y hy e
    rcases ok.free y hy e with k | k
    · exact I.ok.has _ (.inl k)
    · exact I.ok.has _ (.inr k)
  refine wpAny_comprehension_free (use := use) rfl plain (closure_ok closed) ok.kind (fun y hy e => by rw [ok.uniq y hy, e]) ?_
  refine thn (walk.run pins s σ H _ I h) fun xv s1 hx => thn hx fun itv s2 ⟨it, fp, tn, J, H2, e, I2, T, st2, f2, q⟩ => ?_
  subst e
  refine wpAny_newObj_type (newEnv_comp ?_)
  have none_ : H2 s2.heap.objs.size = none := I2.hok.fresh (Nat.le_refl _)
  obtain ⟨W, ⟨m0, w0⟩, turn⟩ := q _ none_
  have old : ∀ b ∈ fp, b < s2.heap.objs.size := fun b hb => Heap.lt_size (T.obj _ _ st2 b hb).choose_spec.1
  -- the new dict
  have I3 : Inv X pins σ (upd H2 s2.heap.objs.size (.dT [])) { s2 with heap := s2.heap.push { cls := .type "dict", data := .dict #[] } } :=
    I2.laid (t' := s2.toks) (fun b o e => Heap.get?_push_of_some _ e) (Nat.le_refl _) (dt_empty s2.heap I2.big)
  have st3 : tn 0 (s2.heap.push { cls := .type "dict", data := .dict #[] }) := T.keep _ _ _ st2 fun b _ o e => Heap.get?_push_of_some _ e
  have f3 : ∀ b ∈ fp, FpOk X pins (upd H2 s2.heap.objs.size (.dT [])) b ∧ b < (s2.heap.push { cls := .type "dict", data := .dict #[] }).objs.size := fun b hb => by
    refine ⟨⟨?_, (f2 b hb).2⟩, by rw [Heap.size_push]; exact Nat.lt_succ_of_lt (old b hb)⟩
    rw [upd_ne (Nat.ne_of_lt (old b hb))]
    exact (f2 b hb).1
  generalize s2.heap.objs.size = D at *
  generalize upd H2 D (.dT []) = H3 at *
  generalize s2.heap.push { cls := .type "dict", data := .dict #[] } = h3 at *
  have I4 := block_start I3 ok nd f3
  generalize cl_ : cellsFrom (h3.objs.size + 1) scope.names (cloFrom X.env.cells scope.names []) = cl at I4 ⊢
  have ce_ : (compEnvC scope cl h3.objs.size X.env).locals = h3.objs.size := rfl
  have st4 : tn 0 (pushCells (h3.push { cls := .type "dict", data := .dict #[] }) scope.names) :=
    T.keep _ _ _ st3 fun b _ o e => pushCells_keeps _ _ _ _ (Heap.get?_push_of_some _ e)
  have free_ : ∀ b ∈ fp, H3 b = none := fun b hb => (f3 b hb).1.1
  show codeAny _ _ (.compStart (.DictComp kx vx [⟨tg, iter, [], 0⟩] scope pos) 0 (.ref it) (.ref D) (compEnvC scope cl h3.objs.size X.env)) _ _
  refine codeAny_compStart_dict ?L (T.self X.A 0 _ _ _ st4 ?L)
  have fpo : ∀ {σ' : L2.St} {H' : Hp} {s' : Shared}, Inv (X.blk { s2 with heap := h3 } H3 scope (compEnvC scope cl h3.objs.size X.env) fp) [] σ' H' s' → (∀ b ∈ fp, H' b = none) →
      ∀ b ∈ fp, FpOk (X.blk { s2 with heap := h3 } H3 scope (compEnvC scope cl h3.objs.size X.env) fp) [] H' b := fun I' hn b hb =>
    ⟨hn b hb, (I'.ok.exf b hb).1, I'.ok.exfs b hb, .inl hb, fun x c e => (I'.ok.exf b hb).2 x c e, fun p hp => by
      have hp' : p ∈ ([] : List (Addr × Obj)) ++ [] := hp
      simp at hp'⟩
  refine compLoop_anyD (fun n s' => ∃ i H', Inv (X.blk { s2 with heap := h3 } H3 scope (compEnvC scope cl h3.objs.size X.env) fp) [] (wipe σ (own.map (·.2))) H' s' ∧
    tn i s'.heap ∧ (∀ b ∈ fp, H' b = none) ∧ W i n H') ?_ m0 ⟨0, H3, I4, st4, free_, w0⟩
  rintro n s5 ⟨i, H5, I5, st5, n5, w5⟩
  rcases turn i n H5 w5 with ⟨stop, over⟩ | ⟨go, Nx, later, step⟩
  · have dn := T.done (X.blk { s2 with heap := h3 } H3 scope (compEnvC scope cl h3.objs.size X.env) fp) rfl rfl rfl calm i [] s5 _ H5 (fun _ _ => False) I5 (fpo I5 n5) st5 stop
    refine thnF dn fun r s6 ⟨er, I6⟩ => ?_
    subst er
    have I7 : Inv X pins σ H5 s6 := I3.call' (ch := fp) I6.os I6.base I6.hok I6.bare fun b hb => let f := (f3 b hb).1.2; ⟨f.2.2.1, f.1, f.2.2.2.1, f.2.2.2.2⟩
    have nC : H5 h3.objs.size = none := I6.free
    obtain ⟨m, ns, _⟩ := I6.loc
    exact hRR D h3.objs.size s6 m H5 I7 over ns (I3.fpOk (s := { s2 with heap := h3 }) (H' := H5) (Nat.le_refl _) nC)
  · have it_ := T.item (X.blk { s2 with heap := h3 } H3 scope (compEnvC scope cl h3.objs.size X.env) fp) rfl rfl rfl calm i [] s5 _ H5 (fun _ _ => False) I5 (fpo I5 n5) st5 go
    refine thnF it_ fun r s6 ⟨u, er, drawn⟩ => ?_
    subst er
    refine thnF drawn fun _ s7 ⟨x, H7, I7, r7, y7, st7, n7⟩ => ?_
    have I7' := I7.pinned (fpo I7 n7) (T.obj _ _ st7)
    refine thnF ((pg _ _ _ _ _).run _ s7 _ H7 x u _ I7' r7 (step x H7 y7)) fun _ s8 ⟨σ8, H8, I8, w8, q8⟩ => ?_
    refine wpAny_pure ?_
    rw [if_pos rfl]
    refine thnF ((pk _ _ _ _ _).run _ s8 σ8 H8 _ I8 q8) fun z s10 ⟨yk, H10, I10, r10, q10⟩ => ?_
    refine thnF ((pv _ _ _ _ _).run _ s10 σ8 H10 _ I10 q10) fun z2 s11 ⟨yv, H11, I11, r11, kvs, k, b, ek, eb, eD, few, nx⟩ => ?_
    subst ek
    cases r10
    refine put_tup (X := X.blk { s2 with heap := h3 } H3 scope (compEnvC scope cl h3.objs.size X.env) fp) hu I11 eD few eb r11 fun s12 I12 => ?_
    obtain ⟨m', hm, w'⟩ := later _ nx
    have stays : ∀ b ∈ fp, ∀ o, s7.heap.get? b = some o → s12.heap.get? b = some o ∧ (upd H11 D (.dT (putK kvs k yv))) b = none := fun b hb o e =>
      let z := I12.pin (b, o) (List.mem_append_right _ (List.mem_append_right _ (mem_pinsAt hb e)))
      ⟨z.1, z.2.1⟩
    have len_ : (wipe σ (own.map (·.2))).length = σ8.length := by rw [← w8, wipe_length]
    refine ⟨m', hm, i + 1, _, (I12.unpinned (pins := [])).weak len_ (fun j v e => ?_), T.keep _ _ _ st7 fun b hb o e => (stays b hb o e).1, fun b hb => ?_, w'⟩
    · rw [← w8] at e
      exact (wipe_some e).1
    · obtain ⟨o, e, _⟩ := T.obj _ _ st7 b hb
      exact (stays b hb o e).2
theorem ps_setDcT {i : Nat} {y : Str} {py pos spos : Pos} (calm : X.calm = true) (nd : X.N.Nodup) (hy : X.N[i]? = some y) (hyl : X.env.scope.names.lookup y = some .local)
    (hsw : swapsWith (.DictComp kx vx [⟨tg, iter, [], 0⟩] scope pos) (some (.Name y py)) spos.line X.env = pure true) (hu : X.A.units + 1 < cLine) (walk : PI X tg iter wi) (ok : BlkOk X.N X.env.scope scope own)
    (pg : Blk X scope fun Y => PG Y tg g) (pk : Blk X scope fun Y => PE Y kx tk) (pv : Blk X scope fun Y => PE Y vx tv) (plain : ∀ x, foldedSetIterable iter X.env x = pure x := by intro _; rfl) :
    PS X (.Assign [.Name y py] (.DictComp kx vx [⟨tg, iter, [], 0⟩] scope pos) spos) (tAsg (tDcT wi g tk tv (own.map (·.2))) (gName i)) := by
  refine ⟨fun pins s σ H D I h => ?_⟩
  rw [exec_Assign_Name_used _ _ _ _ hsw]
  refine wpAny_bind (wpAny_standAt (wpAny_bind ?_))
  show wpAny _ X.A (do let _ ← comprehension (.DictComp kx vx [⟨tg, iter, [], 0⟩] scope pos) scope X.env (firstIterPos [⟨tg, iter, [], 0⟩] pos) newDict false (eval iter X.env) (some (assign (.Name y py) X.env))) _ _ s
  have h : tDcT wi g tk tv (own.map (·.2)) σ H (fun x H1 => gName i x σ H1 D.nx) := h
  refine wpAny_bind (thn (dcT_core (Qf := fun _ s' => SP X pins D .next s') I calm nd hu walk ok pg pk pv plain h fun L C s' m H' I' q hn f => ?_) fun _ s' hq => wpAny_pure (wpAny_pure hq))
  show wpAny _ _ (assign (.Name y py) X.env (.ref L)) _ _ _
  refine wpAny_assign_Name (store_ok2 (v := V.ref L) I' nd hy (.inl hyl) rfl (fun s2 I2 ⟨a, sb, ha⟩ => ?_) (.inr hyl))
  obtain ⟨f0, f1, f2, f3, f4, f5⟩ := f
  have haC : C ≠ a := by
    rcases ha with z | z
    · rw [z]; exact f1
    · exact fun e => f4 y a z e.symm
  refine ⟨m, hn.sameBut sb haC, fun h3 sb3 => ?_⟩
  exact ⟨_, H', I2.turned (t' := s2.toks) (fun b o hb e => (sb3.2 b hb).trans e) f0 f1 f3 f4 f5, q⟩
theorem sw_trueD {gs : List Comprehension} {pos py : Pos} {y : Str} {l : Nat} {env : Env} (hk : env.scope.kind = .function) (hy : env.scope.names.lookup y = some .local) (hl : (py.line == pos.line) = true)
    (ha : (scope.names.any fun (n, k) => n == y && (k == .local || k == .cell)) = false) : swapsWith (.DictComp kx vx gs scope pos) (some (.Name y py)) l env = pure true := by
  have ky : env.kindOf y = some .local := hy
  have hb : env.blockKind = .function := by unfold Env.blockKind; rw [hk]; rfl
  unfold swapsWith
  simp only [hb, ky, ha, Expr.pos, hl]
  rfl
end
end Tv

namespace Tv
open PySem PySem.Spec PyProof.Rows L2 Evl
/-! ### rows of m digits -/
structure Gok (m : Nat) (F : List (List Nat)) : Prop where
  nd : F.Nodup
  ok : ∀ r ∈ F, r.length = m ∧ ∀ a ∈ r, a < 3
theorem Gok.small {m : Nat} {F : List (List Nat)} (G : Gok m F) : F.length ≤ 3 ^ m := by
  have nd : (F.map fun r => (num r : Int)).Nodup := by
    refine List.pairwise_map.mpr (List.Pairwise.imp_of_mem ?_ G.nd)
    intro a b ha hb ne e
    obtain ⟨a1, a2⟩ := G.ok a ha
    obtain ⟨b1, b2⟩ := G.ok b hb
    exact ne (num_inj (by rw [a1, b1]) a2 b2 (Int.ofNat.inj e))
  have := nodup_le (m := (List.range (3 ^ m)).map fun (i : Nat) => (i : Int)) nd (fun k hk => by
    obtain ⟨r, hr, rfl⟩ := List.mem_map.mp hk
    obtain ⟨a1, a2⟩ := G.ok r hr
    exact List.mem_map.mpr ⟨num r, List.mem_range.mpr (num_lt m r a1 a2), rfl⟩)
  simpa using this
theorem waysA_in {α : Type} {r : List α} : ∀ {xss : List (List α)}, r ∈ waysA xss → r.length = xss.length ∧ ∀ x ∈ r, ∃ xs ∈ xss, x ∈ xs := by
  have h : ∀ (l : List (List α)) (A : List (List α)), r ∈ l.foldl growA A → ∃ q ∈ A, ∃ t, r = q ++ t ∧ t.length = l.length ∧ ∀ x ∈ t, ∃ xs ∈ l, x ∈ xs := by
    intro l
    induction l with
    | nil => exact fun A hr => ⟨r, hr, [], by simp, rfl, fun x hx => nomatch hx⟩
    | cons xs l ih =>
      intro A hr
      obtain ⟨q, hq, t, rfl, l1, l2⟩ := ih _ hr
      unfold growA at hq
      obtain ⟨q0, h0, h⟩ := List.mem_flatMap.mp hq
      obtain ⟨x, hx, rfl⟩ := List.mem_map.mp h
      refine ⟨q0, h0, x :: t, by simp, by simp [l1], fun y hy => ?_⟩
      rcases List.mem_cons.mp hy with rfl | hy
      · exact ⟨xs, List.mem_cons_self, hx⟩
      · obtain ⟨zs, h1, h2⟩ := l2 y hy
        exact ⟨zs, List.mem_cons_of_mem _ h1, h2⟩
  intro xss hr
  obtain ⟨q, hq, t, e, l1, l2⟩ := h xss [[]] hr
  obtain rfl : q = [] := by simpa using hq
  rw [List.nil_append] at e
  subst e
  exact ⟨l1, l2⟩
theorem makes_ok {ds : List Nat} {n m : Nat} {rs : List (List Nat)} (T : IsTab ds n) (h : rs.length = n) (ok : ∀ r ∈ rs, r.length = m ∧ ∀ a ∈ r, a < 3) : (makes ds rs m).length = m ∧ ∀ a ∈ makes ds rs m, a < 3 := by
  refine ⟨by unfold makes; simp, fun a ha => ?_⟩
  unfold makes at ha
  obtain ⟨i, hi, rfl⟩ := List.mem_map.mp ha
  exact (T.at (by rw [List.length_map]; exact h) (col_ok ok (List.mem_range.mp hi))).2
/-! ### what grown does -/
structure Grw where
  F : List (List Nat)
  T : List (Str × List Nat)
def addRow (g : Grw) (x : Str) (r ix : List Nat) : Grw := if r ∈ g.F then g else ⟨g.F ++ [r], g.T ++ [(x, ix)]⟩
/-- the row that a table makes of those with the told numbers -/
def rowOf (m : Nat) (x : Nt) (F : List (List Nat)) (ix : List Nat) : List Nat := makes x.ds (ix.map fun k => F.getD k []) m
def stepIx (m : Nat) (x : Nt) (g : Grw) (ix : List Nat) : Grw := addRow g x.nm (rowOf m x g.F ix) ix
theorem addRow_no {g : Grw} {x : Str} {r ix : List Nat} (h : r ∈ g.F) : addRow g x r ix = g := if_pos h
theorem addRow_yes {g : Grw} {x : Str} {r ix : List Nat} (h : ¬ r ∈ g.F) : addRow g x r ix = ⟨g.F ++ [r], g.T ++ [(x, ix)]⟩ := if_neg h
/-! ### how it lies in the heap -/
def knownK (F : List (List Nat)) : List (List Key × V) := F.map fun r => (keyR r, V.bl true)
theorem knownK_val (r : List Nat) : ∀ F : List (List Nat), valV (knownK F) (keyR r) = if r ∈ F then some (.bl true) else none
  | [] => rfl
  | q :: F => by
    have ih := knownK_val r F
    unfold valV knownK at ih ⊢
    rw [List.map_cons, List.find?_cons]
    by_cases e : q = r
    · subst e
      simp
    · have ne : ¬ keyR q = keyR r := fun z => e (keyR_inj z)
      have e2 : ¬ r = q := fun z => e z.symm
      rw [decide_eq_false ne]
      show Option.map (fun x => x.snd) (List.find? (fun kv => decide (kv.1 = keyR r)) (List.map (fun r => (keyR r, V.bl true)) F)) = _
      rw [ih]
      simp [e2]
theorem knownK_put {r : List Nat} {F : List (List Nat)} (h : ¬ r ∈ F) : putK (knownK F) (keyR r) (.bl true) = knownK (F ++ [r]) := by
  rw [putK_new _ (by rw [knownK_val, if_neg h])]
  unfold knownK
  rw [List.map_append]
  rfl
theorem knownK_len (F : List (List Nat)) : (knownK F).length = F.length := List.length_map ..
abbrev IsTold (H : Hp) (z : V) (t : Str × List Nat) : Prop := ∃ a q, z = .ref a ∧ H a = some (.tup [.str t.1, .ref q]) ∧ H q = some (.tup (iv t.2))
abbrev Tolds (H : Hp) (zs : List V) (T : List (Str × List Nat)) : Prop := Paired (IsTold H) zs T
theorem Tolds.mono {H H' : Hp} (e : Ex H H') : ∀ {zs : List V} {T : List (Str × List Nat)}, Tolds H zs T → Tolds H' zs T
  | _, _, .nil => .nil
  | _, _, .cons ⟨a, q, r, h1, h2⟩ t => .cons ⟨a, q, r, e _ _ h1, e _ _ h2⟩ (Tolds.mono e t)
theorem Tolds.but {p : Addr} {H H' : Hp} (e : ∀ b o, b ≠ p → H b = some o → H' b = some o) (np : ∀ l, H p ≠ some (.tup l)) : ∀ {zs : List V} {T : List (Str × List Nat)}, Tolds H zs T → Tolds H' zs T
  | _, _, .nil => .nil
  | _, _, .cons ⟨a, q, r, h1, h2⟩ t => .cons ⟨a, q, r, e _ _ (fun z => np _ (z ▸ h1)) h1, e _ _ (fun z => np _ (z ▸ h2)) h2⟩ (Tolds.but e np t)
abbrev IsPart (pk : Addr) (H : Hp) (z : V) (x : Nt) : Prop := ∃ a d, z = .ref a ∧ H a = some (.tup [.str x.nm, .int (x.n : Int), .ref d]) ∧ H d = some (.dT (kvs x.ds x.n)) ∧ d ≠ pk
abbrev Parts (pk : Addr) (H : Hp) (zs : List V) (L : List Nt) : Prop := Paired (IsPart pk H) zs L
theorem Parts.mono {pk : Addr} {H H' : Hp} (e : Ex H H') : ∀ {zs : List V} {L : List Nt}, Parts pk H zs L → Parts pk H' zs L
  | _, _, .nil => .nil
  | _, _, .cons ⟨a, q, r, h1, h2, h3⟩ t => .cons ⟨a, q, r, e _ _ h1, e _ _ h2, h3⟩ (Parts.mono e t)
theorem Parts.butL {pk p : Addr} {H H' : Hp} {l : List V} (e : ∀ b o, b ≠ p → H b = some o → H' b = some o) (np : H p = some (.lst l)) : ∀ {zs : List V} {L : List Nt}, Parts pk H zs L → Parts pk H' zs L
  | _, _, .nil => .nil
  | _, _, .cons ⟨a, q, r, h1, h2, h3⟩ t => .cons ⟨a, q, r, e _ _ (fun z => by rw [z, np] at h1; cases h1) h1, e _ _ (fun z => by rw [z, np] at h2; cases h2) h2, h3⟩ (Parts.butL e np t)
theorem Parts.butK {pk : Addr} {H H' : Hp} {kv : List (List Key × V)} (e : ∀ b o, b ≠ pk → H b = some o → H' b = some o) (np : H pk = some (.dT kv)) : ∀ {zs : List V} {L : List Nt}, Parts pk H zs L → Parts pk H' zs L
  | _, _, .nil => .nil
  | _, _, .cons ⟨a, q, r, h1, h2, h3⟩ t => .cons ⟨a, q, r, e _ _ (fun z => by rw [z, np] at h1; cases h1) h1, e _ _ h3 h2, h3⟩ (Parts.butK e np t)
/-- where the four of grown stand -/
structure Four (H0 : Hp) (pf pk pt pp : Addr) : Prop where
  f0 : H0 pf = none
  k0 : H0 pk = none
  t0 : H0 pt = none
  p0 : H0 pp = none
  ft : pf ≠ pt
  fp : pf ≠ pp
  tp : pt ≠ pp
/-- F1: in found, F2: in known -/
structure GSt (H0 H : Hp) (pf pk pt pp : Addr) (us : List V) (L : List Nt) (F1 F2 : List (List Nat)) (T : List (Str × List Nat)) : Prop where
  ex : Ex H0 H
  found : ∃ ys, H pf = some (.lst ys) ∧ Rows H ys F1
  known : H pk = some (.dT (knownK F2))
  told : ∃ zs, H pt = some (.lst zs) ∧ Tolds H zs T
  parts : H pp = some (.lst us) ∧ Parts pk H us L
section
variable {H0 H H' : Hp} {pf pk pt pp : Addr} {us : List V} {L : List Nt} {F1 F2 : List (List Nat)} {T : List (Str × List Nat)}
theorem GSt.mono (e : Ex H H') (G : GSt H0 H pf pk pt pp us L F1 F2 T) : GSt H0 H' pf pk pt pp us L F1 F2 T := by
  obtain ⟨g1, ⟨ys, h1, R⟩, h2, ⟨zs, h3, S⟩, ⟨h4, U⟩⟩ := G
  exact ⟨g1.trans e, ⟨ys, e _ _ h1, R.mono e⟩, e _ _ h2, ⟨zs, e _ _ h3, Tolds.mono e S⟩, ⟨e _ _ h4, Parts.mono e U⟩⟩
theorem upd_but {H : Hp} {p : Addr} {u : HO} : ∀ b o, b ≠ p → H b = some o → upd H p u b = some o := fun b o nb h => by rw [upd_ne nb]; exact h
theorem GSt.putKnown (W : Four H0 pf pk pt pp) (G : GSt H0 H pf pk pt pp us L F1 F2 T) {r : List Nat} (h : ¬ r ∈ F2) : GSt H0 (upd H pk (.dT (putK (knownK F2) (keyR r) (.bl true)))) pf pk pt pp us L F1 (F2 ++ [r]) T := by
  obtain ⟨g1, ⟨ys, h1, R⟩, h2, ⟨zs, h3, S⟩, ⟨h4, U⟩⟩ := G
  have nt : ∀ l, H pk ≠ some (.tup l) := fun l z => by rw [h2] at z; cases z
  have nl : ∀ {p l}, H p = some (.lst l) → p ≠ pk := fun {p l} h z => by rw [z, h2] at h; cases h
  exact ⟨Ex.mut g1 W.k0, ⟨ys, by rw [upd_ne (nl h1)]; exact h1, R.but upd_but nt⟩, by rw [upd_same, knownK_put h], ⟨zs, by rw [upd_ne (nl h3)]; exact h3, Tolds.but upd_but nt S⟩,
    ⟨by rw [upd_ne (nl h4)]; exact h4, Parts.butK upd_but h2 U⟩⟩
theorem GSt.putFound (W : Four H0 pf pk pt pp) (G : GSt H0 H pf pk pt pp us L F1 F2 T) {ys : List V} {y : V} {r : List Nat} (hy : H pf = some (.lst ys)) (R : Rows H ys F1) (hr : IsRow H y r) :
    GSt H0 (upd H pf (.lst (ys ++ [y]))) pf pk pt pp us L (F1 ++ [r]) F2 T := by
  obtain ⟨g1, _, h2, ⟨zs, h3, S⟩, ⟨h4, U⟩⟩ := G
  have nt : ∀ l, H pf ≠ some (.tup l) := fun l z => by rw [hy] at z; cases z
  have kf : pk ≠ pf := fun z => by rw [z, hy] at h2; cases h2
  refine ⟨Ex.mut g1 W.f0, ⟨_, upd_same, Rows.append (R.but upd_but nt) (.cons ?_ .nil)⟩, by rw [upd_ne kf]; exact h2, ⟨zs, by rw [upd_ne W.ft.symm]; exact h3, Tolds.but upd_but nt S⟩, ⟨by rw [upd_ne W.fp.symm]; exact h4, Parts.butL upd_but hy U⟩⟩
  obtain ⟨a, e, ha⟩ := hr
  exact ⟨a, e, upd_but _ _ (fun z => nt _ (z ▸ ha)) ha⟩
theorem GSt.putTold (W : Four H0 pf pk pt pp) (G : GSt H0 H pf pk pt pp us L F1 F2 T) {zs : List V} {z : V} {t : Str × List Nat} (hz : H pt = some (.lst zs)) (S : Tolds H zs T) (ht : IsTold H z t) :
    GSt H0 (upd H pt (.lst (zs ++ [z]))) pf pk pt pp us L F1 F2 (T ++ [t]) := by
  obtain ⟨g1, ⟨ys, h1, R⟩, h2, _, ⟨h4, U⟩⟩ := G
  have nt : ∀ l, H pt ≠ some (.tup l) := fun l z => by rw [hz] at z; cases z
  have kt : pk ≠ pt := fun z => by rw [z, hz] at h2; cases h2
  refine ⟨Ex.mut g1 W.t0, ⟨ys, by rw [upd_ne W.ft]; exact h1, R.but upd_but nt⟩, by rw [upd_ne kt]; exact h2, ⟨_, upd_same, paired_app (Tolds.but upd_but nt S) (.cons ?_ .nil)⟩, ⟨by rw [upd_ne W.tp.symm]; exact h4, Parts.butL upd_but hz U⟩⟩
  obtain ⟨a, q, e, h5, h6⟩ := ht
  exact ⟨a, q, e, upd_but _ _ (fun z => nt _ (z ▸ h5)) h5, upd_but _ _ (fun z => nt _ (z ▸ h6)) h6⟩
end
/-! ### the loops as functions -/
theorem newest_in {a c : Nat} {L : Nat → List (List Nat)} : True := True.intro
def growFrom (step : Nat → Grw → Grw) (most : Nat) : Nat → Nat → Grw → Grw
  | 0, _, g => g
  | k + 1, a, g => if a < g.F.length ∧ g.F.length ≤ most then growFrom step most k (a + 1) (step a g) else g
theorem growFrom_go {step : Nat → Grw → Grw} {most a : Nat} {g : Grw} (h : a < g.F.length ∧ g.F.length ≤ most) : growFrom step most (most + 1 - a) a g = growFrom step most (most + 1 - (a + 1)) (a + 1) (step a g) := by
  have e : most + 1 - a = (most + 1 - (a + 1)) + 1 := by omega
  rw [e]
  exact if_pos h
theorem growFrom_end {step : Nat → Grw → Grw} {most a : Nat} {g : Grw} (h : ¬ (a < g.F.length ∧ g.F.length ≤ most)) : ∀ k, growFrom step most k a g = g
  | 0 => rfl
  | _ + 1 => if_neg h
theorem rows_pick {H : Hp} {ys : List V} {F : List (List Nat)} (R : Rows H ys F) : ∀ {ix : List Nat}, (∀ k ∈ ix, k < F.length) → Rows H (ix.map fun k => ys.getD k .non) (ix.map fun k => F.getD k [])
  | [], _ => .nil
  | k :: ix, h => by
    have lt : k < ys.length := by rw [R.len]; exact h k List.mem_cons_self
    have at_k : ys[k]? = some ys[k] := List.getElem?_eq_getElem lt
    obtain ⟨r, hr, row⟩ := R.get at_k
    refine .cons ?_ (rows_pick R fun j hj => h j (List.mem_cons_of_mem _ hj))
    show IsRow H (ys.getD k .non) (F.getD k [])
    rw [List.getD_eq_getElem?_getD, at_k, List.getD_eq_getElem?_getD, hr]
    exact row
theorem ev_lenLs {K : PySem.W.Frag} {σ : L2.St} {H : Hp} {te : TE} {p : Addr} {xs : List V} (h : Ev te σ H (.ref p)) (hx : SqL K H p xs) :
    Ev (tCB (fun xs H Q => ∃ x n, xs = [x] ∧ LenV K x H n ∧ Q (.int (n : Nat)) H) (tCons te tNil)) σ H (.int (xs.length : Nat)) :=
  fun H1 e Q q => h H1 e _ fun H2 e2 => ⟨.ref p, xs.length, rfl, Or.inl ⟨xs, ex_l e2 (ex_l e hx), rfl⟩, q H2 e2⟩
/-- the reading of a dict comprehension over a list -/
theorem dc_list {K : PySem.W.Frag} {a : Addr} {xs : List V} {g : TG} {tk tv : TE} {vs : List Nat} {σ : L2.St} {H1 : Hp} {D : Addr} {Qd : Hp → Prop} (Pv : Nat → Hp → Prop)
    (h0 : Pv 0 (upd H1 D (.dT []))) (hq : ∀ i H, Pv i H → SqL K H a xs)
    (hs : ∀ (i : Nat) (x : V) (H : Hp), xs[i]? = some x → Pv i H → g x (wipe σ vs) H fun σ2 H2 => wipe σ2 vs = wipe σ vs ∧ tk σ2 H2 fun u H4 => tv σ2 H4 fun z H5 =>
      ∃ kv k b, u = .ref b ∧ H5 b = some (.tup (List.map kV k)) ∧ H5 D = some (.dT kv) ∧ kv.length < sizeLine ∧ Pv (i + 1) (upd H5 D (.dT (putK kv k z))))
    (hd : ∀ H, Pv xs.length H → Qd H) :
    ∃ W : Nat → Nat → Hp → Prop, (∃ m, W 0 m (upd H1 D (.dT []))) ∧ ∀ i m H, W i m H →
      ((Itl K a).stop i H ∧ Qd H) ∨ ((Itl K a).go i H ∧ ∃ Nx : Hp → Prop, (∀ H', Nx H' → ∃ m', m' < m ∧ W (i + 1) m' H') ∧ ∀ x H', (Itl K a).yld i H x H' → g x (wipe σ vs) H' fun σ2 H2 => wipe σ2 vs = wipe σ vs ∧
        tk σ2 H2 fun u H4 => tv σ2 H4 fun z H5 => ∃ kv k b, u = .ref b ∧ H5 b = some (.tup (List.map kV k)) ∧ H5 D = some (.dT kv) ∧ kv.length < sizeLine ∧ Nx (upd H5 D (.dT (putK kv k z)))) := by
  refine ⟨fun i m H => m = xs.length - i ∧ i ≤ xs.length ∧ Pv i H, ⟨_, rfl, Nat.zero_le _, h0⟩, ?_⟩
  rintro i m H ⟨rfl, le, p⟩
  have here := hq i H p
  have wl := walk_list (K := K) (a := a) (xs := xs)
  rcases Nat.lt_or_ge i xs.length with lt | ge
  · refine Or.inr ⟨wl.goes i H lt here, Pv (i + 1), fun H' p' => ⟨xs.length - (i + 1), by omega, rfl, lt, p'⟩, ?_⟩
    intro v H' y
    obtain ⟨rfl, hx⟩ := wl.yields i H v H' lt here y
    exact hs i v _ hx p
  · have e : i = xs.length := by omega
    rw [e] at p ⊢
    exact Or.inl ⟨wl.stops H (hq _ _ p), hd H p⟩
end Tv

namespace Tv
open PySem PySem.Spec PyProof.Rows L2 Evl
/-! ### tables of one place sorted as texts -/
def untab (x : Str) : List Nat := x.cps.toList.map (· - 48)
theorem untab_tab (r : List Nat) : untab (tab r) = r := by
  unfold untab
  rw [tab_cps, List.map_map]
  conv => rhs; rw [← List.map_id r]
  exact List.map_congr_left fun a _ => by show 48 + a - 48 = a; omega
theorem lt3_getD {ds : List Nat} (h : ∀ d ∈ ds, d < 3) (i : Nat) : ds.getD i 0 < 3 := by
  rw [List.getD_eq_getElem?_getD]
  cases e : ds[i]? with
  | none => decide
  | some d => exact h d (List.mem_of_getElem? e)
theorem tab_inj {a b : List Nat} (h : tab a = tab b) : a = b := by rw [← untab_tab a, ← untab_tab b, h]
theorem lt3_all : ∀ a ∈ tups 3, ∀ b ∈ tups 3, ltCps (tab b).cps.toList (tab a).cps.toList = decide (num b < num a) := by decide +kernel
theorem tups3_mem {r : List Nat} (l : r.length = 3) (d : ∀ a ∈ r, a < 3) : r ∈ tups 3 := by
  have t := tup_num (n := 3) (by decide) (by decide) l d
  have lt := num_lt 3 r l d
  rw [← t]
  unfold tupI
  rw [List.getD_eq_getElem?_getD, List.getElem?_eq_getElem (by rw [(tups_ok 3 (by decide)).1]; exact lt)]
  exact List.getElem_mem _
theorem rising3 : ∀ (L : List (List Nat)) (p : List Nat), Wid 3 (p :: L) → risingS (tab p) (L.map tab) = true → (p :: L).Pairwise (fun a b => num a ≤ num b)
  | [], p, _, _ => by simp
  | x :: L, p, W, h => by
    obtain ⟨p1, p2⟩ := W p List.mem_cons_self
    obtain ⟨x1, x2⟩ := W x (by simp)
    have lx := lt3_all p (tups3_mem p1 p2) x (tups3_mem x1 x2)
    rw [List.map_cons] at h
    unfold risingS at h
    rw [lx] at h
    by_cases c : num x < num p
    · rw [decide_eq_true c] at h
      simp at h
    · rw [decide_eq_false c] at h
      have h2 : risingS (tab x) (L.map tab) = true := by simpa using h
      have ih := rising3 L x (fun r hr => W r (List.mem_cons_of_mem _ hr)) h2
      obtain ⟨i1, i2⟩ := List.pairwise_cons.mp ih
      refine List.pairwise_cons.mpr ⟨fun b hb => ?_, ih⟩
      rcases List.mem_cons.mp hb with rfl | hb
      · omega
      · have := i1 b hb
        omega
theorem sorted3 {F : List (List Nat)} {ys : List Str} (W : Wid 3 F) (pm : ys.Perm (F.map tab)) (so : sortedS ys = true) : ys = (sortN F).map tab := by
  have e : ys = (ys.map untab).map tab := by
    rw [List.map_map]
    conv => lhs; rw [← List.map_id ys]
    refine List.map_congr_left fun y hy => ?_
    obtain ⟨r, _, rfl⟩ := List.mem_map.mp (pm.mem_iff.mp hy)
    show tab r = tab (untab (tab r))
    rw [untab_tab]
  have pm2 : (ys.map untab).Perm F := by
    have := pm.map untab
    rw [List.map_map] at this
    have e2 : F.map (untab ∘ tab) = F := by
      conv => rhs; rw [← List.map_id F]
      exact List.map_congr_left fun r _ => untab_tab r
    rw [e2] at this
    exact this
  have W2 : Wid 3 (ys.map untab) := fun r hr => W r (pm2.mem_iff.mp hr)
  rw [e] at so ⊢
  congr 1
  refine sort_one W pm2 ?_
  generalize ys.map untab = L at so W2
  cases L with
  | nil => exact List.Pairwise.nil
  | cons p L => exact rising3 L p W2 so
theorem s_retLP {σ : L2.St} {H : Hp} {D : Ends} {ta tb : TE} {xs : List V} {v : V} (h1 : EvL ta σ H xs) (h2 : Ev tb σ H v) (k : ∀ p l H1, H l = none → H p = none → Ex H H1 → H1 l = some (.lst xs) → H1 p = some (.tup [.ref l, v]) → D.rt (.ref p) H1) :
    tRet (tTup (tCons ta (tCons tb tNil))) D σ H := h1 H (Ex.refl H) _ fun l H1 hl e1 hx => h2 H1 e1 _ fun H2 e2 => ⟨by show 2 ≤ sizeLine; decide, fun p hp =>
  k p l _ hl (fresh_back (e1.trans e2) hp) ((e1.trans e2).trans (Ex.new hp)) (Ex.new hp _ _ (e2 _ _ hx)) upd_same⟩
end Tv

namespace Tv
open PySem PySem.Spec PyProof.Rows L2 Evl
/-! ### a box's text, and read again -/
def textOf (L : List Nt) : Str := Txt.join (Str.ofString "\n") (L.map (·.row))
theorem rowsV_eq (L : List Nt) : rowsV L = (L.map (·.row)).map V.str := by
  unfold rowsV
  rw [List.map_map]
  rfl
theorem row_noLine {x : Nt} (h : x.Ok) : 10 ∉ x.row.cps.toList := fun m => by
  unfold Nt.row at m
  have e : ∀ a b : Str, (a ++ b).cps.toList = a.cps.toList ++ b.cps.toList := fun a b => TL.tl_append a b
  rw [e, e, List.mem_append, List.mem_append] at m
  rcases m with (m | m) | m
  · have := (h.name.lets 10 m).1
    omega
  · have : (10 : Nat) ∈ [32] := m
    simp at this
  · rw [tab_cps] at m
    obtain ⟨d, _, hd⟩ := List.mem_map.mp m
    omega
theorem text_split {L : List Nt} (ok : ∀ x ∈ L, x.Ok) (ne : L ≠ []) : Txt.split (textOf L) (Str.ofString "\n") = L.map (·.row) :=
  TL.split_join (s := 10) (S := []) rfl (by decide +kernel) (fun e => ne (List.map_eq_nil_iff.mp e)) fun p hp => by
    obtain ⟨x, hx, rfl⟩ := List.mem_map.mp hp
    exact row_noLine (ok x hx)
theorem rows_sum {L : List Nt} (ok : ∀ x ∈ L, x.Ok) : ((L.map (·.row)).map (·.length)).sum ≤ 40 * L.length := by
  induction L with
  | nil => simp
  | cons x L ih =>
    have := ih fun y hy => ok y (List.mem_cons_of_mem _ hy)
    have := row_len (ok x List.mem_cons_self)
    simp only [List.map_cons, List.sum_cons, List.length_cons]
    omega
theorem joinL_len : ∀ l : List (List Nat), (TL.joinL [10] l).length ≤ (l.map (·.length)).sum + l.length ∧ (∀ p r, l = p :: r → p.length ≤ (TL.joinL [10] l).length)
  | [] => ⟨by simp [TL.joinL], fun p r h => nomatch h⟩
  | [p] => ⟨by simp [TL.joinL], fun q r h => by cases h; simp [TL.joinL]⟩
  | p :: q :: r => by
    obtain ⟨a, _⟩ := joinL_len (q :: r)
    have e : TL.joinL [10] (p :: q :: r) = p ++ ([10] ++ TL.joinL [10] (q :: r)) := rfl
    refine ⟨?_, fun x y h => ?_⟩
    · rw [e, List.length_append, List.length_append]
      simp only [List.map_cons, List.sum_cons, List.length_cons, List.length_nil] at a ⊢
      omega
    · cases h
      rw [e, List.length_append]
      omega
theorem text_len {L : List Nt} (ok : Oks L) : (textOf L).length ≤ 300 ∧ (L ≠ [] → 1 ≤ (textOf L).length) := by
  have e : (textOf L).length = (TL.joinL [10] ((L.map (·.row)).map TL.tl)).length := by
    unfold textOf
    rw [TL.join_eq]
    have := congrArg List.length (TL.tl_join (Str.ofString "\n") (L.map (·.row)))
    have e2 : TL.tl (Str.ofString "\n") = [10] := rfl
    rw [e2] at this
    rw [← this]
    show _ = (Str.join (Str.ofString "\n") (L.map (·.row))).cps.toList.length
    rw [Array.length_toList]
    rfl
  have lens : (((L.map (·.row)).map TL.tl).map (·.length)) = (L.map (·.row)).map (·.length) := by
    rw [List.map_map]
    refine List.map_congr_left fun x _ => ?_
    show x.cps.toList.length = x.length
    rw [Array.length_toList]
    rfl
  obtain ⟨a, b⟩ := joinL_len ((L.map (·.row)).map TL.tl)
  have s := rows_sum ok.ok
  have f := ok.few
  rw [e]
  refine ⟨?_, fun ne => ?_⟩
  · rw [lens, List.length_map, List.length_map] at a
    omega
  · cases L with
    | nil => exact absurd rfl ne
    | cons x L =>
      have := b (TL.tl x.row) _ rfl
      refine Nat.le_trans ?_ this
      show 1 ≤ x.row.cps.toList.length
      rw [Array.length_toList]
      show 1 ≤ x.row.length
      unfold Nt.row
      rw [strs_len, strs_len]
      have := (ok.ok x List.mem_cons_self).name.some_
      omega
section
variable {K : PySem.W.Frag} {C : Addr} {σ : L2.St} {H : Hp} {ta tb te to : TE} {t : TT} {tA : TA}
theorem el_if {b : Bool} {xs : List V} (h : EvT t σ H b) (h1 : b = true → EvL ta σ H xs) (h2 : b = false → EvL tb σ H xs) : EvL (tIf t ta tb) σ H xs := fun H1 e Q q => h H1 e _ fun H2 e2 => by
  cases b with
  | true => exact h1 rfl H2 (e.trans e2) _ fun p H3 hp e3 h3 => q p H3 (fresh_back e2 hp) (e2.trans e3) h3
  | false => exact h2 rfl H2 (e.trans e2) _ fun p H3 hp e3 h3 => q p H3 (fresh_back e2 hp) (e2.trans e3) h3
theorem ev_joinP {a : Str} {p : Addr} {ys : List Str} (h1 : Ev to σ H (.str a)) (h2 : Ev te σ H (.ref p)) (hp : SqL K H p (ys.map V.str)) (z : (ys.map (·.length)).sum + ys.length * a.length ≤ 16777216) :
    Ev (tM1 (rJoin K) to te) σ H (.str (Txt.join a ys)) := fun H1 e Q q => h1 H1 e _ fun H2 e2 => ⟨⟨_, rfl⟩, h2 H2 (e.trans e2) _ fun H3 e3 => ⟨a, p, ys, rfl, rfl, Or.inl (ex_l ((e.trans e2).trans e3) hp), z, q H3 (e2.trans e3)⟩⟩
theorem eb_makeL {i : Nat} {L : List Nt} (ok : Oks L) (h : EvA tA σ H (rowsV L)) (hC : σ[i]? = some (some (.ref C))) : EvBox C (tAtC i C (tMakeG C (spBoxed C) tA)) σ H L := fun H1 e Q q => ⟨hC, eb_make ok h H1 e Q q⟩
theorem s_retBox {D : Ends} {L : List Nt} (h : EvBox C te σ H L) (k : ∀ a H1, Ex H H1 → BoxAt C H1 a L → D.rt (.ref a) H1) : tRet te D σ H := h H (Ex.refl H) _ fun a H1 e B => k a H1 e B
theorem el_split {x : Str} {ys : List Str} (h : Ev te σ H (.str x)) (e1 : Txt.split x (Str.ofString "\n") = ys) (z : x.length ≤ 1000) :
    EvL (tBM K "str" (fun x xs H Q => ∃ a b, x = .str a ∧ xs = [.str b] ∧ (b.length == 0) = false ∧ a.length + 2 ≤ sizeLine ∧ rNewStrs (Txt.split a b) H Q) te (tCons (tC (.str (Str.ofString "\n"))) tNil)) σ H (ys.map V.str) := fun H1 e Q q =>
  h H1 e _ fun H2 e2 => ⟨rfl, x, Str.ofString "\n", rfl, rfl, rfl, Nat.le_trans (by omega : x.length + 2 ≤ 1002) (by decide), fun p hp => by
    rw [e1]
    exact q p _ (fresh_back e2 hp) (e2.trans (Ex.new hp)) upd_same⟩
/-- try: return C( *rows) except X: (never reached) -/
theorem ps_tryMake {X : Cx} {k i j : Nat} {C : Addr} {sp : Sp} {x y nm : Str} {c : Value} {p py sp_ pos1 pos2 np pos pos' : Pos} {b₀ : Stmt} (hs : X.stack = X.env :: X.outer) (hf : X.env.frame = some X.env.locals) (hc : Names X nm c)
    (D : MakeG X.prog X.w X.K X.mg X.base C k sp) (hr : Room (k + 1) X.A) (gd : X.A.guards = some []) (hN : X.N[i]? = some x) (hv : Vis X.env.scope x) (hN2 : X.N[j]? = some y) (hv2 : Vis X.env.scope y)
    (hdb : (x == ("__debug__" : Str)) = false := by decide) (hcd : (x == ("__classdict__" : Str)) = false := by decide) (hdb2 : (y == ("__debug__" : Str)) = false := by decide) (hcd2 : (y == ("__classdict__" : Str)) = false := by decide) :
    PS X (.Try [.Return (some (.Call (.Name x p) [.Starred (.Name y py) sp_] [] pos1)) pos2] [.ExceptHandler (some (.Name nm np)) none [b₀] pos'] [] [] pos) (tRet (tAtC i C (tMakeG C sp (tStarA X.K (tVar j))))) :=
  ps_try_only (tb := fun _ => tRet (tAtC i C (tMakeG C sp (tStarA X.K (tVar j))))) hs hf hc takes0
    (fun W pn xe tk _ => pss_one (ps_ret (pe_makeXL (X := X.tr pn xe) D hr gd i hN hv (pe_var (X := X.tr pn xe) hN2 hv2 hdb2 hcd2) hdb hcd rfl)))
    (fun a oe cls d pn _ _ => pss_one ps_never)
/-- read's promise -/
def spRead (C : Addr) : Sp := fun vs H Q _ => ∃ L : List Nt, Oks L ∧ vs = [.ref C, .str (textOf L)] ∧ ∀ a H', Ex H H' → BoxAt C H' a L → Q (.ref a) H'
theorem eb_read {L : List Nt} (ok : Oks L) (h : Ev te σ H (.str (textOf L))) (hc : Ev to σ H (.ref C)) : EvBox C (tCMethG C (spRead C) to (tCons te tNil)) σ H L := fun H1 e Q q =>
  hc H1 e _ fun H2 e2 => ⟨rfl, h H2 (e.trans e2) _ fun H3 e3 => ⟨L, ok, rfl, fun a H4 e4 B => q a H4 ((e2.trans e3).trans e4) B⟩⟩
end
end Tv

namespace Tv
open PySem PySem.Spec PyProof.Rows L2 Evl
/-! ### sorted(t), t a tuple of texts -/
def rSortedST (K : PySem.W.Frag) : List V → Hp → VK → Prop := fun vs H Q => ∃ (a : Addr) (xs : List Str), vs = [V.ref a] ∧ SqT K H a (xs.map V.str) ∧ xs.length < 64 ∧
  ∀ (ys : List Str) (p : Addr), ys.Perm xs → sortedS ys = true → H p = none → Q (.ref p) (upd H p (.lst (ys.map V.str)))
theorem cr_sortedST {X : Cx} : CallR X (.builtin "sorted") (rSortedST X.K) := by
  intro pins s σ H vs us Q I r h
  obtain ⟨a, xs, rfl, hT, few, q⟩ := h
  obtain ⟨its, rv, ⟨⟨cls, dd, dat, sl⟩, at_a, hc, n, hd⟩, _⟩ := I.tuple hT
  simp only at hc hd
  subst hc hd
  rw [Vals.ref1 r]
  have are := rv.strs
  have many := rv.length
  rw [List.length_map] at many
  have few' : its.length < 64 := by omega
  refine Calls.call_function_entry kind_sorted plain_sorted entry_sorted (args_sorted1 _) ?_
  unfold Builtin.«sorted»
  refine wpAny_bind (m := checkCount "sorted" 1 1 _) (wpAny_pure (wpAny_bind ?_))
  refine wpAny_collect_seq a (.inr rfl) at_a rfl rfl (fun h1 keep => ?_) (by rw [List.size_toArray]; exact Nat.le_of_lt (Nat.lt_of_lt_of_le few' (by decide)))
  refine wpAny_bind (wpAny_newList ?_)
  have at_l : (h1.push (seqObj "list" its.toArray 0)).get? h1.objs.size = some (seqObj "list" its.toArray 0) := Heap.get?_push_size _ rfl
  refine wpAny_bind (wpAny_holding (wpAny_call_entry slot_list_sort ⟨_, at_l, rfl⟩ entry_list_sort (list_sort_treeK strKind_oneLt at_l are.keysOf (fun v₁ v₂ rest e => keyKind_strs (by rw [← e]; exact are)) few' fun st' hp hs => ⟨_, rfl, ?_⟩) (args_list_sort _)))
  obtain ⟨ss', o1, o2, o3⟩ := sorted_out_str are hp hs
  have I1 : Inv X pins σ H { s with heap := h1 } := I.kept (t' := s.toks) keep
  have small : (ss'.map V.str).length ≤ sizeLine := by
    rw [List.length_map, o2.length_eq]
    exact Nat.le_of_lt (Nat.lt_of_lt_of_le few (by decide))
  obtain ⟨ep, at_s⟩ := sortedHeap_at (out := Array.map Prod.snd (arrOf st')) (n := 0) at_l
  refine wpAny_pure ⟨_, rfl, .ref h1.objs.size, upd H h1.objs.size (.lst (ss'.map V.str)), ?_, rfl, q ss' _ o2 o3 (I1.hok.fresh (Nat.le_refl _))⟩
  generalize eo : Array.map Prod.snd (arrOf st') = out at at_s o1
  refine I1.laid (t' := s.toks) (h' := sortedHeap (h1.push (seqObj "list" its.toArray 0)) h1.objs.size its out) (o := .lst (ss'.map V.str)) (fun b o e => ?_) (Nat.le_refl _) ⟨small, out.toList, ep, vals_of_strs o1, at_s⟩
  have lt := Heap.lt_size e
  rw [sortedHeap_old (Nat.ne_of_lt lt) (by rw [Heap.size_push]; exact Nat.lt_succ_of_lt lt)]
  exact Heap.get?_push_of_some _ e
/-! ### texts as data -/
def dS (F : List (List Nat)) : List PyData := F.map fun r => PyData.str (tab r)
theorem dp_texts {K : PySem.W.Frag} {H : Hp} : ∀ F : List (List Nat), DpAll K H (F.map fun r => V.str (tab r)) (dS F)
  | [] => .nil
  | _ :: F => .cons (.str _) (dp_texts F)
theorem tab_strOk {r : List Nat} (h : ∀ a ∈ r, a < 3) : PyData.canLay0 (.str (tab r)) = true := by
  show PySem.PyData.strOk (tab r) = true
  unfold PySem.PyData.strOk
  rw [← Array.all_toList, tab_cps, List.all_eq_true]
  intro c hc
  obtain ⟨d, hd, rfl⟩ := List.mem_map.mp hc
  have := h d hd
  exact decide_eq_true (by omega)
theorem dS_lay : ∀ F : List (List Nat), (∀ r ∈ F, ∀ a ∈ r, a < 3) → PyData.canLayAll0 (dS F) = true ∧ PyData.depthAll (dS F) = 0
  | [], _ => ⟨rfl, rfl⟩
  | r :: F, h => by
    obtain ⟨h1, h2⟩ := dS_lay F fun q hq => h q (List.mem_cons_of_mem _ hq)
    constructor
    · show (PyData.canLay0 (.str (tab r)) && PyData.canLayAll0 (dS F)) = true
      rw [h1, tab_strOk (h r List.mem_cons_self)]
      rfl
    · show max 0 (PyData.depthAll (dS F)) = 0
      rw [h2]
      rfl
theorem dS_shaped {F : List (List Nat)} (h : ∀ r ∈ F, ∀ a ∈ r, a < 3) : SeqAt.shaped (.list (dS F)) = true ∧ SeqAt.shaped (.tuple (dS F)) = true := by
  obtain ⟨h1, h2⟩ := dS_lay F h
  constructor
  · unfold SeqAt.shaped
    rw [Bool.and_eq_true]
    refine ⟨h1, decide_eq_true ?_⟩
    unfold PyData.depth
    rw [h2]
    decide
  · unfold SeqAt.shaped
    rw [Bool.and_eq_true]
    refine ⟨h1, decide_eq_true ?_⟩
    unfold PyData.depth
    rw [h2]
    decide
theorem dS_eqv : ∀ A B : List (List Nat), PyData.eqvAll (dS A) (dS B) = decide (A = B)
  | [], [] => rfl
  | [], _ :: _ => rfl
  | _ :: _, [] => rfl
  | a :: A, b :: B => by
    have ih := dS_eqv A B
    unfold dS at ih ⊢
    rw [List.map_cons, List.map_cons]
    show ((tab a == tab b) && PyData.eqvAll _ _) = _
    rw [ih]
    by_cases e : a = b
    · subst e
      simp
    · have : (tab a == tab b) = false := beq_eq_false_iff_ne.mpr fun z => e (tab_inj z)
      rw [this]
      simp [e]
theorem wid_sorted {F : List (List Nat)} (W : Wid 3 F) : sortN (sortN F) = sortN F := (sort_one (L := sortN F) (fun r hr => W r ((sortN_perm F).mem_iff.mp hr)) (List.Perm.refl _) (sortN_sorted F)).symm
/-! ### evaluations -/
section
variable {K : PySem.W.Frag} {σ : L2.St} {H : Hp} {ta te : TE}
theorem el_sortedST {t : Addr} {xs zs : List Str} (h : Ev te σ H (.ref t)) (ht : SqT K H t (xs.map V.str)) (few : xs.length < 64) (hz : ∀ ys : List Str, ys.Perm xs → sortedS ys = true → ys = zs) :
    EvL (tCB (rSortedST K) (tCons te tNil)) σ H (zs.map V.str) := fun H1 e Q q => h H1 e _ fun H2 e2 =>
  ⟨t, xs, rfl, ex_t (e.trans e2) ht, few, fun ys p pm so hp => by
    obtain rfl := hz ys pm so
    exact q p _ (fresh_back e2 hp) (e2.trans (Ex.new hp)) upd_same⟩
theorem el_listT {t : Addr} {xs : List V} (h : Ev te σ H (.ref t)) (ht : SqT K H t xs) :
    EvL (tCB (fun xs H Q => ∃ p ys, xs = [.ref p] ∧ (SqL K H p ys ∨ SqT K H p ys) ∧ ∀ l, H l = none → Q (.ref l) (upd H l (.lst ys))) (tCons te tNil)) σ H xs := fun H1 e Q q => h H1 e _ fun H2 e2 =>
  ⟨t, xs, rfl, Or.inr (ex_t (e.trans e2) ht), fun l hl => q l _ (fresh_back e2 hl) (e2.trans (Ex.new hl)) upd_same⟩
theorem ev_lenSt {p : Addr} {xs : List V} (h : Ev te σ H (.ref p)) (hx : SqT K H p xs) :
    Ev (tCB (fun xs H Q => ∃ x n, xs = [x] ∧ LenV K x H n ∧ Q (.int (n : Nat)) H) (tCons te tNil)) σ H (.int (xs.length : Nat)) :=
  fun H1 e Q q => h H1 e _ fun H2 e2 => ⟨.ref p, xs.length, rfl, Or.inr ⟨xs, ex_t (e.trans e2) hx, rfl⟩, q H2 e2⟩
theorem el_slN {tl th : TO} {xs : List V} {lo hi : Option Int} (h : EvL te σ H xs) (h1 : EvO tl σ H lo) (h2 : EvO th σ H hi) : EvL (tSl (rSlL K) te tl th) σ H (cutV xs lo hi) := fun H1 e Q q =>
  h H1 e _ fun p H2 hp e2 hx => h1 H2 (e.trans e2) _ fun H3 e3 => h2 H3 ((e.trans e2).trans e3) _ fun H4 e4 =>
    ⟨p, xs, rfl, sq_of (e4 _ _ (e3 _ _ hx)), fun l hl => q l _ (fresh_back ((e2.trans e3).trans e4) hl) (((e2.trans e3).trans e4).trans (Ex.new hl)) upd_same⟩
theorem cut_take {xs : List V} (k : Nat) : cutV xs none (some (k : Int)) = xs.take k := by
  unfold cutV
  rw [HT.sIx_none, HT.sIx_nat, List.drop_zero, Nat.sub_zero]
  by_cases h : k ≤ xs.length
  · rw [Nat.min_eq_left h]
  · rw [Nat.min_eq_right (by omega), List.take_length, List.take_of_length_le (by omega)]
theorem ev_inU {neg : Bool} {x : V} {xs : List V} (ha : Ev ta σ H x) (h : EvU te σ H xs) (hx : flatV x = true) (hf : xs.all flatV = true) : Ev (tOp (rIn K neg) ta te) σ H (.bl (if neg then !inV x xs else inV x xs)) := fun H1 e Q q =>
  ha H1 e _ fun H2 e2 => h H2 (e.trans e2) _ fun p H3 _ e3 hp => rv_inT (SqT.of hp) hx hf H3 (Ex.refl _) _ fun H4 e4 => q H4 ((e2.trans e3).trans e4)
theorem ev_addS {x y : Str} (ha : Ev ta σ H (.str x)) (hb : Ev te σ H (.str y)) (few : x.length + y.length ≤ sizeLine) : Ev (tOp (fun x y H Q => ∃ i j, x = .str i ∧ y = .str j ∧ i.length + j.length ≤ sizeLine ∧ Q (.str (i ++ j)) H) ta te) σ H (.str (x ++ y)) := fun H1 e Q q =>
  ha H1 e _ fun H2 e2 => hb H2 (e.trans e2) _ fun H3 e3 => ⟨x, y, rfl, rfl, few, q H3 (e2.trans e3)⟩
theorem evd_tupT {F : List (List Nat)} (h : EvU te σ H (F.map fun r => V.str (tab r))) : EvD K te σ H (.tuple (dS F)) := fun H1 e Q q => h H1 e _ fun p H2 _ e2 hp => q _ H2 e2 (.tup (st_of hp) (dp_texts F))
theorem evd_lstT {F : List (List Nat)} (h : EvL te σ H (F.map fun r => V.str (tab r))) : EvD K te σ H (.list (dS F)) := fun H1 e Q q => h H1 e _ fun p H2 _ e2 hp => q _ H2 e2 (.lst (sq_of hp) (dp_texts F))
theorem dp_tupT {t : Addr} {F : List (List Nat)} (h : SqT K H t (F.map fun r => V.str (tab r))) : Dp K H (.ref t) (.tuple (dS F)) := .tup h (dp_texts F)
theorem et_sameD {d : PyData} {tb : TE} (h1 : EvD K ta σ H d) (h2 : EvD K tb σ H d) (s : SeqAt.shaped d = true) : EvT (tTest (tOp (rNeD K) ta tb)) σ H false := fun H1 e Q q =>
  h1 H1 e _ fun v H2 e2 dv => h2 H2 (e.trans e2) _ fun w H3 e3 dw => ⟨d, d, dp_mono e3 dv, dw, s, s, by
    rw [SeqAt.eqv_refl d (SeqAt.canLay_of_shaped s)]
    exact ⟨_, rfl, q H3 (e2.trans e3)⟩⟩
end
end Tv

namespace Tv
open PySem PySem.Spec PyProof.Rows L2 Evl
/-! ### data that repr takes, with a bound -/
structure Nice (n k : Nat) (d : PyData) : Prop where
  len : d.shown.length ≤ n
  ok : d.showable = true
  nd : d.hasDict = false
  dep : d.depth ≤ k
theorem Nice.mono {n m k l : Nat} {d : PyData} (h : Nice n k d) (a : n ≤ m) (b : k ≤ l) : Nice m l d := ⟨Nat.le_trans h.len a, h.ok, h.nd, Nat.le_trans h.dep b⟩
theorem nice_all {n k : Nat} : ∀ ds : List PyData, (∀ d ∈ ds, Nice n k d) → PyData.showableAll ds = true ∧ PyData.hasDictAll ds = false ∧ PyData.depthAll ds ≤ k
  | [], _ => ⟨rfl, rfl, Nat.zero_le _⟩
  | d :: r, h => by
    obtain ⟨a, b, c⟩ := nice_all r fun x hx => h x (List.mem_cons_of_mem _ hx)
    have h1 := h d List.mem_cons_self
    refine ⟨?_, ?_, ?_⟩
    · show (d.showable && PyData.showableAll r) = true
      rw [h1.ok, a]; rfl
    · show (d.hasDict || PyData.hasDictAll r) = false
      rw [h1.nd, b]; rfl
    · show max d.depth (PyData.depthAll r) ≤ k
      have := h1.dep
      omega
theorem nice_list {n k m : Nat} {ds : List PyData} (h : ∀ d ∈ ds, Nice n k d) (few : ds.length ≤ m) : Nice ((n + 2) * m + 4) (k + 1) (.list ds) := by
  obtain ⟨a, b, c⟩ := nice_all ds h
  have h1 := piled_le n ds fun d hd => (h d hd).len
  have h2 := list_len (PyData.shownAll ds)
  have h4 : (n + 2) * ds.length ≤ (n + 2) * m := Nat.mul_le_mul_left _ few
  refine ⟨?_, a, b, ?_⟩
  · show (listText (PyData.shownAll ds)).length ≤ _
    omega
  · show PyData.depthAll ds + 1 ≤ k + 1
    omega
theorem nice_tuple {n k m : Nat} {ds : List PyData} (h : ∀ d ∈ ds, Nice n k d) (few : ds.length ≤ m) : Nice ((n + 2) * m + 4) (k + 1) (.tuple ds) := by
  obtain ⟨a, b, c⟩ := nice_all ds h
  have h1 := piled_le n ds fun d hd => (h d hd).len
  have h2 := tuple_len (PyData.shownAll ds)
  have h4 : (n + 2) * ds.length ≤ (n + 2) * m := Nat.mul_le_mul_left _ few
  refine ⟨?_, a, b, ?_⟩
  · show (tupleText (PyData.shownAll ds)).length ≤ _
    omega
  · show PyData.depthAll ds + 1 ≤ k + 1
    omega
theorem nice_str {x : Str} {m : Nat} (h : ∀ c ∈ x.cps.toList, c < 16 ^ 8) (few : x.length ≤ m) : Nice (10 * m + 2) 0 (.str x) := by
  refine ⟨?_, rfl, rfl, Nat.le_refl 0⟩
  have := StrLaws.reprText_len x h
  show (reprText x).length ≤ _
  omega
theorem nice_tab {ds : List Nat} {n : Nat} (T : IsTab ds n) : Nice 272 0 (.str (tab ds)) := by
  refine (nice_str (m := 27) (fun c hc => ?_) (by rw [tab_len]; have := T.small; omega)).mono (by decide) (Nat.le_refl _)
  rw [tab_cps] at hc
  obtain ⟨d, hd, rfl⟩ := List.mem_map.mp hc
  have := T.dig d hd
  exact Nat.lt_of_lt_of_le (by omega : 48 + d < 100) (by decide)
theorem nice_none : Nice 4 0 .none := ⟨(by decide +kernel : PyData.none.shown.length ≤ 4), rfl, rfl, Nat.le_refl 0⟩
theorem Nice.fine {n k : Nat} {d : PyData} (h : Nice n k d) (k20 : k ≤ 20) (z : n ≤ 16777216) : Fine d := ⟨h.ok, h.nd, Nat.le_trans h.dep k20, Nat.le_trans h.len (Nat.le_trans z (by decide))⟩
theorem Nice.two {n k : Nat} {d : PyData} (h : Nice n k d) (k20 : k ≤ 19) (z : n ≤ 8000000) : Fine (.list [d, d]) := by
  refine (nice_list (n := n) (k := k) (m := 2) (ds := [d, d]) (fun e he => ?_) (Nat.le_refl 2)).fine (by omega) (by omega)
  rcases List.mem_cons.mp he with rfl | he
  · exact h
  · rw [List.mem_singleton.mp he]; exact h
/-! ### texts as data -/
def dT (ss : List Str) : List PyData := ss.map PyData.str
theorem dpX {K : PySem.W.Frag} {H : Hp} : ∀ ss : List Str, DpAll K H (ss.map V.str) (dT ss)
  | [] => .nil
  | _ :: F => .cons (.str _) (dpX F)
theorem dT_lay : ∀ ss : List Str, (∀ s ∈ ss, PyData.canLay0 (.str s) = true) → PyData.canLayAll0 (dT ss) = true ∧ PyData.depthAll (dT ss) = 0
  | [], _ => ⟨rfl, rfl⟩
  | r :: F, h => by
    obtain ⟨h1, h2⟩ := dT_lay F fun q hq => h q (List.mem_cons_of_mem _ hq)
    constructor
    · show (PyData.canLay0 (.str r) && PyData.canLayAll0 (dT F)) = true
      rw [h1, h r List.mem_cons_self]
      rfl
    · show max 0 (PyData.depthAll (dT F)) = 0
      rw [h2]
      rfl
theorem dT_shaped {ss : List Str} (h : ∀ s ∈ ss, PyData.canLay0 (.str s) = true) : SeqAt.shaped (.list (dT ss)) = true ∧ SeqAt.shaped (.tuple (dT ss)) = true := by
  obtain ⟨h1, h2⟩ := dT_lay ss h
  constructor
  · unfold SeqAt.shaped
    rw [Bool.and_eq_true]
    refine ⟨h1, decide_eq_true ?_⟩
    unfold PyData.depth
    rw [h2]
    decide
  · unfold SeqAt.shaped
    rw [Bool.and_eq_true]
    refine ⟨h1, decide_eq_true ?_⟩
    unfold PyData.depth
    rw [h2]
    decide
theorem dT_eqv : ∀ A B : List Str, PyData.eqvAll (dT A) (dT B) = decide (A = B)
  | [], [] => rfl
  | [], _ :: _ => rfl
  | _ :: _, [] => rfl
  | a :: A, b :: B => by
    have ih := dT_eqv A B
    unfold dT at ih ⊢
    rw [List.map_cons, List.map_cons]
    show ((a == b) && PyData.eqvAll _ _) = _
    rw [ih]
    by_cases e : a = b
    · subst e
      simp
    · have : (a == b) = false := beq_eq_false_iff_ne.mpr e
      rw [this]
      simp [e]
theorem tab_lay {r : List Nat} (h : ∀ a ∈ r, a < 3) : PyData.canLay0 (.str (tab r)) = true := by
  show PySem.PyData.strOk (tab r) = true
  unfold PySem.PyData.strOk
  rw [← Array.all_toList, tab_cps, List.all_eq_true]
  intro c hc
  obtain ⟨d, hd, rfl⟩ := List.mem_map.mp hc
  have := h d hd
  exact decide_eq_true (by omega)
theorem noneD : SeqAt.shaped (.list []) = true := by decide +kernel
section
variable {K : PySem.W.Frag} {σ : L2.St} {H : Hp} {te ta tb tl : TE} {t : TA}
theorem evd_ltX {ss : List Str} (h : EvL te σ H (ss.map V.str)) : EvD K te σ H (.list (dT ss)) := fun H1 e Q q => h H1 e _ fun p H2 _ e2 hp => q _ H2 e2 (.lst (sq_of hp) (dpX ss))
theorem evd_tuX {ss : List Str} (h : EvU te σ H (ss.map V.str)) : EvD K te σ H (.tuple (dT ss)) := fun H1 e Q q => h H1 e _ fun p H2 _ e2 hp => q _ H2 e2 (.tup (st_of hp) (dpX ss))
theorem evd_nilX : EvD K (tLst tNil) σ H (.list []) := fun H1 e Q q => ⟨by show 0 ≤ sizeLine; decide, fun p hp => q _ _ (Ex.new hp) (.lst (sq_of upd_same) .nil)⟩
theorem ev_eqX {d1 d2 : PyData} (h1 : EvD K ta σ H d1) (h2 : EvD K tb σ H d2) (s1 : SeqAt.shaped d1 = true) (s2 : SeqAt.shaped d2 = true) : Ev (tOp (rEqD K) ta tb) σ H (.bl (PyData.eqv d1 d2)) :=
  fun H1 e Q q => h1 H1 e _ fun v H2 e2 dv => h2 H2 (e.trans e2) _ fun u H3 e3 du => ⟨d1, d2, dp_mono e3 dv, du, s1, s2, q H3 (e2.trans e3)⟩
theorem ev_neX {d1 d2 : PyData} (h1 : EvD K ta σ H d1) (h2 : EvD K tb σ H d2) (s1 : SeqAt.shaped d1 = true) (s2 : SeqAt.shaped d2 = true) : Ev (tOp (rNeD K) ta tb) σ H (.bl (!PyData.eqv d1 d2)) :=
  fun H1 e Q q => h1 H1 e _ fun v H2 e2 dv => h2 H2 (e.trans e2) _ fun u H3 e3 du => ⟨d1, d2, dp_mono e3 dv, du, s1, s2, q H3 (e2.trans e3)⟩
theorem eqv_lists {A B : List Str} : PyData.eqv (.list (dT A)) (.list (dT B)) = decide (A = B) := dT_eqv A B
theorem eqv_tups {A B : List Str} : PyData.eqv (.tuple (dT A)) (.tuple (dT B)) = decide (A = B) := dT_eqv A B
theorem eqv_none {A : List Str} : PyData.eqv (.list (dT A)) (.list []) = decide (A = []) := dT_eqv A []
theorem ev_shown {d : PyData} (f : Fine d) (h1 : EvR K ta σ H d) (h2 : EvR K tb σ H d) :
    Ev (tOp rEq (tCB (rRepr K) (tCons ta tNil)) (tCB (rRepr K) (tCons tb tNil))) σ H (.bl true) := fun H1 e Q q =>
  h1 H1 e _ fun p H2 e2 d1 => ⟨p, d, rfl, d1, f.1, f.2.1, f.2.2.1, f.2.2.2, h2 H2 (e.trans e2) _ fun p2 H3 e3 d2 =>
    ⟨p2, d, rfl, d2, f.1, f.2.1, f.2.2.1, f.2.2.2, rfl, by rw [decide_eq_true rfl]; exact q H3 (e2.trans e3)⟩⟩
theorem evr_ref {p : Addr} {d : PyData} (h : Ev te σ H (.ref p)) (hd : Dp K H (.ref p) d) : EvR K te σ H d := fun H1 e Q q => h H1 e _ fun H2 e2 => q _ H2 e2 (dp_mono (e.trans e2) hd)
theorem evd_val {v : V} {d : PyData} (h : Ev te σ H v) (hd : ∀ H1 : Hp, Dp K H1 v d) : EvD K te σ H d := fun H1 e Q q => h H1 e _ fun H2 e2 => q _ H2 e2 (hd H2)
theorem ev_lenW {p : Addr} {xs : List V} (h : Ev te σ H (.ref p)) (hx : SqL K H p xs) :
    Ev (tCB (fun xs H Q => ∃ x n, xs = [x] ∧ LenV K x H n ∧ Q (.int (n : Nat)) H) (tCons te tNil)) σ H (.int (xs.length : Nat)) :=
  fun H1 e Q q => h H1 e _ fun H2 e2 => ⟨.ref p, xs.length, rfl, Or.inl ⟨xs, ex_l (e.trans e2) hx, rfl⟩, q H2 e2⟩
/-! ### a comprehension that makes new lists, over a list that stands -/
theorem elo_lcL {a : Addr} {xs : List V} {j : Nat} {vs : List Nat} (L : Nat → List V) (h : Ev tl σ H (.ref a)) (hx : SqL K H a xs) (hz : xs.length ≤ 40000) (hw : ∀ x, wipe ((wipe σ vs).set j (some x)) vs = wipe σ vs)
    (he : ∀ (i : Nat) (x : V) H1, Ex H H1 → xs[i]? = some x → EvL te ((wipe σ vs).set j (some x)) H1 (L i)) :
    EvLots (tLc (iList K tl) (gName j) tYes te vs) σ H ((List.range xs.length).map L) := fun H0 e Q q => h H0 e _ fun H1 e1 => ⟨a, rfl, ⟨xs, ex_l (e.trans e1) hx⟩, fun Dl hD =>
  lc_list (K := K) (xs := xs) (fun i H3 => Ex H1 H3 ∧ ∃ zs, H3 Dl = some (.lst zs) ∧ ListsV H3 zs ((List.range i).map L) ∧ ∀ b, V.ref b ∈ zs → b ≠ Dl) ⟨Ex.new hD, [], upd_same, .nil, fun b hb => by cases hb⟩
  (fun i H3 _ pc => ex_l ((e.trans e1).trans pc.1) hx)
  (fun i x H3 hi ⟨e3, zs, hD3, R3, nd⟩ => ⟨hw _, by
    refine yes_go (he i x H3 ((e.trans e1).trans e3) hi H3 (Ex.refl _) _ fun p H4 hp e4 h4 => ⟨zs, e4 _ _ hD3, ?_, Ex.mut (e3.trans e4) hD, zs ++ [.ref p], upd_same, ?_, fun b hb => ?_⟩)
    · have il := (List.getElem?_eq_some_iff.mp hi).1
      rw [R3.len, List.length_map, List.length_range]
      exact Nat.lt_of_le_of_lt (by omega : _ ≤ 40000) (by decide)
    · have pD : p ≠ Dl := fun z => by rw [z, hD3] at hp; cases hp
      rw [List.range_succ, List.map_append]
      refine paired_app ?_ (.cons ⟨p, rfl, by rw [upd_ne pD]; exact h4⟩ .nil)
      have mv : ∀ {us : List V} {M : List (List V)}, ListsV H3 us M → (∀ b, V.ref b ∈ us → b ≠ Dl) → ListsV (upd H4 Dl (.lst (zs ++ [.ref p]))) us M := fun {us M} R => by
        induction R with
        | nil => exact fun _ => .nil
        | cons hd _ ih =>
          obtain ⟨c, rfl, hc⟩ := hd
          exact fun nd => .cons ⟨c, rfl, by rw [upd_ne (nd c List.mem_cons_self)]; exact e4 _ _ hc⟩ (ih fun b hb => nd b (List.mem_cons_of_mem _ hb))
      exact mv R3 nd
    · rcases List.mem_append.mp hb with hb | hb
      · exact nd b hb
      · have : b = p := by simpa using hb
        rw [this]
        exact fun z => by rw [z, hD3] at hp; cases hp⟩)
  (fun H3 ⟨e3, zs, hD3, R3, _⟩ => q Dl H3 zs (fresh_back e1 hD) (e1.trans e3) hD3 R3)⟩
/-! ### a display of new lists -/
def EvLA (t : TA) (σ : L2.St) (H : Hp) (L : List (List V)) : Prop := ∀ H1, Ex H H1 → ∀ Q : List V → Hp → Prop, (∀ vs H2, Ex H1 H2 → ListsV H2 vs L → Q vs H2) → t σ H1 Q
theorem ela_nil : EvLA tNil σ H [] := fun H1 _ Q q => q [] H1 (Ex.refl H1) .nil
theorem ela_cons {r : List V} {L : List (List V)} (h : EvL te σ H r) (hr : EvLA t σ H L) : EvLA (tCons te t) σ H (r :: L) := fun H1 e Q q =>
  h H1 e _ fun p H2 _ e2 hp => hr H2 (e.trans e2) _ fun vs H3 e3 R => q _ H3 (e2.trans e3) (.cons ⟨p, rfl, e3 _ _ hp⟩ R)
theorem elo_lst {L : List (List V)} (h : EvLA t σ H L) (few : L.length ≤ 1000) : EvLots (tLst t) σ H L := fun H1 e Q q => h H1 e _ fun vs H2 e2 R =>
  ⟨by rw [R.len]; exact Nat.le_trans few (by decide), fun p hp => q p _ vs (fresh_back e2 hp) (e2.trans (Ex.new hp)) upd_same (ListsV.mono (Ex.new hp) R)⟩
theorem elo_catV {l : Addr} {ys : List V} {A B : List (List V)} (h1 : Ev ta σ H (.ref l)) (hl : H l = some (.lst ys)) (R : ListsV H ys A) (h2 : EvLots tb σ H B) (z : A.length + B.length ≤ 1000) : EvLots (tOp rCat ta tb) σ H (A ++ B) := fun H1 e Q q =>
  h1 H1 e _ fun H2 e2 => h2 H2 (e.trans e2) _ fun p H3 zs hp e3 hz S => ⟨l, p, ys, zs, rfl, rfl, e3 _ _ (e2 _ _ (e _ _ hl)), hz, by rw [R.len, S.len]; exact Nat.le_trans z (by decide), fun r hr =>
    q r _ _ (fresh_back (e2.trans e3) hr) ((e2.trans e3).trans (Ex.new hr)) upd_same (paired_app (ListsV.mono (Ex.new hr) (ListsV.mono ((e.trans e2).trans e3) R)) (ListsV.mono (Ex.new hr) S))⟩
theorem q_lots {D : Ends} {tz : TS} {j : Nat} {L : List (List V)} (h : EvLots te σ H L) (k : ∀ p H1 ys, H p = none → Ex H H1 → H1 p = some (.lst ys) → ListsV H1 ys L → tz D (σ.set j (some (.ref p))) H1) : tSeq (tAsg te (gName j)) tz D σ H := h H (Ex.refl H) _ k
end
end Tv

namespace Tv
open PySem PySem.Spec PyProof.Rows L2 Evl
/-! ### a class's own len, str, repr, bool, ==, the guards known -/
/-- the def of a class for a name that the machine asks -/
structure OwnG (P : Program) (w : World) (K : PySem.W.Frag) (mg : Str → Option Value) (base : Heap) (C : Addr) (m : Str) (k : Nat) (sp : Sp) : Prop where
  ex : ∃ g : Addr, PySem.W.findIn K (.ref C) m = some (some (.ref g)) ∧ PySem.W.isFn K (.ref g) = true ∧ FnGR P w K mg base k g sp
section
variable {X : Cx} {pins : List (Addr × Obj)} {σ : L2.St} {H : Hp} {s : Shared} {C : Addr} {k : Nat} {sp : Sp}
/-- it runs, in any surrounding that has the guards -/
theorem own_run {A : Around} {g : Addr} {Q : VK} {us : List Value} {vs : List V} (F : FnGR X.prog X.w X.K X.mg X.base k g sp) (hr : Room k A) (gd : A.guards = some []) (e0 : Env0 X.prog X.w X.K X.mg X.base A X.stack s H) (I : Inv X pins σ H s) (r : Vals vs us) (h : sp vs H Q E0) {E : Value → Shared → Prop} :
    wpAny (model X.prog X.w) A (call (.ref g) us) (EP X pins σ Q) E s := by
  refine wpAny_call (codeAny_mono (F A X.stack s H us vs Q E0 hr gd e0 r h) fun r s' hq => ?_)
  cases r with
  | error e => exact hq.elim
  | ok fl =>
    cases fl with
    | ret u => exact I.after hq
    | next => exact False.elim hq
    | brk => exact False.elim hq
    | cont => exact False.elim hq
def rOwnLen (C : Addr) (sp : Sp) : List V → Hp → VK → Prop := fun xs H Q => ∃ a dx fs, xs = [V.ref a] ∧ H a = some (.ins C dx fs) ∧ sp [.ref a] H (fun v H' => ∃ n : Nat, v = .int (n : Int) ∧ n ≤ 100000 ∧ Q v H') E0
theorem call_ownLen (D : OwnG X.prog X.w X.K X.mg X.base C (Str.ofString "__len__") k sp) (hr : Room (k + 2) X.A) (gd : X.A.guards = some []) : CallR X (.builtin "len") (rOwnLen C sp) := by
  intro pins s σ H xs us Q I r h
  obtain ⟨a, dx, fs, rfl, ea, q⟩ := h
  obtain ⟨u, rfl, ru⟩ := r.one
  cases (show u = Value.ref a from ru)
  obtain ⟨g, hs, hf, F⟩ := D.ex
  obtain ⟨mA, O, _, _, _, _⟩ := ins_get I.hok ea
  obtain ⟨od, J, _⟩ := O.look
  obtain ⟨m, hF⟩ := I.fr
  have hr1 : Room k X.A.in1 := (show Room (k + 1) X.A.in1 from Room.in1 hr).mono (Nat.le_succ _)
  refine PySem.W.len_K hF I.ok.mod.kin J hs hf (wpAny_mono (own_run (us := [.ref a]) (vs := [.ref a]) F hr1 gd I.env0.in1 I (.cons rfl .nil) q) (fun v s' z => ?_) fun _ _ x => x)
  obtain ⟨z', H', I', rz, n, rfl, le, qz⟩ := z
  obtain ⟨t, rfl⟩ := rz
  refine ⟨⟨by omega, by omega⟩, .int (n : Int), H', I'.tok _, ⟨_, rfl⟩, qz⟩
def rOwnText (C : Addr) (sp : Sp) : List V → Hp → VK → Prop := fun xs H Q => ∃ a dx fs, xs = [V.ref a] ∧ H a = some (.ins C dx fs) ∧ sp [.ref a] H (fun v H' => ∃ x : Str, v = .str x ∧ Q v H') E0
theorem call_ownRepr (D : OwnG X.prog X.w X.K X.mg X.base C (Str.ofString "__repr__") k sp) (hr : Room (k + 2) X.A) (gd : X.A.guards = some []) : CallR X (.builtin "repr") (rOwnText C sp) := by
  intro pins s σ H xs us Q I r h
  obtain ⟨a, dx, fs, rfl, ea, q⟩ := h
  obtain ⟨u, rfl, ru⟩ := r.one
  cases (show u = Value.ref a from ru)
  obtain ⟨g, hs, hf, F⟩ := D.ex
  obtain ⟨mA, O, _, _, _, _⟩ := ins_get I.hok ea
  obtain ⟨od, J, _⟩ := O.look
  obtain ⟨m, hF⟩ := I.fr
  have hr1 : Room (k + 1) X.A.in1 := Room.in1 hr
  refine PySem.W.repr_K hr1.units0 hF I.ok.mod.kin J hs hf (wpAny_mono (own_run (us := [.ref a]) (vs := [.ref a]) F (hr1.mono (Nat.le_succ _)) gd I.env0.in1 I (.cons rfl .nil) q) (fun v s' z => ?_) fun _ _ x => x)
  obtain ⟨z', H', I', rz, x, rfl, qz⟩ := z
  obtain ⟨t, rfl⟩ := rz
  exact ⟨.str x, H', I', ⟨_, rfl⟩, qz⟩
theorem call_ownStr (D : OwnG X.prog X.w X.K X.mg X.base C (Str.ofString "__str__") k sp) (hr : Room (k + 3) X.A) (gd : X.A.guards = some []) : CallR X (.type "str") (rOwnText C sp) := by
  intro pins s σ H xs us Q I r h
  obtain ⟨a, dx, fs, rfl, ea, q⟩ := h
  obtain ⟨u, rfl, ru⟩ := r.one
  cases (show u = Value.ref a from ru)
  obtain ⟨g, hs, hf, F⟩ := D.ex
  obtain ⟨mA, O, _, _, _, _⟩ := ins_get I.hok ea
  obtain ⟨od, J, _⟩ := O.look
  have hr2 : Room (k + 1) X.A.in1.in1 := (show Room (k + 2) X.A.in1 from Room.in1 hr).in1
  refine PySem.W.kso_call hr2.units0 I.kIn J hs hf (wpAny_mono (own_run (us := [.ref a]) (vs := [.ref a]) F (hr2.mono (Nat.le_succ _)) gd I.env0.in1.in1 I (.cons rfl .nil) q) (fun v s' z => ?_) fun _ _ x => x)
  obtain ⟨z', H', I', rz, x, rfl, qz⟩ := z
  obtain ⟨t, rfl⟩ := rz
  exact ⟨.str x, H', I', ⟨_, rfl⟩, qz⟩
theorem own_bool_call {prog : Program} {w : World} {A : Around} {E : Value → Shared → Prop} {s : Shared} {K : PySem.W.Frag} {x C f : Addr} {ox : Obj} {od : Option Obj} {h₀ : Heap} {L : Addr} {m : Str → Option Value} {Q : Value → Shared → Prop} (F : Fr h₀ L s.heap m) (X₀ : K.In h₀) (I : PySem.W.InstAt s.heap x ox C od)
    (hs : PySem.W.findIn K (.ref C) (Str.ofString "__bool__") = some (some (.ref f))) (hf : PySem.W.isFn K (.ref f) = true) (h : wpAny (model prog w) A.in1.in1 (call (.ref f) [.ref x]) (PySem.W.BoolBack fun b s' => Q (.bool b) s') E s) : wpAny (model prog w) A (call (.type "bool") [.ref x]) Q E s := by
  refine callType_codes (T := "bool") (Bi := Builtin.«object.__init__») (Q₁ := fun r s₁ => ∃ b, r = .bool b ∧ Q r s₁) PySem.F.called_bool (PySem.F.typeCall_bool_1 _) PySem.F.entry_object_init ?_ ?_
  · refine codeAny_of_tree ?_
    show wpAny _ A.in1.in1 (do checkBuiltinCall "bool.__new__" ⟨[.type "bool", .ref x], []⟩; again (.builtin "bool.__new__" ⟨[.type "bool", .ref x], []⟩)) _ _ s
    refine wpAny_bind (wpAny_of_eq (PySem.F.newCall_bool_1 _) (wpAny_pure ⟨plainId_quiet (by decide +kernel) _, codeAny_builtin PySem.F.entry_bool_new ?_⟩))
    rw [Around.under_plainId (by decide +kernel) _]
    have f1 := PySem.F.conv_sub_bool
    have q0 : wpAny (model prog w) A.in1.in1 (truthy (.ref x)) (fun b s' => Q (.bool b) s') E s := PySem.W.truthy_K F X₀ I hs hf h
    have q1 : ∀ {Q' : Bool → Shared → Prop}, (∀ b s', Q (.bool b) s' → Q' b s') → wpAny (model prog w) A.in1.in1 (truthy (.ref x)) Q' E s := fun k => wpAny_mono q0 k fun _ _ e => e
    wp_walk using q1
    intro b s' hq
    exact wpAny_pure ⟨b, rfl, hq⟩
  · rintro obj s₁ ⟨b, rfl, hq⟩
    exact ⟨rfl, PySem.F.args_object_init_2 _ _, object_init_meets PySem.F.called_bool.init.lookup PySem.F.called_bool.made (by decide) prog w A.in1 _ s₁ ⟨rfl, rfl, hq⟩⟩
def rOwnBool (C : Addr) (sp : Sp) : List V → Hp → VK → Prop := fun xs H Q => ∃ a dx fs, xs = [V.ref a] ∧ H a = some (.ins C dx fs) ∧ sp [.ref a] H (fun v H' => ∃ b : Bool, v = .bl b ∧ Q v H') E0
theorem call_ownBool (D : OwnG X.prog X.w X.K X.mg X.base C (Str.ofString "__bool__") k sp) (hr : Room (k + 3) X.A) (gd : X.A.guards = some []) : CallR X (.type "bool") (rOwnBool C sp) := by
  intro pins s σ H xs us Q I r h
  obtain ⟨a, dx, fs, rfl, ea, q⟩ := h
  obtain ⟨u, rfl, ru⟩ := r.one
  cases (show u = Value.ref a from ru)
  obtain ⟨g, hs, hf, F⟩ := D.ex
  obtain ⟨mA, O, _, _, _, _⟩ := ins_get I.hok ea
  obtain ⟨od, J, _⟩ := O.look
  obtain ⟨m, hF⟩ := I.fr
  have hr2 : Room (k + 1) X.A.in1.in1 := (show Room (k + 2) X.A.in1 from Room.in1 hr).in1
  refine own_bool_call hF I.ok.mod.kin J hs hf (wpAny_mono (own_run (us := [.ref a]) (vs := [.ref a]) F (hr2.mono (Nat.le_succ _)) gd I.env0.in1.in1 I (.cons rfl .nil) q) (fun v s' z => ?_) fun _ _ x => x)
  obtain ⟨z', H', I', rz, b, rfl, qz⟩ := z
  cases (show v = Value.bool b from rz)
  exact ⟨.bl b, H', I', rfl, qz⟩
section
variable {prog : Program} {w : World} {A : Around} {E : Value → Shared → Prop} {s : Shared} {K : PySem.W.Frag} {x C f : Addr} {ox : Obj} {od : Option Obj} {h₀ : Heap} {L : Addr} {m : Str → Option Value} {b tb : Value}
theorem ifBound_ne {M : Model} {args : List Value} {Q : Option Value → Shared → Prop} (X : K.In s.heap) (I : PySem.W.InstAt s.heap x ox C od) (hs : PySem.W.findIn K (.ref C) (Str.ofString "__ne__") = some (some (.builtin "object.__ne__")))
    (h : wpAny M A (call (.builtin "object.__ne__") (.ref x :: args)) (fun v => Q (some v)) E s) : wpAny M A (callSpecialIfBound? (.ref x) (Str.ofString "__ne__") args) Q E s := by
  simp only [callSpecialIfBound?, bindSpecialIfBound?]
  refine wpAny_holding (wpAny_bind (wpAny_bind (wpAny_bind (I.type.here ((PySem.W.looks_findIn X hs).here ?_)))))
  refine wpAny_bind (wpAny_askSetting (wpAny_ite ?_))
  have fin : wpAny M A (call (.builtin "object.__ne__") ([.ref x] ++ args) >>= fun v => pure (some v)) Q E s := wpAny_bind (wpAny_mono h (fun v s' h' => wpAny_pure h') fun _ _ h' => h')
  split
  · exact wpAny_bind (wpAny_of_eq (F.cmp_object.ne.bind _) (wpAny_pure (by exact fin)))
  · exact wpAny_tryCatch (wpAny_bind (wpAny_of_eq (F.cmp_object.ne.bind _) (wpAny_pure (by exact fin))))
theorem call_ne {Q : Value → Shared → Prop} (hu : A.in1.units < cLine) (X : K.In s.heap) (I : PySem.W.InstAt s.heap x ox C od) (hm : PySem.W.mroIn K C (.type "object") = some true) (hs : PySem.W.findIn K (.ref C) (Str.ofString "__eq__") = some (some (.ref f))) (hf : PySem.W.isFn K (.ref f) = true)
    (h : wpAny (model prog w) A.in1 (call (.ref f) [.ref x, b]) (fun v s' => ∃ r : Bool, v = .bool r ∧ Q (.bool (!r)) s') E s) : wpAny (model prog w) A (call (.builtin "object.__ne__") [.ref x, b]) Q E s := by
  refine wpAny_call (codeAny_call_builtin F.cmp_object.ne.plain F.cmpEntry_ne (PySem.W.check_slot F.cmpKind_ne F.cmpSplit_ne (I.type.andThen (PySem.W.looks_mroIn X hm)) (F.cmpArgs_ne _ _) ?_))
  unfold Builtin.«object.__ne__»
  refine wpAny_bind (m := slotArgs _ _ _) (wpAny_pure ?_)
  refine wpAny_bind (wpAny_cRoomFor hu ?_)
  refine wpAny_bind (PySem.W.ifBound_K X I hs hf (wpAny_mono h (fun v s' z => ?_) fun _ _ e => e))
  obtain ⟨r, rfl, q⟩ := z
  exact wpAny_bind (wpAny_truthy_bool (wpAny_pure q))
theorem ne_K {Q : Value → Shared → Prop} (hu : A.units < cLine) (hu1 : A.in1.units < cLine) (F : Fr h₀ L s.heap m) (X₀ : K.In h₀) (I : PySem.W.InstAt s.heap x ox C od) (hb : PySem.W.Looks (model prog w) s.heap (typeOf b) tb) (hn : PySem.W.notFirst K C tb = true)
    (hne : PySem.W.findIn K (.ref C) (Str.ofString "__ne__") = some (some (.builtin "object.__ne__"))) (hm : PySem.W.mroIn K C (.type "object") = some true) (hs : PySem.W.findIn K (.ref C) (Str.ofString "__eq__") = some (some (.ref f))) (hf : PySem.W.isFn K (.ref f) = true)
    (h : wpAny (model prog w) A.in1 (call (.ref f) [.ref x, b]) (fun v s' => ∃ r : Bool, v = .bool r ∧ Q (.bool (!r)) s') E s) : wpAny (model prog w) A (richCompare .NotEq (.ref x) b) Q E s := by
  have X := X₀.keeps F.keep
  have one : wpAny (model prog w) A (tryCompare (.ref x) (cmpInfo .NotEq).2.1 b) (fun r s' => ∃ v, r = some v ∧ Q v s') E s := by
    unfold tryCompare
    refine wpAny_bind (ifBound_ne X I hne (call_ne hu1 X I hm hs hf (wpAny_mono h (fun v s' z => ?_) fun _ _ e => e)))
    obtain ⟨r, rfl, q⟩ := z
    exact ⟨r, rfl, wpAny_pure ⟨_, rfl, q⟩⟩
  unfold richCompare
  simp only [oneThing_ref]
  refine wpAny_holding (wpAny_bind (wpAny_cRoomFor hu ?_))
  refine wpAny_bind (I.type.here (wpAny_bind (hb.here ?_)))
  split
  · rename_i q
    have e : PySem.W.subIn K tb (.ref C) = some false := by
      rcases Bool.or_eq_true_iff.mp hn with e | e
      · rw [beq_iff_eq.mp e] at q; simp at q
      · exact beq_iff_eq.mp e
    refine wpAny_bind ((PySem.W.looks_subIn X e).here ?_)
    simp only [Bool.false_eq_true, if_false]
    refine wpAny_bind (wpAny_mono one (fun r s' z => ?_) fun _ _ e => e)
    obtain ⟨v, rfl, hq⟩ := z
    exact wpAny_pure hq
  · refine wpAny_bind (wpAny_pure ?_)
    simp only [Bool.false_eq_true, if_false]
    refine wpAny_bind (wpAny_mono one (fun r s' z => ?_) fun _ _ e => e)
    obtain ⟨v, rfl, hq⟩ := z
    exact wpAny_pure hq
end
/-- x == y, x an instance of the class: its own def tells -/
def TyIs (X : Cx) (C : Addr) (y : V) (H : Hp) : Prop := ∀ (pins : List (Addr × Obj)) (σ : L2.St) (s : Shared) (v : Value), Inv X pins σ H s → RelV y v → ∃ tb, PySem.W.Looks (model X.prog X.w) s.heap (typeOf v) tb ∧ PySem.W.notFirst X.K C tb = true
def TyK (K : PySem.W.Frag) (C : Addr) (y : V) (H : Hp) : Prop := y = .non ∨ (∃ x, y = .str x) ∨ (∃ i, y = .int i) ∨ (∃ p xs, y = .ref p ∧ SqT K H p xs) ∨ (∃ p xs, y = .ref p ∧ SqL K H p xs) ∨ ∃ a dx fs, y = .ref a ∧ H a = some (.ins C dx fs)
theorem type_of {M : Model} {h : Heap} {y : Addr} {o : Obj} (ho : h.get? y = some o) : PySem.W.Looks M h (typeOf (.ref y)) o.cls :=
  (PySem.W.Looks.ld (part := some headPart) ho).andThen (.of_pure rfl)
theorem notFirst_of {K : PySem.W.Frag} {T : String} {l : List Value} (e : fastBuiltinMro T = some l) (n : l.contains (.ref C) = false) : PySem.W.notFirst K C (.type T) = true := by
  have q : PySem.W.subIn K (.type T) (.ref C) = some false := by
    show (fastBuiltinMro T).map (·.contains (.ref C)) = some false
    rw [e]
    exact congrArg some n
  unfold PySem.W.notFirst
  rw [q]
  simp
theorem nf_none {K : PySem.W.Frag} : PySem.W.notFirst K C (.type "NoneType") = true := notFirst_of (l := [.type "NoneType", .type "object"]) (by decide +kernel) (by simp)
theorem nf_str {K : PySem.W.Frag} : PySem.W.notFirst K C (.type "str") = true := notFirst_of (l := [.type "str", .type "object"]) (by decide +kernel) (by simp)
theorem nf_int {K : PySem.W.Frag} : PySem.W.notFirst K C (.type "int") = true := notFirst_of (l := [.type "int", .type "object"]) (by decide +kernel) (by simp)
theorem nf_tuple {K : PySem.W.Frag} : PySem.W.notFirst K C (.type "tuple") = true := notFirst_of (l := [.type "tuple", .type "object"]) (by decide +kernel) (by simp)
theorem nf_list {K : PySem.W.Frag} : PySem.W.notFirst K C (.type "list") = true := notFirst_of (l := [.type "list", .type "object"]) (by decide +kernel) (by simp)
theorem tyis_non : TyIs X C .non H := fun pins σ s v I r => by
  cases r
  exact ⟨.type "NoneType", .of_pure rfl, nf_none⟩
theorem tyis_str {x : Str} : TyIs X C (.str x) H := fun pins σ s v I r => by
  obtain ⟨t, rfl⟩ := r
  exact ⟨.type "str", .of_pure rfl, nf_str⟩
theorem tyis_int {i : Int} : TyIs X C (.int i) H := fun pins σ s v I r => by
  obtain ⟨t, rfl⟩ := r
  exact ⟨.type "int", .of_pure rfl, nf_int⟩
theorem tyis_tup {p : Addr} {xs : List V} (h : SqT X.K H p xs) : TyIs X C (.ref p) H := fun pins σ s v I r => by
  cases r
  obtain ⟨its, vals, ⟨o, at_p, hc, _⟩, hz⟩ := I.tuple h
  have l := type_of (M := model X.prog X.w) at_p
  rw [hc] at l
  exact ⟨_, l, nf_tuple⟩
theorem tyis_lst {p : Addr} {xs : List V} (h : SqL X.K H p xs) : TyIs X C (.ref p) H := fun pins σ s v I r => by
  cases r
  obtain ⟨its, vals, pl, hz⟩ := I.list h
  obtain ⟨o, at_p, hc, _⟩ := pl.isList
  have l := type_of (M := model X.prog X.w) at_p
  rw [hc] at l
  exact ⟨_, l, nf_list⟩
theorem tyis_ins {a dx : Addr} {fs : List (Str × V)} (h : H a = some (.ins C dx fs)) : TyIs X C (.ref a) H := fun pins σ s v I r => by
  cases r
  obtain ⟨mA, O, _, _, _, _⟩ := ins_get I.hok h
  obtain ⟨od, J, _⟩ := O.look
  exact ⟨_, J.type, by unfold PySem.W.notFirst; simp⟩
theorem TyK.is {y : V} (h : TyK X.K C y H) : TyIs X C y H := by
  rcases h with rfl | ⟨x, rfl⟩ | ⟨i, rfl⟩ | ⟨p, xs, rfl, h⟩ | ⟨p, xs, rfl, h⟩ | ⟨a, dx, fs, rfl, h⟩
  · exact tyis_non
  · exact tyis_str
  · exact tyis_int
  · exact tyis_tup h
  · exact tyis_lst h
  · exact tyis_ins h
def rOwnEq (K : PySem.W.Frag) (C : Addr) (sp : Sp) : R2 := fun x y H Q => ∃ a dx fs, x = V.ref a ∧ H a = some (.ins C dx fs) ∧ TyK K C y H ∧ sp [x, y] H (fun v H' => ∃ b : Bool, v = .bl b ∧ Q v H') E0
theorem op_ownEq (D : OwnG X.prog X.w X.K X.mg X.base C (Str.ofString "__eq__") k sp) (hr : Room (k + 1) X.A) (gd : X.A.guards = some []) : OpR X (compareOp .Eq) (rOwnEq X.K C sp) := by
  intro pins s σ H x y v u Q I rx ry h
  obtain ⟨a, dx, fs, rfl, ea, ty, q⟩ := h
  cases (show v = Value.ref a from rx)
  obtain ⟨g, hs, hf, F⟩ := D.ex
  obtain ⟨mA, O, _, _, _, _⟩ := ins_get I.hok ea
  obtain ⟨od, J, _⟩ := O.look
  obtain ⟨m, hF⟩ := I.fr
  obtain ⟨tb, lk, nf⟩ := ty.is pins σ s u I ry
  show wpAny _ _ (richCompare .Eq (.ref a) u) _ _ _
  refine PySem.W.cmp_K (op := .Eq) (tb := tb) hr.units0 hF I.ok.mod.kin J lk nf hs hf ?_
  refine wpAny_mono (own_run (us := [.ref a, u]) (vs := [.ref a, y]) F (hr.mono (Nat.le_succ _)) gd I.env0 I (.cons rfl (.cons ry .nil)) q) (fun w s' z => ?_) fun _ _ x => x
  obtain ⟨z', H', I', rz, b, rfl, qz⟩ := z
  cases (show w = Value.bool b from rz)
  exact ⟨.bl b, H', I', rfl, qz⟩
def rOwnNe (K : PySem.W.Frag) (C : Addr) (sp : Sp) : R2 := fun x y H Q => ∃ a dx fs, x = V.ref a ∧ H a = some (.ins C dx fs) ∧ TyK K C y H ∧ sp [x, y] H (fun v H' => ∃ b : Bool, v = .bl b ∧ Q (.bl (!b)) H') E0
theorem op_ownNe (D : OwnG X.prog X.w X.K X.mg X.base C (Str.ofString "__eq__") k sp) (hne : PySem.W.findIn X.K (.ref C) (Str.ofString "__ne__") = some (some (.builtin "object.__ne__"))) (hm : PySem.W.mroIn X.K C (.type "object") = some true) (hr : Room (k + 2) X.A) (gd : X.A.guards = some []) : OpR X (compareOp .NotEq) (rOwnNe X.K C sp) := by
  intro pins s σ H x y v u Q I rx ry h
  obtain ⟨a, dx, fs, rfl, ea, ty, q⟩ := h
  cases (show v = Value.ref a from rx)
  obtain ⟨g, hs, hf, F⟩ := D.ex
  obtain ⟨mA, O, _, _, _, _⟩ := ins_get I.hok ea
  obtain ⟨od, J, _⟩ := O.look
  obtain ⟨m, hF⟩ := I.fr
  obtain ⟨tb, lk, nf⟩ := ty.is pins σ s u I ry
  show wpAny _ _ (richCompare .NotEq (.ref a) u) _ _ _
  have hr1 : Room (k + 1) X.A.in1 := Room.in1 hr
  refine ne_K hr.units0 hr1.units0 hF I.ok.mod.kin J lk nf hne hm hs hf ?_
  refine wpAny_mono (own_run (us := [.ref a, u]) (vs := [.ref a, y]) F (hr1.mono (Nat.le_succ _)) gd I.env0.in1 I (.cons rfl (.cons ry .nil)) q) (fun w s' z => ?_) fun _ _ x => x
  obtain ⟨z', H', I', rz, b, rfl, qz⟩ := z
  cases (show w = Value.bool b from rz)
  exact ⟨b, rfl, .bl (!b), H', I', rfl, qz⟩
end
end Tv

namespace Tv
open PySem PySem.Spec PyProof.Rows L2 Evl
/-! ### a method, a classmethod, called with one keyword -/
structure MethKG (P : Program) (w : World) (K : PySem.W.Frag) (mg : Str → Option Value) (base : Heap) (C : Addr) (m : Str) (ps : List Str) (k : Nat) (sp : Sp) : Prop where
  ex : ∃ (g : Addr) (fd : FuncData) (p1 p2 : Str), ps = [p1, p2] ∧ Meth K C m g ∧ FnG P w K mg base k g fd ps sp ∧ ∀ (s : Shared) (u v : Value), BindsTo s fd ⟨[u], [(p2, v)]⟩ [(p1, u), (p2, v)]
structure ReadKG (P : Program) (w : World) (K : PySem.W.Frag) (mg : Str → Option Value) (base : Heap) (C : Addr) (m : Str) (ps : List Str) (k : Nat) (sp : Sp) : Prop where
  ex : ∃ (p g : Addr) (mc : Value) (fd : FuncData) (p1 p2 : Str), ps = [p1, p2] ∧ ClX.CRead K C mc ∧ ClX.CMet K C mc m p g ∧ FnG P w K mg base k g fd ps sp ∧ ∀ (s : Shared) (u v : Value), BindsTo s fd ⟨[u], [(p2, v)]⟩ [(p1, u), (p2, v)]
section
variable {X : Cx} {k : Nat} {C : Addr} {m p1 p2 : Str} {sp : Sp} {o e : Expr} {pos apos kp : Pos} {ta : TE} {t : TE} {pl : Sem Bool}
/-- o.m(p = e) -/
def tMethK (C : Addr) (m : Str) (sp : Sp) (ta : TE) (tk : TA) : TE := fun σ H Q => ta σ H fun x H1 => ∃ a dx fs, x = .ref a ∧ H1 a = some (.ins C dx fs) ∧ fs.lookup m = none ∧ tk σ H1 fun vs H2 => ∃ v, vs = [v] ∧ sp [x, v] H2 Q E0
theorem pe_methK {kw : Keyword} {tk : TA} (D : MethKG X.prog X.w X.K X.mg X.base C m [p1, p2] k sp) (c : Cls X.K C) (hr : Room k X.A) (gd : X.A.guards = some []) (he : PE X o ta) (hkw : PK X [kw] tk)
    (hall : (backToKw pos (keywordEach [kw] X.env)).all (·.1.isSome) = true := by rfl)
    (hks : (backToKw pos (keywordEach [kw] X.env)).filterMap (·.1) = [p2] := by rfl)
    (hpl : ((backTo pos (starEach [] X.env)).any (·.1) || (backToKw pos (keywordEach [kw] X.env)).any (·.1.isNone)) = false := by rfl)
    (ht : eval (.Call (.Attribute o m apos) [] [kw] pos) X.env = (do
      let ov ← eval o X.env
      standAt apos.atName
      let (f, first) ← holding [ov] (getMethod ov m pl)
      callWith pos f first (backTo pos (starEach [] X.env)) (backToKw pos (keywordEach [kw] X.env))) := by rfl) :
    PE X (.Call (.Attribute o m apos) [] [kw] pos) (tMethK C m sp ta tk) := by
  obtain ⟨g, fd, q1, q2, ep, hm, F, hb⟩ := D.ex
  injection ep with e1 ep
  injection ep with e2 ep
  subst e1 e2
  refine ⟨fun pins s σ H Q I h => ?_⟩
  refine PySem.W.methodCall_KW (pl := pl) (thn (he.run pins s σ H _ I h) fun u s1 ⟨x, H1, I1, rx, a, dx, fs, ex, ea, l, q⟩ => ?_) ht
  subst ex
  obtain rfl : u = Value.ref a := rx
  refine getmeth_ok I1 ea c hm l ?_
  refine PySem.W.callWith_KW0 (h₀ := X.base) (first := [.ref a]) I1.ok.mod.kin hm.kp hall ?_ hpl
  refine thn (hkw.run pos pins s1 σ H1 _ I1 q) fun ws s2 ⟨zs, H2, J, rz, v, ez, q⟩ => ⟨J.kIn, ?_⟩
  subst ez
  obtain ⟨w, rfl, rw'⟩ := rz.one
  rw [hks]
  exact run_G (us := [.ref a, w]) (vs := [.ref a, v]) F hr gd J (hb s2 (.ref a) w) (.cons rfl (.cons rw' .nil)) q
def tCMethK (C : Addr) (sp : Sp) (ta : TE) (tk : TA) : TE := fun σ H Q => ta σ H fun x H1 => x = .ref C ∧ tk σ H1 fun vs H2 => ∃ v, vs = [v] ∧ sp [.ref C, v] H2 Q E0
theorem pe_cmethK {kw : Keyword} {tk : TA} (D : ReadKG X.prog X.w X.K X.mg X.base C m [p1, p2] k sp) (hr : Room k X.A) (gd : X.A.guards = some []) (he : PE X o ta) (hkw : PK X [kw] tk)
    (hall : (backToKw pos (keywordEach [kw] X.env)).all (·.1.isSome) = true := by rfl)
    (hks : (backToKw pos (keywordEach [kw] X.env)).filterMap (·.1) = [p2] := by rfl)
    (hpl : ((backTo pos (starEach [] X.env)).any (·.1) || (backToKw pos (keywordEach [kw] X.env)).any (·.1.isNone)) = false := by rfl)
    (ht : eval (.Call (.Attribute o m apos) [] [kw] pos) X.env = (do
      let ov ← eval o X.env
      standAt apos.atName
      let (f, first) ← holding [ov] (getMethod ov m pl)
      callWith pos f first (backTo pos (starEach [] X.env)) (backToKw pos (keywordEach [kw] X.env))) := by rfl) :
    PE X (.Call (.Attribute o m apos) [] [kw] pos) (tCMethK C sp ta tk) := by
  obtain ⟨p, g, mc, fd, q1, q2, ep, hR, hc, F, hb⟩ := D.ex
  injection ep with e1 ep
  injection ep with e2 ep
  subst e1 e2
  refine ⟨fun pins s σ H Q I h => ?_⟩
  refine PySem.W.methodCall_KW (pl := pl) (thn (he.run pins s σ H _ I h) fun u s1 ⟨x, H1, I1, rx, ex, q⟩ => ?_) ht
  subst ex
  obtain rfl : u = Value.ref C := rx
  refine ClX.getmethcm_ok I1 hR hc fun s2 I2 => ?_
  refine PySem.W.callWith_of (first := []) (P := PySem.W.MethP X.K s1.heap.objs.size g (.ref C)) hpl (PySem.W.keeps_M hc.fi) (evalArgs_kw2_nil hall ?_)
  refine thn (hkw.run pos _ s2 σ H1 _ I2 q) fun ws s3 ⟨zs, H2, J, rz, v, ez, q⟩ => ⟨⟨ClX.pin_at J, J.kIn⟩, ?_⟩
  subst ez
  obtain ⟨w, rfl, rw'⟩ := rz.one
  rw [hks]
  have z : wpAny (model X.prog X.w) X.A (call (.ref s1.heap.objs.size) ([] ++ []) ([p2].zip [w])) (EP X ((s1.heap.objs.size, PySem.W.methodObj (.ref g) (.ref C)) :: pins) σ Q) X.xe s3 := by
    refine wpAny_call (PySem.W.method_call (ClX.pin_at J) (codeAny_mono (F.run X.A X.stack s3 H2 _ [.ref C, w] [.ref C, v] Q E0 hr gd J.env0 (hb s3 (.ref C) w) (.cons rfl (.cons rw' .nil)) q) fun res s' got => ?_))
    cases res with
    | error e => exact got.elim
    | ok fl =>
      cases fl with
      | ret u => exact J.after got
      | next => exact False.elim got
      | brk => exact False.elim got
      | cont => exact False.elim got
  exact thn z fun _ _ y => ClX.unpinE y
end
end Tv

namespace Tv
open PySem PySem.Spec PyProof.Rows L2 Evl
/-! ### a new tuple whose object is known, and its index -/
section
variable {X : Cx}
def rTupF (K : PySem.W.Frag) : List V → Hp → VK → Prop := fun xs H Q => ∃ p ys, xs = [.ref p] ∧ SqL K H p ys ∧ ∀ (l : Addr) (o : Obj), H l = none → o.cls = .type "tuple" → o.dict = none → Q (.ref l) (upd H l (.frz o (.tup ys)))
theorem call_tupF : CallR X (.type "tuple") (rTupF X.K) := by
  intro pins s σ H xs us Q I r h
  obtain ⟨p, ys, rfl, hs, q⟩ := h
  obtain ⟨u, rfl, ru⟩ := r.one
  cases (show u = Value.ref p from ru)
  obtain ⟨its, rv, pl, hz⟩ := I.list hs
  refine call_tuple_list pl.isList (fun h' hk => ?_) (by rw [List.size_toArray, ← rv.length]; exact hz)
  have I1 : Inv X pins σ H { s with heap := h' } := I.kept (t' := s.toks) hk
  have at_l : (h'.push { cls := .type "tuple", data := .seq its.toArray }).get? h'.objs.size = some { cls := .type "tuple", data := .seq its.toArray } := Heap.get?_push_size _ rfl
  have I2 : Inv X pins σ (upd H h'.objs.size (.frz { cls := .type "tuple", data := .seq its.toArray } (.tup ys))) { s with heap := h'.push { cls := .type "tuple", data := .seq its.toArray } } :=
    I1.laid (t' := s.toks) (fun b o e => Heap.get?_push_of_some _ e) (Nat.le_refl _) (show ObjOk X.prog X.w _ _ _ (.frz _ (.tup ys)) from ⟨at_l, hz, its, rv, IsTup.new _ _⟩)
  exact ⟨.ref h'.objs.size, _, I2, rfl, q _ _ (I1.hok.fresh (Nat.le_refl _)) rfl rfl⟩
/-- t.index(x) of it -/
def tIdxF (K : PySem.W.Frag) (to : TE) (t : TA) : TE := fun σ H Q => to σ H fun x H1 => (∃ p ob xs, x = .ref p ∧ H1 p = some (.frz ob (.tup xs)) ∧ ob.cls = .type "tuple" ∧ ob.dict = none) ∧ t σ H1 fun vs H2 => rIndexT K x vs H2 Q
theorem pe_idxF {o e : Expr} {es : List Expr} {to : TE} {t : TA} {apos cpos : Pos} (ho : PE X o to) (ha : PA X (e :: es) t)
    (hbase : attributeBase o (Str.ofString "index") X.env (eval o X.env) = eval o X.env := by rfl)
    (hfew : ((backTo cpos (starEach (e :: es) X.env)).all (fun x => !x.1) && (backToKw cpos (keywordEach [] X.env)).all (fun x => x.1.isSome)
      && decide ((e :: es).length + ([] : List Keyword).length + (if ([] : List Keyword).isEmpty then 0 else 1) < 30)) = true := by rfl)
    (hline : (apos.endLine == cpos.line) = true := by rfl) (hs : starEach (e :: es) X.env = (false, eval e X.env) :: starEach es X.env := by rfl) (hplain : (backTo cpos (starEach es X.env)).any (·.1) = false := by rfl) :
    PE X (.Call (.Attribute o (Str.ofString "index") apos) (e :: es) [] cpos) (tIdxF X.K to t) := by
  refine ⟨fun pins s σ H Q I h => ?_⟩
  refine wpAny_Call_method_late hbase hfew hline rfl (thn (ho.run pins s σ H _ I h) fun v s1 ⟨x, H1, I1, r1, ty, q1⟩ => ?_)
  obtain ⟨p, ob, xs, rfl, hp, hc, hd⟩ := ty
  cases r1
  obtain ⟨at_p, _⟩ := I1.hok p _ hp
  refine ⟨"tuple", "tuple.index", F.plainAttrs_tuple, F.slot_tuple_index, F.type_tuple_index, ⟨ob, at_p, hc⟩, fun a e => ?_, ?_⟩
  · cases e
    exact ⟨ob, at_p, hd⟩
  have hA := ha.run cpos pins s1 σ H1 _ I1 q1
  rw [hs] at hA ⊢
  refine Calls.callWith_builtin (by show (false || (backTo cpos (starEach es X.env)).any (·.1)) = false; rw [hplain] <;> rfl) (Calls.evalArgs_plain ?_)
  exact thn hA fun us s2 ⟨vs, H2, I2, r2, q2⟩ => mt_indexT pins s2 σ H2 (.ref p) vs (.ref p) us Q I2 rfl r2 q2
end
end Tv
namespace Tv
open PySem PySem.Spec PyProof.Rows L2 Evl
/-! ### a text, some times over -/
def repS (a : Str) (n : Nat) : Str := ⟨(List.replicate n a.cps).foldl (· ++ ·) #[]⟩
def rMulS : R2 := fun x y H Q => ∃ (a : Str) (n : Nat), x = .str a ∧ y = .int (n : Int) ∧ 2 ≤ n ∧ n ≤ 100 ∧ 1 ≤ a.length ∧ a.length ≤ 100 ∧ (repS a n).length ≤ 10000 ∧ Q (.str (repS a n)) H
theorem op_mulS {X : Cx} : OpR X (binaryOp .Mult) rMulS := by
  intro pins s σ H x y v u Q I rx ry h
  obtain ⟨a, n, rfl, rfl, n2, n100, a1, a100, z, q⟩ := h
  obtain ⟨t, rfl⟩ := rx
  obtain ⟨t2, rfl⟩ := ry
  have b1 : ((n : Int) == 1) = false := beq_eq_false_iff_ne.mpr (by omega)
  have b2 : (a.length == 0) = false := beq_eq_false_iff_ne.mpr (by omega)
  refine PySem.P.mul_str (by
    rw [decide_eq_false (by omega), decide_eq_false (by omega)]
    rfl) (fun _ _ => ?_) (fun _ _ => ?_) ?_
  · have : (100 : Int) ≤ (2 ^ 63 - 1 : Int) / (n : Int) := Int.le_ediv_of_mul_le (by omega) (by omega)
    omega
  · have le : a.length * (n : Int).toNat ≤ 100 * 100 := Nat.mul_le_mul a100 (by omega)
    unfold Builtin.Str.tooLong
    exact decide_eq_false (by
      have : (10000 : Nat) ≤ sizeLine := by decide
      omega)
  · rw [if_neg (by omega), b1, b2]
    have zz : (repS a n).length ≤ sizeLine := Nat.le_trans z (by decide)
    exact ⟨zz, .str (repS a n), H, I.tok _, ⟨_, rfl⟩, q⟩
end Tv

namespace Tv
open PySem PySem.Spec PyProof.Rows L2 Evl
/-! ### values of any kind -/
section
variable {K : PySem.W.Frag} {σ : L2.St} {H : Hp} {te ta tb tl : TE} {t : TA}
theorem tyx_mono {H H' : Hp} (e : Ex H H') {v : V} {u : Value} (h : TyX K H v u) : TyX K H' v u := by
  cases h with
  | base h =>
    refine .base ?_
    cases h with
    | non => exact .non
    | bl x => exact .bl x
    | int i => exact .int i
    | str x => exact .str x
    | flt x => exact .flt x
    | lst h => exact .lst (e _ _ h)
    | frz h => exact .frz (e _ _ h)
    | tup h => exact .tup (e _ _ h)
    | dK h => exact .dK (e _ _ h)
    | dT h => exact .dT (e _ _ h)
    | ins h a b c d f => exact .ins (e _ _ h) a b c d f
  | byt b => exact .byt b
  | set h => exact .set (e _ _ h)
  | kList h c => exact .kList h c
  | kTuple h c => exact .kTuple h c
  | kDict h c => exact .kDict h c
  | fTuple h => exact .fTuple (e _ _ h)
  | fDict h => exact .fDict (e _ _ h)
theorem ev_isi {nm c : String} {b : Bool} {v : V} (h : Ev te σ H v) (ty : TyX K H v (.type nm)) (kb : kitB nm c = some b) : Ev (tCB (rIsi K) (tCons te (tCons (tC (.ty c)) tNil))) σ H (.bl b) :=
  fun H1 e Q q => h H1 e _ fun H2 e2 => ⟨v, .ty c, _, _, b, rfl, .ty _, tyx_mono (e.trans e2) ty, kit_ty kb, q H2 e2⟩
def notT : List String := ["NoneType", "bool", "int", "str", "list", "dict"]
def notS : List String := ["NoneType", "bool", "int", "tuple", "list", "dict"]
theorem notT_kit : ∀ nm ∈ notT, kitB nm "tuple" = some false := by decide +kernel
theorem notS_kit : ∀ nm ∈ notS, kitB nm "str" = some false := by decide +kernel
/-- what is not the empty tuple -/
def NoTup (K : PySem.W.Frag) (H : Hp) (v : V) : Prop := (∃ nm ∈ notT, TyX K H v (.type nm)) ∨ ∃ (p : Addr) (x : V) (xs : List V), v = .ref p ∧ H p = some (.tup (x :: xs))
/-- what is no text -/
def NoStr (K : PySem.W.Frag) (H : Hp) (v : V) : Prop := ∃ nm ∈ notS, TyX K H v (.type nm)
theorem NoTup.mono {H H' : Hp} (e : Ex H H') {v : V} (h : NoTup K H v) : NoTup K H' v := by
  rcases h with ⟨nm, m, ty⟩ | ⟨p, x, xs, rfl, hp⟩
  · exact .inl ⟨nm, m, tyx_mono e ty⟩
  · exact .inr ⟨p, x, xs, rfl, e _ _ hp⟩
theorem NoStr.mono {H H' : Hp} (e : Ex H H') {v : V} (h : NoStr K H v) : NoStr K H' v := by
  obtain ⟨nm, m, ty⟩ := h
  exact ⟨nm, m, tyx_mono e ty⟩
/-! ### evaluations told by a property that stays -/
def Stays (P : Hp → V → Prop) : Prop := ∀ {H H' : Hp} {v : V}, Ex H H' → P H v → P H' v
def EvP (te : TE) (σ : L2.St) (H : Hp) (P : Hp → V → Prop) : Prop := ∀ H1, Ex H H1 → ∀ Q : VK, (∀ v H2, Ex H1 H2 → P H2 v → Q v H2) → te σ H1 Q
def EvPs (t : TA) (σ : L2.St) (H : Hp) (P : Hp → V → Prop) (n : Nat) : Prop := ∀ H1, Ex H H1 → ∀ Q : List V → Hp → Prop, (∀ vs H2, Ex H1 H2 → vs.length = n → (∀ v ∈ vs, P H2 v) → Q vs H2) → t σ H1 Q
variable {P : Hp → V → Prop}
theorem evp_val {v : V} (h : Ev te σ H v) (hp : ∀ H1, P H1 v) : EvP te σ H P := fun H1 e Q q => h H1 e _ fun H2 e2 => q v H2 e2 (hp H2)
theorem evp_tup {xs : List V} (h : EvU te σ H xs) (hp : ∀ p H1, H1 p = some (.tup xs) → P H1 (.ref p)) : EvP te σ H P := fun H1 e Q q => h H1 e _ fun p H2 _ e2 h2 => q _ H2 e2 (hp p H2 h2)
theorem evp_lst {xs : List V} (h : EvL te σ H xs) (hp : ∀ p H1, H1 p = some (.lst xs) → P H1 (.ref p)) : EvP te σ H P := fun H1 e Q q => h H1 e _ fun p H2 _ e2 h2 => q _ H2 e2 (hp p H2 h2)
theorem evps_nil : EvPs tNil σ H P 0 := fun H1 _ Q q => q [] H1 (Ex.refl H1) rfl fun v hv => by cases hv
theorem evps_cons {n : Nat} (S : Stays P) (h : EvP te σ H P) (hr : EvPs t σ H P n) : EvPs (tCons te t) σ H P (n + 1) := fun H1 e Q q =>
  h H1 e _ fun v H2 e2 pv => hr H2 (e.trans e2) _ fun vs H3 e3 l pvs => q _ H3 (e2.trans e3) (by rw [List.length_cons, l]) fun w hw => by
    rcases List.mem_cons.mp hw with rfl | hw
    · exact S e3 pv
    · exact pvs w hw
/-- a tuple of one thing told by such a property -/
theorem eu_one {Q : VK} (h : EvP te σ H P) (k : ∀ p v H1, H p = none → Ex H H1 → H1 p = some (.tup [v]) → P H1 v → Q (.ref p) H1) (S : Stays P) : tTup (tCons te tNil) σ H Q :=
  h H (Ex.refl _) _ fun v H1 e1 pv => ⟨by show 1 ≤ sizeLine; decide, fun p hp => k p v _ (fresh_back e1 hp) (e1.trans (Ex.new hp)) upd_same (S (Ex.new hp) pv)⟩
end
end Tv

namespace Tv
open PySem PySem.Spec PyProof.Rows L2 Evl
/-! ### C(*e, e2, ..) -/
theorem evalArgs_star2 {M : Model} {A : Around} {E : Value → Shared → Prop} {s : Shared} {f : Value} {x y : Sem Value} {b : Bool} {rest : List (Bool × Sem Value)} {Q : Args → Shared → Prop}
    (h : wpAny M A (spliced ((true, x) :: (b, y) :: rest)) (fun vs s' => Q ⟨vs, []⟩ s') E s) : wpAny M A (evalArgs f true ((true, x) :: (b, y) :: rest) []) Q E s := by
  unfold evalArgs
  show wpAny M A (spliced ((true, x) :: (b, y) :: rest) >>= _) Q E s
  refine wpAny_bind (wpAny_mono h (fun vs s' h' => ?_) fun _ _ x => x)
  refine wpAny_holding ?_
  exact wpAny_bind (wpAny_pure (wpAny_bind (wpAny_pure (wpAny_pure h'))))
theorem callWith_S3 {M : Model} {A : Around} {E : Value → Shared → Prop} {s : Shared} {K : PySem.W.Frag} {env : Env} {pos p : Pos} {f : Value} {Q : Value → Shared → Prop} {h₀ : Heap} {e e2 : Expr} {rest : List Expr} (_X : K.In h₀) (hk : PySem.W.keepIn K f = true)
    (h : wpAny M A (spliced (backTo pos (starEach (.Starred e p :: e2 :: rest) env))) (fun vs s₁ => K.In s₁.heap ∧ wpAny M A (call f ([] ++ vs)) Q E s₁) E s)
    (he : starEach (.Starred e p :: e2 :: rest) env = (true, eval e env) :: (false, eval e2 env) :: starEach rest env := by rfl) :
    wpAny M A (callWith pos f [] (backTo pos (starEach (.Starred e p :: e2 :: rest) env)) []) Q E s := by
  rw [he] at h ⊢
  exact PySem.W.ks_call rfl (PySem.W.keeps_K hk) (evalArgs_star2 h)
section
variable {X : Cx} {k : Nat} {C : Addr} {x : Str} {sp : Sp} {e e2 : Expr} {es : List Expr} {pos p sp_ : Pos} {t : TA}
theorem pe_makeXP (D : MakeG X.prog X.w X.K X.mg X.base C k sp) (hr : Room (k + 1) X.A) (gd : X.A.guards = some []) (hg : Gl X x) (hm : X.mg x = some (.ref C)) (ha : PA X (.Starred e sp_ :: e2 :: es) t) (hdb : (x == ("__debug__" : Str)) = false := by decide)
    (he : starEach (.Starred e sp_ :: e2 :: es) X.env = (true, eval e X.env) :: (false, eval e2 X.env) :: starEach es X.env := by rfl) : PE X (.Call (.Name x p) (.Starred e sp_ :: e2 :: es) [] pos) (tMakeG C sp t) := by
  obtain ⟨f, M, F⟩ := D.ex
  refine ⟨fun pins s σ H Q I h => ?_⟩
  refine wpAny_Call_Name_kw (ld_glob I hg hm ?_ hdb)
  refine callWith_S3 (h₀ := X.base) I.ok.mod.kin M.kp (thn (ha.run pos pins s σ H _ I h) fun us s1 ⟨vs, H1, I1, r, q⟩ => ⟨I1.kIn, ?_⟩) he
  exact run_makeG M F hr gd I1 r q
end
end Tv

namespace Tv
open PySem PySem.Spec PyProof.Rows L2
/-! ### dict(xs), xs a list of lists of two -/
structure Blt6 (mg : Str → Option Value) : Prop where
  m_dict : mg "dict" = none
section
variable {prog : Program} {w : World} {A : Around} {E : Value → Shared → Prop}
theorem lst_stay {h h' : Heap} {b : Addr} {xs : Array Value} (L : h.IsList b xs) (k : ∀ o, h.get? b = some o → h'.get? b = some o) : h'.IsList b xs := by
  obtain ⟨o, e, r⟩ := L
  exact ⟨o, k o e, r⟩
/-- the walk over pairs that are lists -/
theorem pair_walk {R : Result → Shared → Prop} {dA jA lA : Addr} {its : Array Value} {back : Value} (cold : A.handled = none) (n1 : lA ≠ jA) (n2 : dA ≠ jA) (n3 : dA ≠ lA) :
    ∀ (todo : List (Key × Value)) (at_ : Nat) (have_ : List (Key × Value)) (ix : Int) (tt : Tok) (s : Shared), its.size = at_ + todo.length → have_.length + todo.length ≤ sizeLine →
      (∀ (j : Nat) (q : Key × Value), todo[j]? = some q → ∃ (b : Addr) (u : Value), its[at_ + j]? = some (.ref b) ∧ b ≠ dA ∧ b ≠ jA ∧ s.heap.IsList b #[u, q.2] ∧ keyIs q.1 u = true) →
      s.heap.IsListIter jA lA at_ → s.heap.IsList lA its → s.heap.DictOf (mixKind prog w) dA have_ →
      (∀ h' tk, h'.DictOf (mixKind prog w) dA (merged have_ todo) → (∀ b o, b ≠ dA → b ≠ jA → s.heap.get? b = some o → h'.get? b = some o) → R (.ok (.ret back)) { s with heap := h', toks := tk }) →
      codeAny (model prog w) A (.builtin "dict.update.loop" ⟨[.ref dA, .ref jA, .int ix tt, back], []⟩) R s
  | [], at_, have_, ix, tt, s, sz, many, each, isIt, isL, isD, fin => by
    refine codeAny_builtin ud_entry ?_; rw [Around.under_plainId ud_plain _]
    show wpAny _ A.in1 (pyNext (.ref jA) >>= _) _ _ s
    refine wpAny_bind (wpAny_pyNext_list_end (A := A.in1) cold isIt isL (by first | exact Array.getElem?_eq_none (Nat.le_of_eq sz) | (simp at sz; simp; omega)) fun h' he => ?_)
    show wpAny _ A.in1 (Builtin.Dict.addKeywords dA [] >>= _) _ _ _
    refine wpAny_bind (wpAny_pure (wpAny_pure ?_)); exact fin h' s.toks (isD.extBut he n2) fun b o _ nb e => he b o nb e
  | q :: todo, at_, have_, ix, tt, s, sz, many, each, isIt, isL, isD, fin => by
    obtain ⟨b, u, is_b, bd, bj, lb, key⟩ := each 0 q rfl
    rw [List.length_cons] at sz many
    refine codeAny_builtin ud_entry ?_; rw [Around.under_plainId ud_plain _]
    show wpAny _ A.in1 (pyNext (.ref jA) >>= _) _ _ s
    refine wpAny_bind (wpAny_pyNext_list_item (x := .ref b) isIt isL (by simpa using is_b) fun h1 it1 st1 => ?_)
    have lb1 : h1.IsList b #[u, q.2] := lb.extBut st1.extBut bj
    have isL1 : h1.IsList lA its := isL.extBut st1.extBut n1
    have isD1 : h1.DictOf (mixKind prog w) dA have_ := isD.extBut st1.extBut n2
    obtain ⟨o, e_o, cl_o, n, dat_o⟩ := id lb1
    show wpAny _ A.in1 (holding [Value.ref b] _ >>= _) _ _ _; refine wpAny_bind (wpAny_holding ?_)
    refine wpAny_bind (wpAny_tryCatch ?_); unfold Builtin.Dict.pairItems
    refine wpAny_bind (wpAny_typeOf (T := "list") ⟨o, e_o, cl_o⟩ ?_); rw [if_pos (by first | decide | rfl | simp)]
    refine wpAny_bind (wpAny_seqItems e_o dat_o (wpAny_pure ?_))
    show wpAny _ A.in1 (holding [u, q.2] (dictSet dA u q.2)) _ _ _
    refine wpAny_holding (wpAny_dictSet_pairs (knd := mixKind prog w) (k := q.1) key isD1 (fun h2 isD2 st2 => ?_) (by omega))
    refine wpAny_pure ⟨plainId_quiet ud_plain _, pair_walk (its := its) cold n1 n2 n3 todo (at_ + 1) (stored have_ q.1 q.2) (ix + 1) 0 _ (show its.size = at_ + 1 + todo.length by omega) ?_ (fun j q' e => ?_) ?_ ?_ isD2 fun h' tk hd' k => ?_⟩
    · have := stored_length_le have_ q.1 q.2; omega
    · obtain ⟨b', u', is_b', bd', bj', lb', key'⟩ := each (j + 1) q' (by simpa using e)
      exact ⟨b', u', by rw [show at_ + 1 + j = at_ + (j + 1) by omega]; exact is_b', bd', bj', (lb'.extBut st1.extBut bj').extBut st2.extBut bd', key'⟩
    · exact it1.at fun o' e => st2.extBut jA o' (Ne.symm n2) e
    · exact isL1.extBut st2.extBut (Ne.symm n3)
    · exact fin h' tk hd' fun c oc h3 h4 e => k c oc h3 h4 (st2.extBut c oc h3 (st1.extBut c oc h4 e))
theorem call_dict_lists {s : Shared} {lA : Addr} {ol : Obj} {its : Array Value} {n : Nat} {prs : List (Key × Value)} {Q : Value → Shared → Prop} (cold : A.handled = none) (e_l : s.heap.get? lA = some ol) (cl_l : ol.cls = .type "list") (nod : ol.dict = none)
    (dat_l : ol.data = .seq its n) (sz : its.size = prs.length) (many : prs.length ≤ sizeLine)
    (each : ∀ (j : Nat) (q : Key × Value), prs[j]? = some q → ∃ (b : Addr) (u : Value), its[j]? = some (.ref b) ∧ s.heap.IsList b #[u, q.2] ∧ keyIs q.1 u = true)
    (fin : ∀ h' tk, h'.DictOf (mixKind prog w) s.heap.objs.size (merged [] prs) → (∀ b o, s.heap.get? b = some o → h'.get? b = some o) → Q (.ref s.heap.objs.size) { s with heap := h', toks := tk }) :
    wpAny (model prog w) A (call (.type "dict") [.ref lA]) Q E s := by
  refine callType_codes (Q₁ := fun obj s₁ => obj = .ref s.heap.objs.size ∧ s₁ = { s with heap := s.heap.push { cls := .type "dict", data := .dict #[] } }) PySem.F.kt_called_dict (PySem.F.kt_typeCall_dict_1 _)
    PySem.F.entry_dict_init (kt_code_dict_new _ ⟨rfl, rfl⟩) ?_
  rintro obj s₁ ⟨rfl, rfl⟩
  have fresh : (s.heap.push { cls := .type "dict", data := .dict #[] }).DictOf (mixKind prog w) s.heap.objs.size [] := Heap.DictOf.new s.heap
  have old : ∀ b o, s.heap.get? b = some o → (s.heap.push { cls := .type "dict", data := .dict #[] }).get? b = some o := fun b o z => Heap.get?_push_of_some _ z
  refine ⟨fresh.typeIs, PySem.F.args_dict_init_2 _ _, ?_⟩
  unfold Builtin.«dict.__init__»; refine wpAny_bind ?_
  unfold Builtin.Dict.selfAndRest; refine wpAny_bind (wpAny_notOrdered_dict fresh.typeIs ?_)
  show wpAny _ _ (pure (s.heap.objs.size, [Value.ref lA])) _ _ _; refine wpAny_pure ?_
  show wpAny _ _ (Builtin.Dict.updateFrom "dict.__init__" s.heap.objs.size (.ref lA) [] .none) _ _ _
  unfold Builtin.Dict.updateFrom; refine wpAny_bind (wpAny_typeOf (T := "list") ⟨ol, old _ _ e_l, cl_l⟩ ?_)
  rw [if_pos (by first | decide | rfl | simp)]; refine wpAny_bind (miss_list (old _ _ e_l) cl_l dat_l nod cold fun h1 tk1 kp1 => ?_)
  rw [if_pos (show (none : Option Value).isNone = true from rfl)]; refine wpAny_bind (wpAny_rule ?_)
  have isL1 : h1.IsList lA its := ⟨ol, kp1 _ _ (old _ _ e_l), cl_l, n, dat_l⟩
  have lt1 : s.heap.objs.size < h1.objs.size := by
    have z : (s.heap.push { cls := .type "dict", data := .dict #[] }).get? s.heap.objs.size = some { cls := .type "dict", data := .dict #[] } := Heap.get?_push_size _ rfl
    exact Heap.lt_size (kp1 _ _ z)
  refine wpAny_bind (wpAny_pyIter_list isL1 ?_)
  have old2 : ∀ b o, h1.get? b = some o → (h1.push { cls := .type "list_iterator", data := .fields #[.ref lA, .int 0 0] }).get? b = some o := fun b o z => Heap.get?_push_of_some _ z
  have low : lA < s.heap.objs.size := Heap.lt_size e_l
  have key := pair_walk (prog := prog) (w := w) (A := A.in1) (R := wants (fun r s₂ => r = .none ∧ Q (.ref s.heap.objs.size) s₂) E) (dA := s.heap.objs.size) (jA := h1.objs.size) (lA := lA) (its := its) (back := Value.none) cold
    (Nat.ne_of_lt (Nat.lt_trans low lt1)) (Nat.ne_of_lt lt1) (Nat.ne_of_gt low) prs 0 [] 0 0
    { s with heap := h1.push { cls := .type "list_iterator", data := .fields #[.ref lA, .int 0 0] }, toks := tk1 } (by rw [sz, Nat.zero_add]) (by rw [List.length_nil, Nat.zero_add]; exact many)
    (fun j q e => by
      obtain ⟨b, u, a1, a2, a3⟩ := each j q e
      have blt : b < s.heap.objs.size := by obtain ⟨o, z, _⟩ := a2; exact Heap.lt_size z
      exact ⟨b, u, by rw [Nat.zero_add]; exact a1, Nat.ne_of_lt blt, Nat.ne_of_lt (Nat.lt_trans blt lt1), lst_stay a2 fun o z => old2 _ _ (kp1 _ _ (old _ _ z)), a3⟩)
    ⟨_, Heap.get?_push_size _ rfl, rfl, rfl⟩ (isL1.at fun o e => old2 _ _ e) ((fresh.at fun o e => kp1 _ _ e).at fun o e => old2 _ _ e)
    (fun h' tk hd' k => ⟨rfl, fin h' tk hd' fun b o e => k b o (Nat.ne_of_lt (Heap.lt_size e)) (Nat.ne_of_lt (Nat.lt_trans (Heap.lt_size e) lt1)) (old2 _ _ (kp1 _ _ (old _ _ e)))⟩)
  first
    | exact wpAny_pure ⟨plainId_quiet ud_plain _, key⟩
    | exact wpAny_bind (wpAny_pure (wpAny_pure ⟨plainId_quiet ud_plain _, key⟩))
end
section
variable {X : Cx}
theorem lists_two {pins : List (Addr × Obj)} {σ : L2.St} {H : Hp} {s : Shared} (I : Inv X pins σ H s) : ∀ {ps : List Addr} {kvs : List (Key × V)}, Paired (fun p kv => SqL X.K H p [kV kv.1, kv.2]) ps kvs →
    ∃ prs : List (Key × Value), KV kvs prs ∧ prs.length = ps.length ∧ ∀ (j : Nat) (q : Key × Value), prs[j]? = some q → ∃ (b : Addr) (u : Value), ps[j]? = some b ∧ s.heap.IsList b #[u, q.2] ∧ keyIs q.1 u = true
  | _, _, .nil => ⟨[], .nil, rfl, fun j q e => by simp at e⟩
  | _, _, .cons (a := p) (b := kv) h t => by
    obtain ⟨prs, r, many, each⟩ := lists_two I t
    obtain ⟨its, rv, pl, _⟩ := I.list h
    obtain ⟨u, y, rfl, ru, ry⟩ := vals2 rv
    refine ⟨(kv.1, y) :: prs, .cons ⟨rfl, ry⟩ r, by rw [List.length_cons, List.length_cons, many], fun j q e => ?_⟩
    cases j with
    | zero =>
      obtain rfl : (kv.1, y) = q := Option.some.inj e
      exact ⟨p, u, rfl, pl.isList, kV_is (P := X.prog) (w := X.w) ru⟩
    | succ j =>
      obtain ⟨b, u', a1, a2, a3⟩ := each j q (by simpa using e)
      exact ⟨b, u', by simpa using a1, a2, a3⟩
def rDictL (K : PySem.W.Frag) : List V → Hp → VK → Prop := fun xs H Q => ∃ (a : Addr) (ps : List Addr) (kvs : List (Key × V)), xs = [V.ref a] ∧ SqL K H a (ps.map V.ref) ∧ Paired (fun p kv => SqL K H p [kV kv.1, kv.2]) ps kvs ∧
  ∀ p, H p = none → Q (.ref p) (upd H p (.dK (mergeK [] kvs)))
theorem call_dictL (calm : X.calm = true) : CallR X (.type "dict") (rDictL X.K) := by
  intro pins s σ H xs us Q I r got
  obtain ⟨a, ps, kvs, rfl, isL, two, q⟩ := got
  obtain ⟨u, rfl, rx⟩ := vals1 r
  cases rx
  obtain ⟨its, rv, pl, fits⟩ := I.list isL
  obtain rfl := refs_at rv
  rw [List.length_map] at fits
  obtain ⟨prs, rel, many, each⟩ := lists_two I two
  obtain ⟨o, n, a1, a2, a3, a4⟩ := pl
  refine call_dict_lists (prs := prs) (I.ok.hd calm) a1 a2 a3 a4 (by simp [many]) (by rw [many]; exact fits) (fun j q' e => ?_) fun h' tk isD k => ?_
  · obtain ⟨b, u, z1, z2, z3⟩ := each j q' e
    exact ⟨b, u, by simp [z1], z2, z3⟩
  · have nm : (s.heap.objs.size == sysModules) = false := beq_eq_false_iff_ne.mpr (Nat.ne_of_gt I.big)
    have small : (mergeK [] kvs).length ≤ sizeLine := by
      refine Nat.le_trans (length_mergeK kvs []) ?_
      rw [List.length_nil, Nat.zero_add, rel.length, many]; exact fits
    exact ⟨.ref s.heap.objs.size, upd H s.heap.objs.size (.dK (mergeK [] kvs)), I.laid (t' := tk) k (Nat.le_refl _) (show ObjOk X.prog X.w _ _ _ (.dK (mergeK [] kvs)) from ⟨small, nm, merged [] prs, KV.merge rel .nil, isD⟩), rfl,
      q _ (I.hok.fresh (Nat.le_refl _))⟩
end
end Tv

namespace Tv
open PySem PySem.Spec PyProof.Rows L2 Evl
/-! ### a new list of rows of anything, walked by a comprehension that makes plain values -/
section
variable {K : PySem.W.Frag} {σ : L2.St} {H : Hp} {te tl : TE} {t : TT}
def EvRowsV (te : TE) (σ : L2.St) (H : Hp) (L : List (List V)) : Prop := ∀ H1, Ex H H1 → ∀ Q : VK, (∀ p H2 ys, H1 p = none → Ex H1 H2 → H2 p = some (.lst ys) → RowsV H2 ys L → Q (.ref p) H2) → te σ H1 Q
theorem erv_def {sp : Sp} {L : List (List V)} {vs : List V} {ta : TA} (h : EvA ta σ H vs) (hs : ∀ H1, Ex H H1 → ∀ Q : VK, (∀ p H2 xs, H1 p = none → Ex H1 H2 → H2 p = some (.lst xs) → RowsV H2 xs L → Q (.ref p) H2) → sp vs H1 Q E0) :
    EvRowsV (tDef sp ta) σ H L := fun H1 e Q q => h H1 e _ fun H2 e2 => hs H2 (e.trans e2) Q fun p H3 xs hp e3 h3 R => q p H3 xs (fresh_back e2 hp) (e2.trans e3) h3 R
theorem el_lcRV {L : List (List V)} {j : Nat} {vs : List Nat} (f : Nat → Bool) (v : Nat → V) (h : EvRowsV tl σ H L) (hz : L.length ≤ 40000) (hw : ∀ x, wipe ((wipe σ vs).set j (some x)) vs = wipe σ vs)
    (ht : ∀ (i : Nat) (a : Addr) (r : List V) H1, Ex H H1 → L[i]? = some r → H1 a = some (.tup r) → EvT t ((wipe σ vs).set j (some (.ref a))) H1 (f i))
    (he : ∀ (i : Nat) (a : Addr) (r : List V) H1, Ex H H1 → L[i]? = some r → H1 a = some (.tup r) → f i = true → Ev te ((wipe σ vs).set j (some (.ref a))) H1 (v i)) :
    EvL (tLc (iList K tl) (gName j) t te vs) σ H (given L.length f v) := fun H0 e Q q => h H0 e _ fun p H1 ys hp e1 hy R => ⟨p, rfl, ⟨ys, sq_of hy⟩, fun Dl hD =>
  lc_list (K := K) (xs := ys) (Cw H1 f v Dl) ⟨hD, Ex.new hD, upd_same⟩ (fun i H' _ p => sq_of (p.2.1 _ _ hy)) (fun i x H' hi pc => ⟨hw x, by
      obtain ⟨r, at_r, a, rfl, ha⟩ := R.get hi
      refine cw_turn pc ?_ (ht i a r H1 (e.trans e1) at_r ha) (fun hf => he i a r H1 (e.trans e1) at_r ha hf)
      have := (List.getElem?_eq_some_iff.mp at_r).1
      omega⟩)
    (fun H' pc => q Dl H' (fresh_back e1 pc.1) (e1.trans pc.2.1) (by rw [← R.len]; exact pc.2.2))⟩
end
end Tv

namespace Tv
open PySem PySem.Spec PyProof.Rows L2
/-! ### the way in and the way out, for a promise that knows the guards -/
section
variable {P : Program} {w : World} {K : PySem.W.Frag} {mg mb : Str → Option Value} {z : Shared} {r : Addr} {us : List Value} {is : List Int} {T : Hp}
/-- the object that the script is -/
abbrev scriptObj (us : List Value) : Obj := { cls := .type "list", data := .seq us.toArray }
/-- tracked: at most the script, and that frozen; and the written part doesn't know it then -/
structure Few (K : PySem.W.Frag) (r : Addr) (T : Hp) : Prop where
  one : ∀ {b}, T b ≠ none → b = r ∧ K.lookup r = none
  frz : ∀ {b u}, T b = some u → ∃ o l, u = .frz o (.lst l)
theorem Few.gone (W : Few K r T) {b : Addr} {o : Obj} (known : K.lookup b = some o) : T b = none := by
  cases hb : T b with
  | none => rfl
  | some u =>
    obtain ⟨eb, nk⟩ := W.one (b := b) (by rw [hb]; intro q; cases q)
    rw [← eb, known] at nk
    cases nk
theorem Few.dict (W : Few K r T) (at_r : z.heap.get? r = some (scriptObj us)) {b : Addr} {o : Obj} {es : Array DictEntry} {ep : Nat}
    (hb : z.heap.get? b = some o) (hd : o.data = .dict es ep) : T b = none := by
  cases ht : T b with
  | none => rfl
  | some u =>
    obtain ⟨rfl, _⟩ := W.one (b := b) (by rw [ht]; intro q; cases q)
    obtain rfl : scriptObj us = o := Option.some.inj (at_r.symm.trans hb)
    exact nomatch (show Data.seq us.toArray _ = Data.dict es ep from hd)
theorem Few.names (W : Few K r T) (at_r : z.heap.get? r = some (scriptObj us)) {b : Addr} {m : Str → Option Value} (h : z.heap.Ns b m) : (hidT z.heap T).Ns b m := by
  obtain ⟨o, es, ep, h1, h2, h3⟩ := h
  exact ⟨o, es, ep, hidT_get h1 (W.dict at_r h1 h2), h2, h3⟩
theorem run_script {sp : Sp} {lev : Nat} {f : Addr} {fd : FuncData} {x : Str} (KZ : K.In z.heap) (gl : z.heap.Ns mainGlobals mg) (bl : z.heap.Ns builtinsNs mb)
    (bb : ∀ y : Str, y ≠ "__name__" → mb y = bootBuiltins y) (nolim : z.heap.NoLimit) (nogen : z.gens = #[]) (at_r : z.heap.get? r = some (scriptObj us))
    (room : Room lev callerA) (bind : ∀ (s : Shared) (v : Value), BindsTo s fd ⟨[v], []⟩ [(x, v)])
    (G : ∀ base : Heap, K.In base → base.Ns mainGlobals mg → FnG P w K mg base lev f fd [x] sp)
    (W : Few K r T) (ok : HOk P w T z.heap) (start : sp [.ref r] T (fun v _ => v = .bl true) fun _ _ _ => False) :
    codeAny (model P w) callerA (.call (.ref f) ⟨[.ref r], []⟩) (fun res s' => res = .ok (.ret (.bool true)) ∧ OldK z.heap s'.heap ∧ s'.os = z.os ∧ AllBare s'.gens) z := by
  have kb : K.In (hidT z.heap T) := fun b o known => hidT_get (KZ b o known) (W.gone known)
  have gb := W.names at_r gl
  obtain ⟨mc, l1, l2⟩ := nolim
  have md : Mod K mg (hidT z.heap T) := ⟨kb, gb, ⟨mb, W.names at_r bl, bb⟩, ⟨mc, W.names at_r l1, l2⟩⟩
  have none_in : ∀ b : Addr, b ∉ ([] : List Addr) := fun b q => nomatch q
  have env : Env0 P w K mg (hidT z.heap T) callerA [] z T :=
    ⟨rfl, md, fun b o q => of_hidT q, Nat.le_of_eq (hidT_size _ _), trivial, fun b q => absurd q (none_in b), ok, .of_eq nogen⟩
  have ran := (G _ kb gb).run callerA [] z T ⟨[.ref r], []⟩ [.ref r] [.ref r] _ _ room rfl env (bind z (.ref r)) (.cons rfl .nil) start
  refine codeAny_mono ran fun res s' got => ?_
  match res, got with
  | .error _, bad => exact bad.elim
  | .ok .next, bad => exact bad.elim
  | .ok .brk, bad => exact bad.elim
  | .ok .cont, bad => exact bad.elim
  | .ok (.ret u), ⟨v, T', same_os, bare, kept, ok', rel, yes0⟩ =>
    have yes' : v = .bl true := yes0
    subst yes'
    have eu : u = .bool true := rel
    rw [eu]
    refine ⟨rfl, OldK.of_keep fun b o hb => ?_, same_os, bare⟩
    cases ht : T b with
    | none => exact kept.keep b o hb ht (none_in b) (by simp)
    | some v' =>
      obtain ⟨o1, l, rfl⟩ := W.frz ht
      have old := (ok b _ ht).1
      rw [hb] at old
      rw [Option.some.inj old]
      exact (ok' b _ (kept.frzs b o1 _ ht)).1
theorem run_law {sp : Sp} {lev : Nat} {f : Addr} {fd : FuncData} {x : Str} (KZ : K.In z.heap) (gl : z.heap.Ns mainGlobals mg) (bl : z.heap.Ns builtinsNs mb)
    (bb : ∀ y : Str, y ≠ "__name__" → mb y = bootBuiltins y) (nolim : z.heap.NoLimit) (nogen : z.gens = #[]) (at_r : z.heap.get? r = some (scriptObj us))
    (nums : IntsAre us is) (few : is.length ≤ sizeLine)
    (room : Room lev callerA) (bind : ∀ (s : Shared) (v : Value), BindsTo s fd ⟨[v], []⟩ [(x, v)])
    (G : ∀ base : Heap, K.In base → base.Ns mainGlobals mg → FnG P w K mg base lev f fd [x] sp)
    (start : ∀ T : Hp, SqL K T r (is.map V.int) → sp [.ref r] T (fun v _ => v = .bl true) fun _ _ _ => False) :
    codeAny (model P w) callerA (.call (.ref f) ⟨[.ref r], []⟩) (fun res s' => res = .ok (.ret (.bool true)) ∧ OldK z.heap s'.heap ∧ s'.os = z.os ∧ AllBare s'.gens) z := by
  have vals : Vals (is.map V.int) us := vals_ints nums
  have as_many := nums.length
  cases known : K.lookup r with
  | some o =>
    have eo : scriptObj us = o := Option.some.inj (at_r.symm.trans (KZ r o known))
    subst eo
    refine run_script (T := fun _ => none) KZ gl bl bb nolim nogen at_r room bind G ⟨fun q => absurd rfl q, fun q => nomatch q⟩ (fun b u q => nomatch q) (start _ (.inr ⟨_, us.toArray, _, known, rfl, rfl, rfl, ?_, ?_⟩))
    · rw [List.size_toArray, as_many]
      exact few
    · simpa using vals
  | none =>
    have here : ∀ {b : Addr} {u : HO}, (if b = r then some (HO.frz (scriptObj us) (.lst (is.map V.int))) else none) = some u → b = r ∧ u = .frz (scriptObj us) (.lst (is.map V.int)) := fun {b u} q => by
      by_cases eb : b = r
      · rw [if_pos eb] at q
        exact ⟨eb, (Option.some.inj q).symm⟩
      · rw [if_neg eb] at q
        cases q
    refine run_script (T := fun b => if b = r then some (.frz (scriptObj us) (.lst (is.map V.int))) else none) KZ gl bl bb nolim nogen at_r room bind G ⟨fun {b} q => ?_, fun {b u} q => ?_⟩ (fun b u q => ?_)
      (start _ (.inl (.inr ⟨scriptObj us, if_pos rfl⟩)))
    · by_cases eb : b = r
      · exact ⟨eb, known⟩
      · exact absurd (if_neg eb) q
    · exact ⟨_, _, (here q).2⟩
    · obtain ⟨rfl, rfl⟩ := here q
      exact ⟨at_r, by rw [List.length_map]; exact few, us, _, vals, at_r⟩
end
/-- a row's end, from the promise of its law -/
theorem ends {l : PySem.W.OpenLaw} {q : Program} {loose : List Str} {XP : (Str → Option Value) → Heap → Prop} {YP : World → Heap → Prop} {d : DefRec} {K : Params → PySem.W.Frag} {lev : Nat} {x : Str} {sp : PySem.W.Frag → Sp}
    (size : l.most = some 63) (nodef : d.params.defaults = []) (room : Room lev callerA) (inY : ∀ (w : World) (h : Heap), YP w h → (K w.params).In h)
    (G : ∀ (w : World) (mg : Str → Option Value) (f : Addr) (h : Heap), (K w.params).In h → h.Ns mainGlobals mg → mg d.name = some (.ref f) →
      ∃ fd : FuncData, (∀ (s : Shared) (v : Value), BindsTo s fd ⟨[v], []⟩ [(x, v)]) ∧ ∀ base : Heap, (K w.params).In base → base.Ns mainGlobals mg → FnG l.prog w (K w.params) mg base lev f fd [x] (sp (K w.params)))
    (start : ∀ (K : PySem.W.Frag) (T : Hp) (r : Addr) (is : List Int), is.length ≤ 63 → SqL K T r (is.map V.int) → sp K [.ref r] T (fun v _ => v = .bl true) fun _ _ _ => False) :
    PySem.W.WalkO q loose XP YP l.row.toRowW d [] (fun g vs => PySem.call g vs) := by
  refine Att.attach_call size nodef fun w _ z mg mb f _ _ _ _ r us is H Y _ _ _ named at_r nums few nogen => ?_
  have KZ := inY w _ Y
  obtain ⟨fd, bind, F⟩ := G w mg f _ KZ H.T.g named
  exact run_law KZ H.T.g H.T.b H.T.builtins H.T.nolimit nogen at_r nums (Nat.le_trans few (by decide)) room bind F fun T S => start _ T r is few S
end Tv

namespace Tv
open PySem PySem.Spec PyProof.Rows L2 Evl
def top (i : Nat) : Stmt := PySem.Challenge.pw_threevalues_k70_whole_all_is_made.main.body.getD i (.Pass ⟨0, 0, 0, 0⟩)
section
variable {P : Program} {w : World} {K : PySem.W.Frag} {mg : Str → Option Value} {base : Heap} {f : Addr} {fd : FuncData}

/-! ### where draws come from -/
/-- all but what stands at p is as it was -/
def But (p : Addr) (H H' : Hp) : Prop := ∀ b o, b ≠ p → H b = some o → H' b = some o
theorem But.trans {p : Addr} {H H1 H2 : Hp} (a : But p H H1) (b : But p H1 H2) : But p H H2 := fun c o n e => b c o n (a c o n e)
theorem But.of {p : Addr} {H H' : Hp} (e : Ex H H') : But p H H' := fun b o _ h => e b o h
theorem But.upd {p : Addr} {H : Hp} {o : HO} : But p H (upd H p o) := fun b u n e => by rw [upd_ne n]; exact e
/-- a spring at p -/
def Spr (H : Hp) (p : Addr) : Prop := ∃ x m c : Int, H p = some (.lst [.int x, .int m, .int c]) ∧ 0 ≤ x ∧ 0 ≤ m ∧ m < 2147483647
def spDraw : Sp := fun vs H Q _ => ∃ (p : Addr) (n : Int), vs = [.ref p, .int n] ∧ Spr H p ∧ 0 < n ∧ n ≤ 1000000 ∧
  ∀ (d : Int) (H' : Hp), 0 ≤ d → d < n → Spr H' p → But p H H' → Q (.int d) H'
abbrev slaw_draw : Stmt := top 70
abbrev Nlaw_draw : List Str := ["spring", "size", "digit", "far", "mixed"]
theorem sclaw_draw : FnScope Nlaw_draw ["spring", "size"] (defScope slaw_draw) := ⟨rfl, rfl, rfl, by decide +kernel, rfl, by decide +kernel, by decide +kernel⟩
theorem ok_draw (F : Fun K "_law_draw" "_law_draw" slaw_draw f fd) (B : Blt mg) : FnG P w K mg base 1 f fd ["spring", "size"] spDraw := by
  refine fnG F sclaw_draw (fun vs H Q E h => ?_) (fun cdv A fr s H vs Q E hr gd h => ?_)
  · obtain ⟨p, n, rfl, _⟩ := h
    rfl
  · obtain ⟨p, n, rfl, ⟨x, m, c, hp, x0, m0, m1⟩, n0, n1, k⟩ := h
    refine ⟨_, (pss_cons (ps_asg (pe_op op_add (pe_ix ix_list (pv 0) pe_int (fun _ _ => rfl)) pe_int) (pg_sub (pv 0) pe_int set_list))
  (pss_cons (ps_asg (pe_op op_mod (pe_callTy call_int1 (by rfl) B.m_int (by decide +kernel) (pa_cons (pe_op op_add (pe_op op_add (pe_op op_mul (pe_ix ix_list (pv 0) pe_int (fun _ _ => rfl)) pe_int) (pe_op op_mul pe_int (pe_ix ix_list (pv 0) pe_int (fun _ _ => rfl)))) pe_int) pa_nil)) pe_int) (pg_sub (pv 0) pe_int set_list))
  (pss_cons (ps_if (pt_cmpR op_gt (pe_ix ix_list (pv 0) pe_int (fun _ _ => rfl)) pe_int (nomark _)) (pss_cons (ps_asg (pe_callB call_divmod (by rfl) B.m_divmod (by decide +kernel) (pa_cons (pe_ix ix_list (pv 0) pe_int (fun _ _ => rfl)) (pa_cons (pv 1) pa_nil))) (pg_tup rfl (pgs_cons (pg_sub (pv 0) pe_int set_list) (pgs_cons (pg_name (i := 2) sclaw_draw.nd rfl (Or.inl rfl)) pgs_nil))))
  (pss_one (ps_ret (pv 2)))) pss_nil)
  (pss_cons (ps_set (i := 3) sclaw_draw.nd rfl (Or.inl rfl) (pe_op op_add (pe_ix ix_list (pv 0) pe_int (fun _ _ => rfl)) pe_int))
  (pss_cons (ps_set (i := 4) sclaw_draw.nd rfl (Or.inl rfl) (pe_op op_mod (pe_callTy call_int1 (by rfl) B.m_int (by decide +kernel) (pa_cons (pe_op op_add (pe_op op_mul (pv 3) (pe_ix ix_list (pv 0) pe_int (fun _ _ => rfl))) (pe_ix ix_list (pv 0) pe_int (fun _ _ => rfl))) pa_nil)) pe_int))
  (pss_one (ps_ret (pe_op op_mod (pe_callTy call_int1 (by rfl) B.m_int (by decide +kernel) (pa_cons (pe_op op_fdiv (pv 4) pe_int) pa_nil)) (pv 1))))))))), ?_⟩
    have a2 : ∀ y z v : V, atI [y, z, v] 2 = some v := fun _ _ _ => rfl
    have a1 : ∀ y z v : V, atI [y, z, v] 1 = some z := fun _ _ _ => rfl
    have a0 : ∀ y z v : V, atI [y, z, v] 0 = some y := fun _ _ _ => rfl
    -- spring[2] = spring[2] + 1
    refine ⟨_, rfl, p, _, 2, _, rfl, rfl, SqL.of hp, a2 _ _ _, c, 1, rfl, rfl, _, rfl, p, _, 2, 2, rfl, rfl, hp, rfl, ?_⟩
    -- spring[1] = ..
    refine ⟨_, rfl, p, _, 1, _, rfl, rfl, SqL.of upd_same, a1 _ _ _, m, _, rfl, rfl, Or.inr ⟨by decide, by decide⟩, _, rfl, p, _, 2, _, rfl, rfl, SqL.of upd_same, a2 _ _ _, _, _, rfl, rfl, Or.inl ⟨by decide, by decide⟩, _, _, rfl, rfl, _, _, rfl, rfl, .inl ⟨_, rfl, _, _, rfl, rfl, (by show (0 : Int) < 2147483647; decide), _, rfl, p, _, 1, 1, rfl, rfl, upd_same, rfl, ?_⟩⟩
    -- if spring[0] > 0
    refine ⟨_, rfl, p, _, 0, _, rfl, rfl, SqL.of upd_same, a0 _ _ _, x, 0, rfl, rfl, _, rfl, ?_⟩
    refine ite2 (fun hx => ?_) (fun hx => ?_)
    · -- spring[0], digit = divmod(spring[0], size); return digit
      refine ⟨_, rfl, p, _, 0, _, rfl, rfl, SqL.of upd_same, a0 _ _ _, _, rfl, x, n, rfl, ⟨n0, by omega⟩, fun q hq => ?_⟩
      have np : p ≠ q := ne_of_none upd_same hq
      refine ⟨q, _, rfl, SqT.of upd_same, rfl, _, _, rfl, _, rfl, p, _, 0, 0, rfl, rfl, (by rw [upd_ne np]; exact upd_same), rfl, _, _, rfl, rfl, ?_⟩
      refine ⟨_, rfl, ?_⟩
      have d0 : 0 ≤ x % n := Int.emod_nonneg _ (by omega)
      have d1 : x % n < n := Int.emod_lt_of_pos _ n0
      have e0 : 0 ≤ x / n := Int.ediv_nonneg x0 (by omega)
      have g0 : 0 ≤ (m * 69621 + 40503 * (c + 1) + 1) % 2147483647 := Int.emod_nonneg _ (by decide)
      have g1 : (m * 69621 + 40503 * (c + 1) + 1) % 2147483647 < 2147483647 := Int.emod_lt_of_pos _ (by decide)
      refine k (x % n) _ d0 d1 ⟨_, _, _, upd_same, e0, g0, g1⟩ ?_
      intro b o nb e
      rw [upd_ne nb, upd_ne (ne_of_none (H := upd (upd H p _) p _) (by rw [upd_ne nb, upd_ne nb]; exact e) hq), upd_ne nb, upd_ne nb]
      exact e
    · -- far = ..; mixed = ..; return ..
      refine ⟨_, rfl, p, _, 1, _, rfl, rfl, SqL.of upd_same, a1 _ _ _, _, _, rfl, rfl, ?_⟩
      have g0 : 0 ≤ (m * 69621 + 40503 * (c + 1) + 1) % 2147483647 := Int.emod_nonneg _ (by decide)
      have g1 : (m * 69621 + 40503 * (c + 1) + 1) % 2147483647 < 2147483647 := Int.emod_lt_of_pos _ (by decide)
      refine ⟨_, rfl, _, rfl, p, _, 1, _, rfl, rfl, SqL.of upd_same, a1 _ _ _, _, _, rfl, rfl, Or.inr ⟨by show -(2 ^ 64) < (m * 69621 + 40503 * (c + 1) + 1) % 2147483647; omega, by show (m * 69621 + 40503 * (c + 1) + 1) % 2147483647 < 2 ^ 64; omega⟩, _, rfl, p, _, 2, _, rfl, rfl, SqL.of upd_same, a2 _ _ _, _, _, rfl, rfl, .inl ⟨_, rfl, _, _, rfl, rfl, (by show (0 : Int) < 2147483629; decide), ?_⟩⟩
      refine ⟨_, rfl, _, _, rfl, rfl, ⟨by decide, by decide⟩, .inl ⟨_, rfl, _, rfl, _, n, rfl, rfl, n0, ?_⟩⟩
      refine k _ _ (Int.emod_nonneg _ (by omega)) (Int.emod_lt_of_pos _ n0) ⟨_, _, _, upd_same, x0, g0, g1⟩ ?_
      intro b o nb e
      rw [upd_ne nb, upd_ne nb]
      exact e
/-- one of a menu -/
def spOf (K : PySem.W.Frag) : Sp := fun vs H Q _ => ∃ (p a : Addr) (xs : List V), vs = [.ref p, .ref a] ∧ a ≠ p ∧ Spr H p ∧ SqL K H a xs ∧ xs ≠ [] ∧
  xs.length ≤ 1000000 ∧ ∀ (v : V) (H' : Hp), v ∈ xs → Spr H' p → But p H H' → Q v H'
abbrev slaw_of : Stmt := top 71
abbrev Nlaw_of : List Str := ["spring", "menu"]
theorem sclaw_of : FnScope Nlaw_of ["spring", "menu"] (defScope slaw_of) := ⟨rfl, rfl, rfl, by decide +kernel, rfl, by decide +kernel, by decide +kernel⟩
theorem seq_but {p a : Addr} {H H' : Hp} {xs : List V} (b : But p H H') (ne : a ≠ p) (h : SqL K H a xs) : SqL K H' a xs := by
  rcases h with (h | ⟨o, h⟩) | h
  · exact .inl (.inl (b _ _ ne h))
  · exact .inl (.inr ⟨o, b _ _ ne h⟩)
  · exact .inr h
theorem ok_of (F : Fun K "_law_of" "_law_of" slaw_of f fd) (B : Blt mg) (D__law_draw : DefG P w K mg base "_law_draw" ["spring", "size"] 1 spDraw) :
    FnG P w K mg base 2 f fd ["spring", "menu"] (spOf K) := by
  refine fnG F sclaw_of (fun vs H Q E h => ?_) (fun cdv A fr s H vs Q E hr gd h => ?_)
  · obtain ⟨p, a, xs, rfl, _⟩ := h
    rfl
  · obtain ⟨p, a, xs, rfl, nap, S, hS, ne, many, k⟩ := h
    have some_ : 0 < xs.length := List.length_pos_iff.mpr ne
    refine ⟨_, (pss_one (ps_ret (pe_ix ix_list (pv 1) (pe_def D__law_draw (hr.mono (by decide)) gd rfl (pa_cons (pv 0) (pa_cons (pe_callB call_len (by rfl) B.m_len (by decide +kernel) (pa_cons (pv 1) pa_nil)) pa_nil))) (fun _ _ => rfl)))), ?_⟩
    refine ⟨_, rfl, _, rfl, _, rfl, .ref a, xs.length, rfl, Or.inl ⟨xs, hS, rfl⟩, ?_⟩
    refine ⟨p, _, rfl, S, by omega, by omega, fun d H' d0 d1 S' bt => ?_⟩
    have lt : d.toNat < xs.length := by omega
    have e1 : xs[d.toNat]? = some xs[d.toNat] := List.getElem?_eq_getElem lt
    refine ⟨a, xs, d, _, rfl, rfl, seq_but bt nap hS, at_of (j := d.toNat) (by omega) e1, ?_⟩
    exact k _ H' (List.mem_of_getElem? e1) S' bt
/-- the springs -/
def spSpring (K : PySem.W.Frag) : Sp := fun vs H Q _ => ∃ (a : Addr) (ns : List Int) (n : Int), vs = [.ref a, .int n] ∧ SqL K H a (ns.map V.int) ∧
  ns.length ≤ 63 ∧ 0 ≤ n ∧ n ≤ 10 ∧ ∀ (p : Addr) (H' : Hp), H p = none → Ex H H' → Spr H' p → Q (.ref p) H'
abbrev slaw_spring : Stmt := top 69
abbrev Nlaw_spring : List Str := ["cells", "k", "cell", "mixed", "number"]
theorem sclaw_spring : FnScope Nlaw_spring ["cells", "k"] (defScope slaw_spring) := ⟨rfl, rfl, rfl, by decide +kernel, rfl, by decide +kernel, by decide +kernel⟩
theorem ok_spring (F : Fun K "_law_spring" "_law_spring" slaw_spring f fd) (B : Blt mg) : FnG P w K mg base 1 f fd ["cells", "k"] (spSpring K) := by
  refine fnG F sclaw_spring (fun vs H Q E h => ?_) (fun cdv A fr s H vs Q E hr gd h => ?_)
  · obtain ⟨p, n, m, rfl, _⟩ := h
    rfl
  · obtain ⟨a, ns, n, rfl, hS, many, n0, n1, k⟩ := h
    refine ⟨_, (Evl.pss_cut (ps_set (i := 2) sclaw_spring.nd rfl (Or.inl rfl) (pe_ifExp (pt_cmpR op_lt (pv 1) (pe_callB call_len (by rfl) B.m_len (by decide +kernel) (pa_cons (pv 0) pa_nil)) (nomark _)) (pe_ix ix_list (pv 0) (pv 1) (fun _ _ => rfl)) (pe_op op_add (pe_op op_mul pe_int (pv 1)) pe_int)))
  (pss_cons (ps_set (i := 3) sclaw_spring.nd rfl (Or.inl rfl) (pe_op op_add pe_int (pe_op op_mul pe_int (pv 1))))
  (pss_cons (ps_for PassesOwn.never rfl (pi_list (pe_op op_cat (pe_slice sl_list (pv 0) po_none (po_some pe_int)) (pe_lst (pa_cons (pv 2) pa_nil)))) (pg_name (i := 4) sclaw_spring.nd rfl (Or.inl rfl)) (pss_one (ps_set (i := 3) sclaw_spring.nd rfl (Or.inl rfl) (pe_op op_mod (pe_callTy call_int1 (by rfl) B.m_int (by decide +kernel) (pa_cons (pe_op op_add (pe_op op_add (pe_op op_mul (pv 3) pe_int) (pe_callTy call_int1 (by rfl) B.m_int (by decide +kernel) (pa_cons (pv 4) pa_nil))) (pe_op op_mul pe_int (pv 1))) pa_nil)) pe_int))))
  (pss_one (ps_ret (pe_lst (pa_cons (pe_ifExp (PW.pt (pw_or (pt_cmpR op_lt (pv 2) pe_int (nomark _)) (pw_or1 (pt_cmpR op_ge (pv 2) (pe_op op_pow pe_int pe_int) (nomark _))))) (pe_callB call_abs (by rfl) B.m_abs (by decide +kernel) (pa_cons (pv 2) pa_nil)) pe_int) (pa_cons (pv 3) (pa_cons pe_int pa_nil))))))))), ?_⟩
    -- cell
    refine ⟨fun σ H1 => H1 = H ∧ ∃ cell : Int, σ = [some (.ref a), some (.int n), some (.int cell), none, none], ?_, ?_⟩
    · refine ⟨_, rfl, _, rfl, _, _, rfl, Or.inl ⟨_, hS, rfl⟩, n, _, rfl, rfl, _, rfl, ?_⟩
      rw [List.length_map]
      by_cases c : n < (ns.length : Int)
      · rw [decide_eq_true c]
        refine iteT ⟨_, rfl, _, rfl, a, _, n, .int (ns.getD n.toNat 0), rfl, rfl, hS, at_of (j := n.toNat) (by omega) ?_, rfl, _, rfl⟩
        have lt : n.toNat < ns.length := by omega
        simp [List.getD_eq_getElem?_getD, lt]
      · rw [decide_eq_false c]
        exact iteF ⟨_, rfl, _, _, rfl, rfl, Or.inl ⟨by decide, by decide⟩, _, _, rfl, rfl, rfl, _, rfl⟩
    rintro σ H1 ⟨rfl, cell, rfl⟩
    -- mixed; the loop
    refine ⟨_, rfl, _, _, rfl, rfl, Or.inl ⟨by decide, by decide⟩, _, _, rfl, rfl, ?_⟩
    refine ⟨_, rfl, 8, rfl, a, _, rfl, hS, fun q hq => ?_⟩
    have fst : cutV (ns.map V.int) none (some 8) = (ns.take 8).map V.int := by
      unfold cutV
      rw [HT.sIx_none, show (8 : Int) = ((8 : Nat) : Int) from rfl, HT.sIx_nat, List.drop_zero, List.length_map, Nat.sub_zero, List.map_take, ← List.map_take, ← List.map_take]
      congr 1
      by_cases h8 : 8 ≤ ns.length
      · rw [Nat.min_eq_left h8]
      · rw [Nat.min_eq_right (by omega), List.take_of_length_le (Nat.le_refl _), List.take_of_length_le (by omega)]
    rw [fst]
    refine ⟨_, rfl, (by show 1 ≤ sizeLine; decide), fun q2 hq2 => ?_⟩
    have nq : q ≠ q2 := ne_of_none upd_same hq2
    refine ⟨q, q2, _, _, rfl, rfl, (by rw [upd_ne nq]; exact upd_same), upd_same, ?_, fun q3 hq3 => ?_⟩
    · rw [List.length_map, List.length_take]
      have : min 8 ns.length + 1 ≤ 9 := by omega
      exact Nat.le_trans this (by decide)
    have e3 : (ns.take 8).map V.int ++ [V.int cell] = (ns.take 8 ++ [cell]).map V.int := by rw [List.map_append]; rfl
    rw [e3]
    have ex : ∀ b o, H1 b = some o → upd (upd (upd H1 q (.lst ((ns.take 8).map V.int))) q2 (.lst [V.int cell])) q3 (.lst ((ns.take 8 ++ [cell]).map V.int)) b = some o := fun b o e => by
      have e1 : upd H1 q (.lst ((ns.take 8).map V.int)) b = some o := by rw [upd_ne (ne_of_none e hq)]; exact e
      have e2 : upd (upd H1 q (.lst ((ns.take 8).map V.int))) q2 (.lst [V.int cell]) b = some o := by rw [upd_ne (ne_of_none e1 hq2)]; exact e1
      rw [upd_ne (ne_of_none e2 hq3)]
      exact e2
    refine ⟨q3, rfl, ⟨_, SqL.of upd_same⟩, for_list (K := K) (a := q3) (xs := (ns.take 8 ++ [cell]).map V.int)
      (fun i σ H2 => H2 = upd (upd (upd H1 q (.lst ((ns.take 8).map V.int))) q2 (.lst [V.int cell])) q3 (.lst ((ns.take 8 ++ [cell]).map V.int)) ∧
        ∃ (m : Int) (v : Option V), σ = [some (.ref a), some (.int n), some (.int cell), some (.int m), v] ∧ 0 ≤ m ∧ m < 2147483647)
      ⟨rfl, _, none, rfl, by omega, by omega⟩ (fun i σ H2 _ ⟨e, _⟩ => by rw [e]; exact SqL.of upd_same) ?_ ?_⟩
    · rintro i y σ H2 hi ⟨rfl, m, v, rfl, m0, m1⟩
      obtain ⟨z, rfl⟩ : ∃ z, y = V.int z := by
        rw [List.getElem?_map] at hi
        cases e : (ns.take 8 ++ [cell])[i]? with
        | none => rw [e] at hi; cases hi
        | some z => rw [e] at hi; exact ⟨z, (Option.some.inj hi).symm⟩
      refine ⟨_, rfl, _, _, rfl, rfl, Or.inr ⟨by decide, by decide⟩, _, rfl, .inl ⟨_, rfl, _, _, rfl, rfl, _, rfl, _, _, rfl, rfl, Or.inl ⟨by decide, by decide⟩, _, _, rfl, rfl, .inl ⟨_, rfl, _, _, rfl, rfl, (by show (0 : Int) < 2147483647; decide), ?_⟩⟩⟩
      exact ⟨rfl, _, _, rfl, Int.emod_nonneg _ (by decide), Int.emod_lt_of_pos _ (by decide)⟩
    · rintro σ H2 ⟨rfl, m, v, rfl, m0, m1⟩
      have fin : ∀ (z : Int), 0 ≤ z → ∀ (r : Addr), upd (upd (upd H1 q (.lst ((ns.take 8).map V.int))) q2 (.lst [V.int cell])) q3 (.lst ((ns.take 8 ++ [cell]).map V.int)) r = none →
          Q (.ref r) (upd (upd (upd (upd H1 q (.lst ((ns.take 8).map V.int))) q2 (.lst [V.int cell])) q3 (.lst ((ns.take 8 ++ [cell]).map V.int))) r (.lst [V.int z, V.int m, V.int 0])) := fun z z0 r hr =>
        k r _ (fresh_back ex hr) (fun b o e => by rw [upd_ne (ne_of_none (ex b o e) hr)]; exact ex b o e) ⟨_, _, _, upd_same, z0, m0, m1⟩
      have big : (fun i j : Int => V.int (i ^ j.toNat)) 10 18 = V.int 1000000000000000000 := by decide
      refine ⟨_, rfl, _, _, rfl, rfl, _, rfl, ?_⟩
      by_cases c1 : cell < 0
      · rw [decide_eq_true c1]
        refine iteT (iteT ⟨_, rfl, _, rfl, _, rfl, (by show 3 ≤ sizeLine; decide), fun r hr => ?_⟩)
        rw [if_pos c1]
        exact fin _ (by omega) r hr
      · rw [decide_eq_false c1]
        refine iteF ⟨_, rfl, _, _, rfl, rfl, ⟨by decide, by decide, by decide⟩, _, _, rfl, rfl, _, rfl, ?_⟩
        refine ite2 (fun c2 => ?_) (fun c2 => ?_)
        · refine ⟨_, rfl, _, rfl, _, rfl, (by show 3 ≤ sizeLine; decide), fun r hr => ?_⟩
          rw [if_neg c1]
          exact fin _ (by omega) r hr
        · exact ⟨_, rfl, (by show 3 ≤ sizeLine; decide), fun r hr => fin 0 (Int.le_refl 0) r hr⟩
end
end Tv

namespace Tv
open PySem PySem.Spec PyProof.Rows L2 Evl
structure Blt3 (mg : Str → Option Value) : Prop where
  m_list : mg "list" = none
  m_sorted : mg "sorted" = none
  m_zip : mg "zip" = none
structure Blt5 (mg : Str → Option Value) : Prop where
  m_sum : mg "sum" = none
section
variable {P : Program} {w : World} {K : PySem.W.Frag} {mg : Str → Option Value} {base : Heap} {f aL : Addr} {fd : FuncData}
/-- gives v back, all tracked stays -/
abbrev Gives (v : V) (H : Hp) (Q : VK) : Prop := ∀ H', Ex H H' → Q v H'
/-- gives a new tuple of xs back -/
abbrev GivesT (xs : List V) (H : Hp) (Q : VK) : Prop := ∀ p H', H p = none → Ex H H' → H' p = some (.tup xs) → Q (.ref p) H'
/-- the module's LENGTHS -/
structure Lens (K : PySem.W.Frag) (mg : Str → Option Value) (aL : Addr) : Prop where
  mL : mg "LENGTHS" = some (.ref aL)
  lk : ∃ (o : Obj) (its : Array Value) (n : Nat), K.lookup aL = some o ∧ o.cls = .type "tuple" ∧ o.dict = none ∧ o.data = .seq its n ∧
    its.size ≤ sizeLine ∧ Vals [.int 3, .int 9, .int 27] its.toList
theorem Lens.sL (L : Lens K mg aL) (H : Hp) : SqT K H aL [.int 3, .int 9, .int 27] := by
  obtain ⟨o, its, n, h1, h2, h3, h4, h5, h6⟩ := L.lk
  exact Or.inr ⟨o, its, n, h1, h2, h4, h5, h6⟩
theorem Lens.ty (L : Lens K mg aL) (H : Hp) : tyV K "tuple" (.ref aL) H := by
  obtain ⟨o, its, n, h1, h2, h3, h4, h5, h6⟩ := L.lk
  exact Or.inr (Or.inl ⟨rfl, o, h1, h2, h3⟩)

abbrev sis_table : Stmt := top 17
abbrev Nis_table : List Str := ["x", "sign"]
theorem scis_table : FnScope Nis_table ["x"] (defScope sis_table) := ⟨rfl, rfl, rfl, by decide +kernel, rfl, by decide +kernel, by decide +kernel⟩
def spIsTable : Sp := fun vs H Q _ => ∃ (ds : List Nat) (n : Nat), IsTab ds n ∧ vs = [.str (tab ds)] ∧ Gives (.bl true) H Q
theorem lens_in {n : Nat} (h : n = 3 ∨ n = 9 ∨ n = 27) : inV (.int (n : Int)) [.int 3, .int 9, .int 27] = true := by
  rcases h with rfl | rfl | rfl <;> decide
theorem ok_is_table (F : Fun K "is_table" "is_table" sis_table f fd) (B : Blt mg) (LL : Lens K mg aL) : FnG P w K mg base 1 f fd ["x"] spIsTable := by
  refine fnG F scis_table (fun vs H Q E h => ?_) (fun cdv A fr s H vs Q E hr gd h => ?_)
  · obtain ⟨ds, n, _, rfl, _⟩ := h
    rfl
  · obtain ⟨ds, n, T, rfl, k⟩ := h
    refine ⟨_, (pss_cons (ps_if (PW.pt (pw_or (pt_not (pt_val (pe_callB call_isi (by rfl) B.m_isinstance (by decide +kernel) (pa_cons (pv 0) (pa_cons (pe_bltn (v := .ty "str") rfl B.m_str (by decide +kernel) rfl) pa_nil))))) (pw_or1 (pt_cmpR op_notIn_seq (pe_callB call_len (by rfl) B.m_len (by decide +kernel) (pa_cons (pv 0) pa_nil)) (pe_glob (v := .ref aL) rfl LL.mL rfl) (by rfl))))) (pss_one (ps_ret pe_bl)) pss_nil)
  (pss_one (ps_ret (pe_callB (cr_all rfl) (by rfl) B.m_all (by decide +kernel) (pa_cons (pe_lc (own := [("sign", 1)]) (g := gName 1) rfl scis_table.nd (pi_str (pv 0)) (blkOk_by (own := [("sign", 1)]) (N := Nis_table) (sc := defScope sis_table) (by decide +kernel)) (fun _ _ _ _ _ => (pg_name (i := 1) scis_table.nd rfl (Or.inl rfl))) (fun _ _ _ _ _ => pts_nil) (fun _ _ _ _ _ => (pe_cmpR op_in_sign (pv 1) pe_str (by rfl)))) pa_nil))))), ?_⟩
    refine ⟨_, rfl, .str (tab ds), .ty "str", _, _, true, rfl, .ty _, .base (.str _), kit_ty (by decide +kernel), true, rfl, iteF ?_⟩
    refine ⟨_, rfl, .str (tab ds), (tab ds).length, rfl, ⟨T.size, rfl⟩, aL, _, rfl, Or.inr (LL.sL H), rfl, rfl, false, ?_, iteF ?_⟩
    · have e : ds.length = 3 ∨ ds.length = 9 ∨ ds.length = 27 := by
        rcases T.cases with ⟨_, e⟩ | ⟨_, e⟩ | ⟨_, e⟩ <;> omega
      show V.bl (!inV (.int ((tab ds).length : Nat)) [.int 3, .int 9, .int 27]) = _
      rw [tab_len, lens_in e]
      rfl
    refine ⟨_, rfl, tab ds, rfl, fun D hD => lc_str (x := tab ds) (fun i H2 => Ex H H2 ∧ H2 D = some (.lst (List.replicate i (.bl true)))) ⟨Ex.new hD, upd_same⟩ ?_ ?_⟩
    · rintro i c H2 hi ⟨e2, h2⟩
      refine ⟨rfl, yes_go ?_⟩
      have il : i < ds.length := by
        have := (Array.getElem?_eq_some_iff.mp hi).1
        rw [tab_size] at this
        exact this
      refine ⟨_, rfl, c, _, rfl, rfl, List.replicate i (.bl true), h2, ?_, Ex.mut e2 hD, ?_⟩
      · rw [List.length_replicate]; exact Nat.lt_of_lt_of_le (by have := T.small; omega : i < 28) (by decide)
      · obtain ⟨d, _, d3, rfl⟩ := tab_sign T hi
        have e : decide (48 + d ∈ (Str.ofString "012").cps.toList) = true := by
          have : d = 0 ∨ d = 1 ∨ d = 2 := by omega
          rcases this with rfl | rfl | rfl <;> decide
        rw [upd_same, e, ← List.replicate_succ']
    · rintro H2 ⟨e2, h2⟩
      refine ⟨D, List.replicate (tab ds).cps.size true, rfl, SqL.of (by rw [h2, List.map_replicate]), ?_⟩
      have : (List.replicate (tab ds).cps.size true).all id = true := by simp
      rw [this]
      exact k H2 e2

abbrev smust_be_table : Stmt := top 20
abbrev Nmust_be_table : List Str := ["x"]
theorem scmust_be_table : FnScope Nmust_be_table ["x"] (defScope smust_be_table) := ⟨rfl, rfl, rfl, by decide +kernel, rfl, by decide +kernel, by decide +kernel⟩
def spMust : Sp := fun vs H Q _ => ∃ (ds : List Nat) (n : Nat), IsTab ds n ∧ vs = [.str (tab ds)] ∧ Gives .non H Q
theorem ok_must_be_table (F : Fun K "must_be_table" "must_be_table" smust_be_table f fd) (D_is_table : DefG P w K mg base "is_table" ["x"] 1 spIsTable) : FnG P w K mg base 2 f fd ["x"] spMust := by
  refine fnG F scmust_be_table (fun vs H Q E h => ?_) (fun cdv A fr s H vs Q E hr gd h => ?_)
  · obtain ⟨ds, n, _, rfl, _⟩ := h
    rfl
  · obtain ⟨ds, n, T, rfl, k⟩ := h
    refine ⟨_, (pss_one (ps_if (pt_not (pt_val (pe_def D_is_table (hr.mono (by decide)) gd rfl (pa_cons (pv 0) pa_nil)))) (pss_one ps_never) pss_nil)), ?_⟩
    exact ⟨_, rfl, ds, n, T, rfl, fun H1 e1 => ⟨true, rfl, iteF (k H1 e1)⟩⟩
theorem ev_lenLz {σ : L2.St} {H : Hp} {te : TE} {xs : List V} (h : EvL te σ H xs) : Ev (tCB (fun xs H Q => ∃ x n, xs = [x] ∧ LenV K x H n ∧ Q (.int (n : Nat)) H) (tCons te tNil)) σ H (.int (xs.length : Nat)) :=
  fun H1 e Q q => h H1 e _ fun p H2 _ e2 hx => ⟨.ref p, xs.length, rfl, Or.inl ⟨xs, SqL.of hx, rfl⟩, q H2 e2⟩
/-- over LENGTHS -/
theorem el_lcLens {σ : L2.St} {H : Hp} {te tl : TE} {tt : TT} {j : Nat} {vs : List Nat} (LL : Lens K mg aL) (f : Nat → Bool) (v : Nat → V) (h : Ev tl σ H (.ref aL))
    (hw : ∀ y, wipe ((wipe σ vs).set j (some y)) vs = wipe σ vs)
    (ht : ∀ (i : Nat) (x : V) H1, Ex H H1 → [V.int 3, V.int 9, V.int 27][i]? = some x → EvT tt ((wipe σ vs).set j (some x)) H1 (f i))
    (he : ∀ (i : Nat) (x : V) H1, Ex H H1 → [V.int 3, V.int 9, V.int 27][i]? = some x → f i = true → Ev te ((wipe σ vs).set j (some x)) H1 (v i)) :
    EvL (tLc (iTup K tl) (gName j) tt te vs) σ H (given 3 f v) := fun H0 e Q q => h H0 e _ fun H1 e1 => ⟨aL, rfl, ⟨[.int 3, .int 9, .int 27], LL.sL H1⟩, fun Dl hD =>
  lc_tup (xs := [V.int 3, V.int 9, V.int 27]) (Cw H1 f v Dl) ⟨hD, Ex.new hD, upd_same⟩ (fun i H' _ p => LL.sL H') (fun i x H' hi p =>
    ⟨hw _, cw_turn p (by have := (List.getElem?_eq_some_iff.mp hi).1; have l3 : [V.int 3, V.int 9, V.int 27].length = 3 := rfl; omega) (ht i x H1 (e.trans e1) hi) (fun hf => he i x H1 (e.trans e1) hi hf)⟩)
    (fun H' p => q Dl H' (fresh_back e1 p.1) (e1.trans p.2.1) p.2.2)⟩
abbrev splaces : Stmt := top 28
abbrev Nplaces : List Str := ["table", "length"]
theorem scplaces : FnScope Nplaces ["table"] (defScope splaces) := ⟨rfl, rfl, rfl, by decide +kernel, rfl, by decide +kernel, by decide +kernel⟩
def spPlaces : Sp := fun vs H Q _ => ∃ (ds : List Nat) (n : Nat), IsTab ds n ∧ vs = [.str (tab ds)] ∧ Gives (.int (n : Int)) H Q
theorem ok_places (F : Fun K "places" "places" splaces f fd) (B : Blt mg) (LL : Lens K mg aL) (D_must_be_table : DefG P w K mg base "must_be_table" ["x"] 2 spMust) : FnG P w K mg base 3 f fd ["table"] spPlaces := by
  refine fnG F scplaces (fun vs H Q E h => ?_) (fun cdv A fr s H vs Q E hr gd h => ?_)
  · obtain ⟨ds, n, _, rfl, _⟩ := h
    rfl
  · obtain ⟨ds, n, T, rfl, k⟩ := h
    refine ⟨_, (pss_cons (ps_expr (pe_def D_must_be_table (hr.mono (by decide)) gd rfl (pa_cons (pv 0) pa_nil)))
  (pss_one (ps_ret (pe_callB call_len (by rfl) B.m_len (by decide +kernel) (pa_cons (pe_lc (own := [("length", 1)]) (g := gName 1) rfl scplaces.nd (pi_tup (pe_glob (v := .ref aL) rfl LL.mL rfl)) (blkOk_by (own := [("length", 1)]) (N := Nplaces) (sc := defScope splaces) (by decide +kernel)) (fun _ _ _ _ _ => (pg_name (i := 1) scplaces.nd rfl (Or.inl rfl))) (fun _ _ _ _ _ => (pts_one (pt_cmpR op_le (pv 1) (pe_callB (show CallR _ _ (fun xs H Q => ∃ x n, xs = [x] ∧ LenV K x H n ∧ Q (.int (n : Nat)) H) from call_len) (by rfl) B.m_len (by decide +kernel) (pa_cons (pv 0) pa_nil)) (nomark _)))) (fun _ _ _ _ _ => (pv 1))) pa_nil))))), ?_⟩
    refine ⟨_, rfl, ds, n, T, rfl, fun H1 e1 => ?_⟩
    dsimp only
    have lens : EvL (tLc (iTup K (tC (.ref aL))) (gName 1) (tTest (tOp (rI0 fun i j => V.bl (decide (i ≤ j))) (tVar 1) (tCB (fun xs H Q => ∃ x n, xs = [x] ∧ LenV K x H n ∧ Q (V.int (n : Nat)) H) (tCons (tVar 0) tNil)))) (tVar 1) [1])
        [some (V.str (tab ds)), none] H1 (given 3 (fun i => decide ([(3 : Int), 9, 27].getD i 0 ≤ (((tab ds).length : Nat) : Int))) (fun i => .int ([(3 : Int), 9, 27].getD i 0))) := by
      refine el_lcLens LL _ _ ev_c (fun y => rfl) (fun i x H2 e2 hx => ?_) (fun i x H2 e2 hx _ => ?_)
      · have hi : i < 3 := (List.getElem?_eq_some_iff.mp hx).1
        have ex : x = .int ([(3 : Int), 9, 27].getD i 0) := by
          have : i = 0 ∨ i = 1 ∨ i = 2 := by omega
          rcases this with rfl | rfl | rfl <;> exact (Option.some.inj hx).symm
        rw [ex]
        exact et_test (ev_op (ev_var rfl) (ev_str_len (ev_var rfl) T.size) rv_I0)
      · have hi : i < 3 := (List.getElem?_eq_some_iff.mp hx).1
        have ex : x = .int ([(3 : Int), 9, 27].getD i 0) := by
          have : i = 0 ∨ i = 1 ∨ i = 2 := by omega
          rcases this with rfl | rfl | rfl <;> exact (Option.some.inj hx).symm
        rw [ex]
        exact ev_var rfl
    refine s_ret (v := .int ((given 3 (fun i => decide ([(3 : Int), 9, 27].getD i 0 ≤ (((tab ds).length : Nat) : Int))) (fun i => V.int ([(3 : Int), 9, 27].getD i 0))).length : Nat))
      (ev_lenLz lens) fun H2 e2 => ?_
    have cnt : (given 3 (fun i => decide ([(3 : Int), 9, 27].getD i 0 ≤ (((tab ds).length : Nat) : Int))) (fun i => V.int ([(3 : Int), 9, 27].getD i 0))).length = n := by
      rw [tab_len]
      rcases T.cases with ⟨rfl, l⟩ | ⟨rfl, l⟩ | ⟨rfl, l⟩ <;> rw [l] <;> decide
    rw [cnt]
    exact k H2 (e1.trans e2)
end
end Tv

namespace Tv
open PySem PySem.Spec PyProof.Rows L2 Evl
section
variable {P : Program} {w : World} {K : PySem.W.Frag} {mg : Str → Option Value} {base : Heap} {f aL aW : Addr} {fd : FuncData}
abbrev sis_integer : Stmt := top 15
abbrev Nis_integer : List Str := ["x"]
theorem scis_integer : FnScope Nis_integer ["x"] (defScope sis_integer) := ⟨rfl, rfl, rfl, by decide +kernel, rfl, by decide +kernel, by decide +kernel⟩
def spIsInt : Sp := fun vs H Q _ => ∃ i : Int, vs = [.int i] ∧ Gives (.bl true) H Q
theorem ok_is_integer (F : Fun K "is_integer" "is_integer" sis_integer f fd) (B : Blt mg) : FnG P w K mg base 1 f fd ["x"] spIsInt := by
  refine fnG F scis_integer (fun vs H Q E h => ?_) (fun cdv A fr s H vs Q E hr gd h => ?_)
  · obtain ⟨i, rfl, _⟩ := h
    rfl
  · obtain ⟨i, rfl, k⟩ := h
    refine ⟨_, (pss_one (ps_ret (pe_and (pe_callB call_isi (by rfl) B.m_isinstance (by decide +kernel) (pa_cons (pv 0) (pa_cons (pe_bltn (v := .ty "int") rfl B.m_int (by decide +kernel) rfl) pa_nil))) (pe_one (pe_not (pe_callB call_isi (by rfl) B.m_isinstance (by decide +kernel) (pa_cons (pv 0) (pa_cons (pe_bltn (v := .ty "bool") rfl B.m_bool (by decide +kernel) rfl) pa_nil)))))))), ?_⟩
    refine ⟨_, rfl, .int i, .ty "int", _, _, true, rfl, .ty _, .base (.int i), kit_ty (by decide +kernel), true, rfl, iteT ?_⟩
    refine ⟨_, rfl, .int i, .ty "bool", _, _, false, rfl, .ty _, .base (.int i), kit_ty (by decide +kernel), false, rfl, ?_⟩
    exact k H (Ex.refl H)
abbrev sis_index : Stmt := top 16
abbrev Nis_index : List Str := ["x", "count"]
theorem scis_index : FnScope Nis_index ["x", "count"] (defScope sis_index) := ⟨rfl, rfl, rfl, by decide +kernel, rfl, by decide +kernel, by decide +kernel⟩
def spIsIndex : Sp := fun vs H Q _ => ∃ a c : Nat, a < c ∧ vs = [.int (a : Int), .int (c : Int)] ∧ Gives (.bl true) H Q
theorem ok_is_index (F : Fun K "is_index" "is_index" sis_index f fd) (B : Blt mg) (D_is_integer : DefG P w K mg base "is_integer" ["x"] 1 spIsInt) : FnG P w K mg base 2 f fd ["x", "count"] spIsIndex := by
  refine fnG F scis_index (fun vs H Q E h => ?_) (fun cdv A fr s H vs Q E hr gd h => ?_)
  · obtain ⟨a, c, _, rfl, _⟩ := h
    rfl
  · obtain ⟨a, c, ac, rfl, k⟩ := h
    refine ⟨_, (pss_one (ps_ret (pe_and (pe_def D_is_integer (hr.mono (by decide)) gd rfl (pa_cons (pv 0) pa_nil)) (pe_one (pe_chain op_le op_lt pe_int (pv 0) (pv 1)))))), ?_⟩
    refine ⟨_, rfl, _, rfl, fun H1 e1 => ⟨true, rfl, iteT ?_⟩⟩
    refine ⟨_, rfl, _, _, rfl, rfl, true, congrArg V.bl (decide_eq_true (by omega : (0 : Int) ≤ (a : Int))), iteT ?_⟩
    refine ⟨_, rfl, _, _, rfl, rfl, ?_⟩
    show Q (.bl (decide ((a : Int) < (c : Int)))) H1
    rw [decide_eq_true (by omega)]
    exact k H1 e1
def spIsValue : Sp := fun vs H Q _ => ∃ a : Nat, a < 3 ∧ vs = [.int (a : Int)] ∧ Gives (.bl true) H Q
def spAreArgs : Sp := fun vs H Q _ => ∃ (p : Addr) (as : List Nat), vs = [.ref p, .int (as.length : Nat)] ∧ H p = some (.tup (iv as)) ∧
  (∀ a ∈ as, a < 3) ∧ as.length ≤ 3 ∧ Gives (.bl true) H Q
abbrev IsNums (H : Hp) (p : Addr) (as : List Nat) : Prop := H p = some (.tup (iv as)) ∨ H p = some (.lst (iv as))
def spIndexAt : Sp := fun vs H Q _ => ∃ (p : Addr) (as : List Nat), vs = [.ref p] ∧ IsNums H p as ∧ Gives (.int (num as : Nat)) H Q
theorem num_take {as : List Nat} {i a : Nat} (h : as[i]? = some a) : num (as.take (i + 1)) = 3 * num (as.take i) + a := by
  rw [List.take_succ, h]
  exact num_snoc _ _
def spValue : Sp := fun vs H Q _ => ∃ (ds : List Nat) (n : Nat) (p : Addr) (as : List Nat), IsTab ds n ∧ vs = [.str (tab ds), .ref p] ∧ H p = some (.tup (iv as)) ∧
  as.length = n ∧ (∀ a ∈ as, a < 3) ∧ Gives (.int (val ds as : Nat)) H Q
end
end Tv

namespace Tv
open PySem PySem.Spec PyProof.Rows L2 Evl
section
variable {P : Program} {w : World} {K : PySem.W.Frag} {mg : Str → Option Value} {base : Heap} {f aL : Addr} {fd : FuncData}
abbrev sall_ways : Stmt := top 24
abbrev Nall_ways : List Str := ["lots", "rows", "lot", "row", "x"]
theorem scall_ways : FnScope Nall_ways ["lots"] (defScope sall_ways) := ⟨rfl, rfl, rfl, by decide +kernel, rfl, by decide +kernel, by decide +kernel⟩
/-- gives a new list of new rows of anything back -/
abbrev GivesRowsV (L : List (List V)) (H : Hp) (Q : VK) : Prop := ∀ p H' xs, H p = none → Ex H H' → H' p = some (.lst xs) → RowsV H' xs L → Q (.ref p) H'
def FewWays (xss : List (List V)) : Prop := xss.length ≤ 20 ∧ ∀ i, i ≤ xss.length → (ways (xss.take i)).length ≤ 60000
def spWays : Sp := fun vs H Q _ => ∃ (p : Addr) (ls : List V) (xss : List (List V)), vs = [.ref p] ∧ H p = some (.lst ls) ∧ FewWays xss ∧
  (RowsV H ls xss ∨ ∃ zs : List Str, ls = zs.map V.str ∧ xss = zs.map signsOf) ∧ GivesRowsV (ways xss) H Q
theorem ok_all_ways (F : Fun K "all_ways" "all_ways" sall_ways f fd) : FnG P w K mg base 1 f fd ["lots"] spWays := by
  refine fnG F scall_ways (fun vs H Q E h => ?_) (fun cdv A fr s H vs Q E hr gd h => ?_)
  · obtain ⟨p, ls, xss, rfl, _⟩ := h
    rfl
  · obtain ⟨p, ls, xss, rfl, hp, ⟨short, few⟩, kind, k⟩ := h
    have many : ls.length = xss.length := by
      rcases kind with R | ⟨zs, rfl, rfl⟩
      · exact R.len
      · rw [List.length_map, List.length_map]
    have small : ∀ {i : Nat} {xs : List V}, xss[i]? = some xs → (ways (xss.take i)).length * xs.length ≤ 60000 := fun {i xs} h => by
      have := few (i + 1) (List.getElem?_eq_some_iff.mp h).1
      rw [ways_take h, growAll_len] at this
      exact this
    have row_short : ∀ {i j : Nat} {r : List V}, (ways (xss.take i))[j]? = some r → r.length ≤ 100 := fun {i j r} h => by
      have := ways_row (List.mem_of_getElem? h)
      rw [List.length_take] at this
      omega
    rcases kind with R | ⟨zs, rfl, rfl⟩
    · refine ⟨_, (pss_cons (ps_set (i := 1) scall_ways.nd rfl (Or.inl rfl) (pe_lst (pa_cons (pe_tup pa_nil) pa_nil)))
  (pss_cons (ps_for PassesOwn.never rfl (pi_list (pv 0)) (pg_name (i := 2) scall_ways.nd rfl (Or.inr rfl)) (pss_one (ps_setLc2 (i := 1) (own := [("row", 3), ("x", 4)]) (vs1 := [4]) rfl scall_ways.nd rfl rfl (sw_true rfl rfl rfl (by decide +kernel)) (pi_list (pv 1)) (blkOk_by (own := [("row", 3), ("x", 4)]) (N := Nall_ways) (sc := defScope sall_ways) (by decide +kernel)) (by decide) (fun _ _ _ _ _ => (pg_name (i := 3) scall_ways.nd rfl (Or.inl rfl))) (fun _ _ _ _ _ => pts_nil) (fun _ _ _ _ _ => (show PI _ _ _ (iTup K _) from (pi_tup (pv 2)))) (fun _ _ _ _ _ => (pg_name (i := 4) scall_ways.nd rfl (Or.inl rfl))) (fun _ _ _ _ _ => pts_nil) (fun _ _ _ _ _ => (pe_op (show OpR _ _ (rCatA K) from op_catA) (pv 3) (pe_tup (pa_cons (pv 4) pa_nil)))))))
  (pss_one (ps_ret (pv 1))))), ?_⟩
      refine ⟨by decide, fun t ht => ⟨by show 1 ≤ sizeLine; decide, fun l hl => ?_⟩⟩
      have tl : t ≠ l := ne_of_none upd_same hl
      have e0 := (Ex.new (o := .tup []) ht).trans (Ex.new (o := .lst [.ref t]) hl)
      refine ⟨_, rfl, p, rfl, ⟨ls, SqL.of (e0 _ _ hp)⟩, for_list (K := K) (a := p) (xs := ls)
        (fun i σ H2 => ∃ (l2 : Addr) (xs : List V) (v : Option V), σ = [some (.ref p), some (.ref l2), v, none, none] ∧ H l2 = none ∧ Ex H H2 ∧ H2 l2 = some (.lst xs) ∧ RowsV H2 xs (ways (xss.take i)))
        ?_ (fun i σ H2 _ ⟨_, _, _, _, _, e, _⟩ => SqL.of (e _ _ hp)) ?_ ?_⟩
      · refine ⟨l, [.ref t], none, rfl, fresh_back (Ex.new ht) hl, e0, upd_same, .cons ⟨t, rfl, by rw [upd_ne tl, upd_same]⟩ .nil⟩
      · rintro i x σ H2 hi ⟨l2, ys, v, rfl, hl0, e2, hl2, R2⟩
        obtain ⟨xs, at_i, a, rfl, ha⟩ := R.get hi
        have ha2 := e2 _ _ ha
        refine ⟨_, rfl, l2, rfl, ⟨ys, SqL.of hl2⟩, fun D hD => lc2_out (K := K) (a := l2) (xs := ys)
          (fun j H3 => Ex H2 H3 ∧ ∃ zs, H3 D = some (.lst zs) ∧ RowsV H3 zs (growAll ((ways (xss.take i)).take j) xs))
          ⟨Ex.new hD, [], upd_same, .nil⟩ (fun j H3 _ e => SqL.of (e.1 _ _ hl2)) ?_ ?_⟩
        · rintro j x H3 hx ⟨e3, zs, hD3, R3⟩
          obtain ⟨r, at_r, _⟩ := R2.get hx
          refine ⟨rfl, yes_go ?_⟩
          refine ⟨_, rfl, a, rfl, ⟨xs, SqT.of (e3 _ _ ha2)⟩, lc2_tup (K := K) (a := a) (xs := xs) (Grown D H2 (ways (xss.take i)) xs j r) ⟨e3, zs, hD3, ?_⟩ (fun m H4 _ e => SqT.of (e.1 _ _ ha2)) ?_ ?_⟩
          · have : grow r (xs.take 0) = [] := rfl
            rw [this, List.append_nil]
            exact R3
          · intro m y H4 hy pg
            exact ⟨rfl, yes_go (grown_turn hD R2 hx at_r hy (row_short at_r) (small at_i) pg (ev_var rfl) (ev_var rfl))⟩
          · intro H4 pg
            exact grown_end at_r pg
        · rintro H3 ⟨e3, zs, hD3, R3⟩
          rw [R2.len, List.take_length] at R3
          refine ⟨D, zs, _, rfl, fresh_back e2 hD, e2.trans e3, hD3, ?_⟩
          rw [ways_take at_i]
          exact R3
      · rintro σ H2 ⟨l2, xs, v, rfl, hl0, e2, hl2, R2⟩
        rw [many, List.take_length] at R2
        exact ⟨_, rfl, k l2 H2 xs hl0 e2 hl2 R2⟩
    · refine ⟨_, (pss_cons (ps_set (i := 1) scall_ways.nd rfl (Or.inl rfl) (pe_lst (pa_cons (pe_tup pa_nil) pa_nil)))
  (pss_cons (ps_for PassesOwn.never rfl (pi_list (pv 0)) (pg_name (i := 2) scall_ways.nd rfl (Or.inr rfl)) (pss_one (ps_setLc2 (i := 1) (own := [("row", 3), ("x", 4)]) (vs1 := [4]) rfl scall_ways.nd rfl rfl (sw_true rfl rfl rfl (by decide +kernel)) (pi_list (pv 1)) (blkOk_by (own := [("row", 3), ("x", 4)]) (N := Nall_ways) (sc := defScope sall_ways) (by decide +kernel)) (by decide) (fun _ _ _ _ _ => (pg_name (i := 3) scall_ways.nd rfl (Or.inl rfl))) (fun _ _ _ _ _ => pts_nil) (fun _ _ _ _ _ => (pi_str (pv 2))) (fun _ _ _ _ _ => (pg_name (i := 4) scall_ways.nd rfl (Or.inl rfl))) (fun _ _ _ _ _ => pts_nil) (fun _ _ _ _ _ => (pe_op (show OpR _ _ (rCatA K) from op_catA) (pv 3) (pe_tup (pa_cons (pv 4) pa_nil)))))))
  (pss_one (ps_ret (pv 1))))), ?_⟩
      refine ⟨by decide, fun t ht => ⟨by show 1 ≤ sizeLine; decide, fun l hl => ?_⟩⟩
      have tl : t ≠ l := ne_of_none upd_same hl
      have e0 := (Ex.new (o := .tup []) ht).trans (Ex.new (o := .lst [.ref t]) hl)
      refine ⟨_, rfl, p, rfl, ⟨_, SqL.of (e0 _ _ hp)⟩, for_list (K := K) (a := p) (xs := zs.map V.str)
        (fun i σ H2 => ∃ (l2 : Addr) (xs : List V) (v : Option V), σ = [some (.ref p), some (.ref l2), v, none, none] ∧ H l2 = none ∧ Ex H H2 ∧ H2 l2 = some (.lst xs) ∧ RowsV H2 xs (ways ((zs.map signsOf).take i)))
        ?_ (fun i σ H2 _ ⟨_, _, _, _, _, e, _⟩ => SqL.of (e _ _ hp)) ?_ ?_⟩
      · refine ⟨l, [.ref t], none, rfl, fresh_back (Ex.new ht) hl, e0, upd_same, .cons ⟨t, rfl, by rw [upd_ne tl, upd_same]⟩ .nil⟩
      · rintro i x σ H2 hi ⟨l2, ys, v, rfl, hl0, e2, hl2, R2⟩
        rw [List.getElem?_map] at hi
        obtain ⟨z, hz, rfl⟩ := Option.map_eq_some_iff.mp hi
        have at_i : (zs.map signsOf)[i]? = some (signsOf z) := by rw [List.getElem?_map, hz]; rfl
        refine ⟨_, rfl, l2, rfl, ⟨ys, SqL.of hl2⟩, fun D hD => lc2_out (K := K) (a := l2) (xs := ys)
          (fun j H3 => Ex H2 H3 ∧ ∃ zs_1, H3 D = some (.lst zs_1) ∧ RowsV H3 zs_1 (growAll ((ways ((zs.map signsOf).take i)).take j) (signsOf z)))
          ⟨Ex.new hD, [], upd_same, .nil⟩ (fun j H3 _ e => SqL.of (e.1 _ _ hl2)) ?_ ?_⟩
        · rintro j x H3 hx ⟨e3, us, hD3, R3⟩
          obtain ⟨r, at_r, _⟩ := R2.get hx
          refine ⟨rfl, yes_go ?_⟩
          refine ⟨_, rfl, z, rfl, lc2_str (x := z) (Grown D H2 (ways ((zs.map signsOf).take i)) (signsOf z) j r) ⟨e3, us, hD3, ?_⟩ ?_ ?_⟩
          · have : grow r ((signsOf z).take 0) = [] := rfl
            rw [this, List.append_nil]
            exact R3
          · intro m c H4 hy pg
            exact ⟨rfl, yes_go (grown_turn hD R2 hx at_r (signsOf_at hy) (row_short at_r) (small at_i) pg (ev_var rfl) (ev_var rfl))⟩
          · intro H4 pg
            rw [← signsOf_len] at pg
            exact grown_end at_r pg
        · rintro H3 ⟨e3, us, hD3, R3⟩
          rw [R2.len, List.take_length] at R3
          refine ⟨D, us, _, rfl, fresh_back e2 hD, e2.trans e3, hD3, ?_⟩
          rw [ways_take at_i]
          exact R3
      · rintro σ H2 ⟨l2, xs, v, rfl, hl0, e2, hl2, R2⟩
        rw [many, List.take_length] at R2
        exact ⟨_, rfl, k l2 H2 xs hl0 e2 hl2 R2⟩
abbrev sall_arguments : Stmt := top 25
abbrev Nall_arguments : List Str := ["count"]
theorem scall_arguments : FnScope Nall_arguments ["count"] (defScope sall_arguments) := ⟨rfl, rfl, rfl, by decide +kernel, rfl, by decide +kernel, by decide +kernel⟩
/-- gives a new list of new rows back -/
abbrev GivesRows (L : List (List Nat)) (H : Hp) (Q : VK) : Prop := ∀ p H' xs, H p = none → Ex H H' → H' p = some (.lst xs) → Rows H' xs L → Q (.ref p) H'
def spAllArgs : Sp := fun vs H Q _ => ∃ n : Nat, n ≤ 4 ∧ vs = [.int (n : Int)] ∧ GivesRows (tups n) H Q
theorem rowsV_rep {H : Hp} {a : Addr} {xs : List V} (h : H a = some (.tup xs)) : ∀ n : Nat, RowsV H (List.replicate n (.ref a)) (List.replicate n xs)
  | 0 => .nil
  | n + 1 => .cons ⟨a, rfl, h⟩ (rowsV_rep h n)
theorem few_tups : ∀ n, n ≤ 4 → FewWays (List.replicate n (iv [0, 1, 2])) := by
  intro n hn
  refine ⟨by rw [List.length_replicate]; omega, fun i hi => ?_⟩
  rw [List.length_replicate] at hi
  rw [List.take_replicate, Nat.min_eq_left hi, ways_iv, List.length_map]
  have : i ≤ 4 := by omega
  have h : ∀ i, i ≤ 4 → (tups i).length ≤ 81 := by decide
  exact Nat.le_trans (h i this) (by decide)
theorem ok_all_arguments (F : Fun K "all_arguments" "all_arguments" sall_arguments f fd) (D_all_ways : DefG P w K mg base "all_ways" ["lots"] 1 spWays) : FnG P w K mg base 2 f fd ["count"] spAllArgs := by
  refine fnG F scall_arguments (fun vs H Q E h => ?_) (fun cdv A fr s H vs Q E hr gd h => ?_)
  · obtain ⟨n, _, rfl, _⟩ := h
    rfl
  · obtain ⟨n, n4, rfl, k⟩ := h
    refine ⟨_, (pss_one (ps_ret (pe_def D_all_ways (hr.mono (by decide)) gd rfl (pa_cons (pe_op op_rep (pe_lst (pa_cons (pe_tup (pa_cons pe_int (pa_cons pe_int (pa_cons pe_int pa_nil)))) pa_nil)) (pv 0)) pa_nil)))), ?_⟩
    refine ⟨by show 3 ≤ sizeLine; decide, fun t ht => ⟨by show 1 ≤ sizeLine; decide, fun l hl => ?_⟩⟩
    have tl : t ≠ l := ne_of_none upd_same hl
    refine ⟨_, rfl, l, (n : Int), [.ref t], rfl, rfl, upd_same, by omega, by omega, by rw [Int.toNat_natCast]; exact Nat.le_trans (by show 1 * n ≤ 4; omega) (by decide), fun p hp => ?_⟩
    have e1 := (Ex.new (o := .tup (iv [0, 1, 2])) ht).trans (Ex.new (o := .lst [.ref t]) hl)
    have e2 := e1.trans (Ex.new (o := .lst (List.replicate (n : Int).toNat [V.ref t]).flatten) hp)
    have ht2 : (upd (upd (upd H t (.tup (iv [0, 1, 2]))) l (.lst [.ref t])) p (.lst (List.replicate (n : Int).toNat [V.ref t]).flatten)) t = some (.tup (iv [0, 1, 2])) := by
      rw [upd_ne (ne_of_none (by rw [upd_ne tl, upd_same]) hp), upd_ne tl, upd_same]
    refine ⟨p, List.replicate n (.ref t), List.replicate n (iv [0, 1, 2]), rfl, ?_, few_tups n n4, Or.inl (rowsV_rep ht2 n), fun q H' xs hq e hx R => ?_⟩
    · have e0 : (List.replicate (n : Int).toNat [V.ref t]).flatten = List.replicate n (V.ref t) := by rw [Int.toNat_natCast, flat_one]
      rw [← e0]
      exact upd_same
    · rw [ways_iv] at R
      exact k q H' xs (fresh_back e2 hq) (e2.trans e) hx (Rows.ofV R)
end
end Tv

namespace Tv
open PySem PySem.Spec PyProof.Rows L2 Evl
section
variable {P : Program} {w : World} {K : PySem.W.Frag} {mg : Str → Option Value} {base : Heap} {f aL : Addr} {fd : FuncData}
def stride (n p : Nat) : Nat := 3 ^ n / 3 ^ (p + 1)
/-- whether a turn of the first comprehension gives its number -/
def isStart (s : Nat) (i : Nat) : Bool := decide (V.int ((i : Int) / (s : Int) % 3) = V.int 0)
def cut3 (ds : List Nat) (a s : Int) : Str := Txt.sliceBy (tab ds) (some (a, 0)) (some (a + 3 * s, 0)) (s, 0)
def differs (ds : List Nat) (s : Nat) (v : V) : Bool := match v with
  | .int a => decide (1 < ((dist (seen (cut3 ds a s) (cut3 ds a s).cps.size)).length : Int))
  | _ => false
def startsV (n p : Nat) : List V := given (3 ^ n) (isStart (stride n p)) (fun i => V.int (i : Int))
def countsB (ds : List Nat) (n p : Nat) : Bool := (startsV n p).any (differs ds (stride n p))
abbrev scounts : Stmt := top 29
abbrev Ncounts : List Str := ["table", "place", "stride", "starts", "at"]
theorem sccounts : FnScope Ncounts ["table", "place"] (defScope scounts) := ⟨rfl, rfl, rfl, by decide +kernel, rfl, by decide +kernel, by decide +kernel⟩
def spCounts : Sp := fun vs H Q _ => ∃ (ds : List Nat) (n p : Nat), IsTab ds n ∧ p < n ∧ vs = [.str (tab ds), .int (p : Int)] ∧ Gives (.bl (countsB ds n p)) H Q
theorem stride_pos {n p : Nat} (h : p < n) : 0 < stride n p := Nat.div_pos (Nat.pow_le_pow_right (by decide) h) (Nat.pow_pos (by decide))
theorem stride_le {n p : Nat} (h : n ≤ 3) : stride n p ≤ 27 := Nat.le_trans (Nat.div_le_self _ _) (Nat.le_trans (Nat.pow_le_pow_right (by decide) h) (by decide))
theorem ok_counts (F : Fun K "counts" "counts" scounts f fd) (B : Blt mg) (LL : Lens K mg aL) : FnG P w K mg base 1 f fd ["table", "place"] spCounts := by
  refine fnG F sccounts (fun vs H Q E h => ?_) (fun cdv A fr s H vs Q E hr gd h => ?_)
  · obtain ⟨ds, n, p, _, _, rfl, _⟩ := h
    rfl
  · obtain ⟨ds, n, p, T, hp, rfl, k⟩ := h
    refine ⟨_, (pss_cons (ps_set (i := 2) sccounts.nd rfl (Or.inr rfl) (pe_op op_fdiv (pe_callB call_len (by rfl) B.m_len (by decide +kernel) (pa_cons (pv 0) pa_nil)) (pe_ix ix_tup (pe_glob (v := .ref aL) rfl LL.mL rfl) (pv 1) (fun _ _ => rfl))))
  (pss_cons (ps_setLc (i := 3) (own := [("at", 4)]) (g := gName 4) rfl sccounts.nd rfl rfl (sw_true rfl rfl rfl (by decide +kernel)) (pi_range1 rfl B.m_range (pa_cons (pe_callB call_len (by rfl) B.m_len (by decide +kernel) (pa_cons (pv 0) pa_nil)) pa_nil)) (blkOk_by (own := [("at", 4)]) (N := Ncounts) (sc := defScope scounts) (by decide +kernel)) (fun _ _ _ _ _ => (pg_name (i := 4) sccounts.nd rfl (Or.inl rfl))) (fun _ _ _ _ _ => (pts_one (pt_cmpR op_eq (pe_op op_mod (pe_op op_fdiv (pv 4) (pv 2)) pe_int) pe_int (nomark _)))) (fun _ _ _ _ _ => (pv 4)))
  (pss_one (ps_ret (pe_callB (cr_any rfl) (by rfl) B.m_any (by decide +kernel) (pa_cons (pe_lc (own := [("at", 4)]) (g := gName 4) rfl sccounts.nd (pi_list (pv 3)) (blkOk_by (own := [("at", 4)]) (N := Ncounts) (sc := defScope scounts) (by decide +kernel)) (fun _ _ _ _ _ => (pg_name (i := 4) sccounts.nd rfl (Or.inl rfl))) (fun _ _ _ _ _ => pts_nil) (fun _ _ _ _ _ => (pe_cmpR op_gt (pe_lenSetS rfl (by rfl) B.m_len (by rfl) B.m_set (pe_slice3 (pv 0) (pv 4) (pe_op op_add (pv 4) (pe_op op_mul pe_int (pv 2))) (pv 2))) pe_int (nomark _)))) pa_nil)))))), ?_⟩
    have np : n ≤ 3 := T.n3
    have lv : atI [V.int 3, V.int 9, V.int 27] (p : Int) = some (.int ((3 ^ (p + 1) : Nat) : Int)) := by
      have : p = 0 ∨ p = 1 ∨ p = 2 := by omega
      rcases this with rfl | rfl | rfl <;> rfl
    have sz : ((tab ds).length : Int) / ((3 ^ (p + 1) : Nat) : Int) = ((stride n p : Nat) : Int) := by
      rw [tab_len, T.len]
      rfl
    have p3 : ((3 ^ (p + 1) : Nat) : Int) < 1073741824 := by
      have : p = 0 ∨ p = 1 ∨ p = 2 := by omega
      rcases this with rfl | rfl | rfl <;> decide
    have p0 : 0 < ((3 ^ (p + 1) : Nat) : Int) := by
      have : p = 0 ∨ p = 1 ∨ p = 2 := by omega
      rcases this with rfl | rfl | rfl <;> decide
    have sp := stride_pos hp
    have sl := stride_le (p := p) np
    -- stride
    refine q_asg (v := V.int ((stride n p : Nat) : Int)) (fun H1 e Q1 q => ?_) fun H0 e0 => ?_
    · refine ⟨_, rfl, .str (tab ds), (tab ds).length, rfl, ⟨T.size, rfl⟩, _, rfl, aL, _, _, _, rfl, rfl, LL.sL H1, lv, _, _, rfl, rfl, ⟨p0, p3⟩, ?_⟩
      have q' := q H1 (Ex.refl H1)
      rw [← sz] at q'
      exact q'
    -- starts
    refine q_asgL (xs := startsV n p) ?_ ?_
    · have e1 : startsV n p = given ((tab ds).length : Int).toNat (isStart (stride n p)) (fun i => V.int (i : Int)) := by
        rw [tab_len, T.len, Int.toNat_natCast]
        rfl
      rw [e1]
      refine el_lcR1 (isStart (stride n p)) (fun i => V.int (i : Int)) (ea_cons (ev_str_len (ev_var rfl) T.size) ea_nil)
        ⟨by omega, by rw [tab_len]; have := T.small; omega⟩ (fun x => rfl) (fun i H1 e hi => ?_) (fun i H1 e hi _ => ev_var rfl)
      refine et_test (ev_op (ev_op (x := V.int ((i : Int) / ((stride n p : Nat) : Int))) (ev_op (ev_var rfl) (ev_var rfl) ?_) ev_c ?_) ev_c (rv_eq rfl))
      · exact rv_I (C := CDiv) (g := fun i j => V.int (i / j)) ⟨by omega, by omega⟩
      · exact rv_I (C := fun _ j => 0 < j) (g := fun i j => V.int (i % j)) (by decide)
    · intro q H1 hq e1 h1
      refine s_ret (v := .bl (countsB ds n p)) ?_ fun H2 e2 => k H2 ((e0.trans e1).trans e2)
      have e9 : countsB ds n p = ((startsV n p).map (differs ds (stride n p))).any id := by
        unfold countsB
        rw [List.any_map]
        rfl
      rw [e9]
      refine ev_anyN ?_
      have e8 : ((startsV n p).map (differs ds (stride n p))).map V.bl = given (startsV n p).length (fun _ => true) (fun i => .bl (differs ds (stride n p) (nth (startsV n p) i))) := by
        rw [given_all (startsV n p) (fun x => .bl (differs ds (stride n p) x)), List.map_map]
        rfl
      rw [e8]
      refine el_lcL (xs := startsV n p) (fun _ => true) (fun i => .bl (differs ds (stride n p) (nth (startsV n p) i))) (ev_var rfl) (sq_of h1)
        (by have := given_len (3 ^ n) (isStart (stride n p)) (fun i => V.int (i : Int)); have e := T.len; have := T.small; unfold startsV; omega)
        (fun x => rfl) (fun i x H2 e hx => fun H3 e3 Q3 q3 => q3 H3 (Ex.refl H3)) (fun i x H2 e hx _ => ?_)
      rw [nth_of hx]
      obtain ⟨a, ha, _, rfl⟩ := given_mem (List.mem_of_getElem? hx)
      have small : (cut3 ds a (stride n p)).cps.size ≤ 27 := by
        have := Txt.sliceBy_le (tab ds) (some ((a : Int), 0)) (some ((a : Int) + 3 * (stride n p : Nat), 0)) (((stride n p : Nat) : Int), 0) (by show ((stride n p : Nat) : Int) ≠ 0; omega)
        have h2 := T.small
        rw [tab_len] at this
        exact Nat.le_trans this h2
      refine ev_op (x := V.int ((dist (seen (cut3 ds a (stride n p)) (cut3 ds a (stride n p)).cps.size)).length : Int)) (ev_lenset (ev_sl3 (ev_var rfl) (ev_var rfl) (ev_op (ev_var rfl) (ev_op ev_c (ev_var rfl) ?_) rv_I0) (ev_var rfl) (by omega) T.size) (Nat.le_trans small (by decide))) ev_c rv_I0
      exact rv_I (C := CMul) (g := fun i j => V.int (i * j)) (Or.inl ⟨by decide, by decide⟩)
abbrev scounting : Stmt := top 30
abbrev Ncounting : List Str := ["table", "place"]
theorem sccounting : FnScope Ncounting ["table"] (defScope scounting) := ⟨rfl, rfl, rfl, by decide +kernel, rfl, by decide +kernel, by decide +kernel⟩
def spCounting : Sp := fun vs H Q _ => ∃ (ds : List Nat) (n : Nat), IsTab ds n ∧ vs = [.str (tab ds)] ∧ GivesT (given n (countsB ds n) (fun i => V.int (i : Int))) H Q
theorem ok_counting (F : Fun K "counting" "counting" scounting f fd) (B : Blt mg) (D_places : DefG P w K mg base "places" ["table"] 3 spPlaces)
    (D_counts : DefG P w K mg base "counts" ["table", "place"] 1 spCounts) : FnG P w K mg base 4 f fd ["table"] spCounting := by
  refine fnG F sccounting (fun vs H Q E h => ?_) (fun cdv A fr s H vs Q E hr gd h => ?_)
  · obtain ⟨ds, n, _, rfl, _⟩ := h
    rfl
  · obtain ⟨ds, n, T, rfl, k⟩ := h
    refine ⟨_, (pss_one (ps_ret (pe_callTy call_tuple_of (by rfl) B.m_tuple (by decide +kernel) (pa_cons (pe_lc (own := [("place", 1)]) (g := gName 1) rfl sccounting.nd (pi_range1 rfl B.m_range (pa_cons (pe_def D_places (hr.mono (by decide)) gd rfl (pa_cons (pv 0) pa_nil)) pa_nil)) (blkOk_by (own := [("place", 1)]) (N := Ncounting) (sc := defScope scounting) (by decide +kernel)) (fun _ _ _ _ _ => (pg_name (i := 1) sccounting.nd rfl (Or.inl rfl))) (fun _ _ _ _ _ => (pts_one (pt_val (pe_def D_counts (hr.mono (by decide)) gd rfl (pa_cons (pv 0) (pa_cons (pv 1) pa_nil)))))) (fun _ _ _ _ _ => (pv 1))) pa_nil)))), ?_⟩
    refine s_retU (eu_tupleN ?_) k
    have e1 : given n (countsB ds n) (fun i => V.int (i : Int)) = given ((n : Int)).toNat (countsB ds n) (fun i => V.int (i : Int)) := by rw [Int.toNat_natCast]
    rw [e1]
    refine el_lcR1 (countsB ds n) (fun i => V.int (i : Int)) (ea_cons (ev_def (ea_cons (ev_var rfl) ea_nil) fun H1 _ Q q => ⟨ds, n, T, rfl, q⟩) ea_nil)
      ⟨by omega, by have := T.n3; omega⟩ (fun x => rfl) (fun i H1 e hi => ?_) (fun i H1 e hi _ => ev_var rfl)
    exact et_B (ev_def (ea_cons (ev_var rfl) (ea_cons (ev_var rfl) ea_nil)) fun H1 _ Q q => ⟨ds, n, i, T, by omega, rfl, q⟩)
abbrev sis_onto : Stmt := top 31
abbrev Nis_onto : List Str := ["table", "sign"]
theorem scis_onto : FnScope Nis_onto ["table"] (defScope sis_onto) := ⟨rfl, rfl, rfl, by decide +kernel, rfl, by decide +kernel, by decide +kernel⟩
def ontoB (ds : List Nat) : Bool := [0, 1, 2].all fun (c : Nat) => decide (48 + c ∈ (tab ds).cps.toList)
def spOnto : Sp := fun vs H Q _ => ∃ (ds : List Nat) (n : Nat), IsTab ds n ∧ vs = [.str (tab ds)] ∧ Gives (.bl (ontoB ds)) H Q
theorem ok_is_onto (F : Fun K "is_onto" "is_onto" sis_onto f fd) (B : Blt mg) (D_must_be_table : DefG P w K mg base "must_be_table" ["x"] 2 spMust) :
    FnG P w K mg base 3 f fd ["table"] spOnto := by
  refine fnG F scis_onto (fun vs H Q E h => ?_) (fun cdv A fr s H vs Q E hr gd h => ?_)
  · obtain ⟨ds, n, _, rfl, _⟩ := h
    rfl
  · obtain ⟨ds, n, T, rfl, k⟩ := h
    refine ⟨_, (pss_cons (ps_expr (pe_def D_must_be_table (hr.mono (by decide)) gd rfl (pa_cons (pv 0) pa_nil)))
  (pss_one (ps_ret (pe_callB (cr_all rfl) (by rfl) B.m_all (by decide +kernel) (pa_cons (pe_lc (own := [("sign", 1)]) (g := gName 1) rfl scis_onto.nd (pi_str pe_str) (blkOk_by (own := [("sign", 1)]) (N := Nis_onto) (sc := defScope sis_onto) (by decide +kernel)) (fun _ _ _ _ _ => (pg_name (i := 1) scis_onto.nd rfl (Or.inl rfl))) (fun _ _ _ _ _ => pts_nil) (fun _ _ _ _ _ => (pe_cmpR op_in_sign (pv 1) (pv 0) (by rfl)))) pa_nil))))), ?_⟩
    refine q_drop (ev_def (ea_cons (ev_var rfl) ea_nil) fun H1 _ Q q => ⟨ds, n, T, rfl, q⟩) fun H0 e0 => ?_
    refine s_ret (v := .bl (ontoB ds)) ?_ fun H2 e2 => k H2 (e0.trans e2)
    have e9 : ontoB ds = [decide (48 ∈ (tab ds).cps.toList), decide (49 ∈ (tab ds).cps.toList), decide (50 ∈ (tab ds).cps.toList)].all id := rfl
    rw [e9]
    refine ev_allN ?_
    refine el_lcS (x := Str.ofString "012") (fun _ => true) (fun i => .bl (decide ((Str.ofString "012").cps.getD i 0 ∈ (tab ds).cps.toList))) ev_c (by decide) (fun x => rfl)
      (fun i c H1 e hi => et_yes) (fun i c H1 e hi _ => ?_)
    have e2 : (Str.ofString "012").cps.getD i 0 = c := by rw [← Array.getElem?_toList] at hi; simp [Array.getD_eq_getD_getElem?, ← Array.getElem?_toList, hi]
    rw [e2]
    exact ev_inSign (ev_var rfl) (ev_var rfl)
end
end Tv

namespace Tv
open PySem PySem.Spec PyProof.Rows L2 Evl
section
variable {P : Program} {w : World} {K : PySem.W.Frag} {mg : Str → Option Value} {base : Heap} {f aL : Addr} {fd : FuncData}
abbrev svalues_of : Stmt := top 26
abbrev Nvalues_of : List Str := ["table", "row", "sign"]
theorem scvalues_of : FnScope Nvalues_of ["table"] (defScope svalues_of) := ⟨rfl, rfl, rfl, by decide +kernel, rfl, by decide +kernel, by decide +kernel⟩
def spValues : Sp := fun vs H Q _ => ∃ (ds : List Nat) (n : Nat), IsTab ds n ∧ vs = [.str (tab ds)] ∧ ∀ p H', H p = none → Ex H H' → H' p = some (.dT (kvs ds n)) → Q (.ref p) H'
theorem ok_values_of (F : Fun K "values_of" "values_of" svalues_of f fd) (B : Blt mg) (B3 : Blt3 mg) (D_places : DefG P w K mg base "places" ["table"] 3 spPlaces) (D_all_arguments : DefG P w K mg base "all_arguments" ["count"] 2 spAllArgs) :
    FnG P w K mg base 4 f fd ["table"] spValues := by
  refine fnG F scvalues_of (fun vs H Q E h => ?_) (fun cdv A fr s H vs Q E hr gd h => ?_)
  · obtain ⟨ds, n, _, rfl, _⟩ := h
    rfl
  · obtain ⟨ds, n, T, rfl, k⟩ := h
    refine ⟨_, (pss_one (ps_ret (pe_dcT (own := [("row", 1), ("sign", 2)]) (g := gTup K 2 (gCons (gName 1) (gCons (gName 2) gNil))) rfl scvalues_of.nd (hu_of hr) (pi_zipLS rfl B3.m_zip (pa_cons (pe_def D_all_arguments (hr.mono (by decide)) gd rfl (pa_cons (pe_def D_places (hr.mono (by decide)) gd rfl (pa_cons (pv 0) pa_nil)) pa_nil)) (pa_cons (pv 0) pa_nil))) (blkOk_by (own := [("row", 1), ("sign", 2)]) (N := Nvalues_of) (sc := defScope svalues_of) (by decide +kernel)) (fun _ _ _ _ _ => (pg_tup rfl (pgs_cons (pg_name (i := 1) scvalues_of.nd rfl (Or.inl rfl)) (pgs_cons (pg_name (i := 2) scvalues_of.nd rfl (Or.inl rfl)) pgs_nil)))) (fun _ _ _ _ _ => (pv 1)) (fun _ _ _ _ _ => (pe_callTy call_int_str (by rfl) B.m_int (by decide +kernel) (pa_cons (pv 2) pa_nil)))))), ?_⟩
    have n3 := T.n3
    refine ⟨_, rfl, ds, n, T, rfl, fun H1 e1 => ⟨n, Nat.le_succ_of_le n3, rfl, fun lr H2 xs hlr e2 hx R => ?_⟩⟩
    have xl : xs.length = 3 ^ n := by rw [R.len, (tups_ok n n3).1]
    refine ⟨_, rfl, lr, xs, tab ds, rfl, SqL.of hx, (tab_ascii T).2, fun D hD => dc_zipLS (K := K) (a := lr) (xs := xs) (y := tab ds) (by rw [xl, (tab_ascii T).1])
      (fun i H3 => Ex H2 H3 ∧ H3 D = some (.dT (kvU ds n i))) ⟨Ex.new hD, upd_same⟩ (fun i H3 p => SqL.of (p.1 _ _ hx)) ?_ ?_⟩
    · rintro i x tu H3 hi ⟨e3, h3⟩ htu
      obtain ⟨r, at_r, a, rfl, ha⟩ := R.get hi
      have il : i < 3 ^ n := by rw [← xl]; exact (List.getElem?_eq_some_iff.mp hi).1
      have er := tupI_of at_r
      have et := Ex.new (o := .tup [V.ref a, signAt i (tab ds)]) htu
      have dl : i < ds.length := by rw [T.len]; exact il
      have d3 : ds.getD i 0 < 3 := by
        rw [List.getD_eq_getElem?_getD, List.getElem?_eq_getElem dl]
        exact T.dig _ (List.getElem_mem dl)
      rw [sign_tab dl] at et ⊢
      refine ⟨tu, [.ref a, .str ⟨#[48 + ds.getD i 0]⟩], rfl, SqT.of upd_same, rfl, ⟨_, _, rfl, ⟨_, _, rfl, rfl, rfl, ?_⟩⟩⟩
      refine ⟨_, rfl, ⟨_, rfl, ⟨#[48 + ds.getD i 0]⟩, _, rfl, int_digit _ d3, (by show 1 ≤ 640; decide), kvU ds n i, keyR r, a, rfl, ?_, et _ _ h3, ?_, Ex.mut (e3.trans et) hD, ?_⟩⟩
      · rw [keyR_kV]
        exact et _ _ (e3 _ _ ha)
      · rw [kvU_len]
        exact Nat.lt_of_le_of_lt (by have := T.small; rw [T.len] at this; omega : i ≤ 27) (by decide)
      · rw [upd_same, kvU_succ, er, putK_new]
        rw [← er]
        exact kvU_new n3 il
    · rintro H3 ⟨e3, h3⟩
      rw [xl] at h3
      exact k D H3 (fresh_back (e1.trans e2) hD) ((e1.trans e2).trans e3) h3
abbrev smade_from : Stmt := top 27
abbrev Nmade_from : List Str := ["values", "rows", "arguments"]
theorem scmade_from : FnScope Nmade_from ["values", "rows"] (defScope smade_from) := ⟨rfl, rfl, rfl, by decide +kernel, rfl, by decide +kernel, by decide +kernel⟩
def spMade : Sp := fun vs H Q _ => ∃ (ds : List Nat) (n : Nat) (p q : Addr) (ys : List V) (rs : List (List Nat)) (m : Nat), IsTab ds n ∧ vs = [.ref p, .ref q] ∧ H p = some (.dT (kvs ds n)) ∧
  H q = some (.tup ys) ∧ Rows H ys rs ∧ rs.length = n ∧ (∀ r ∈ rs, r.length = m ∧ ∀ a ∈ r, a < 3) ∧ m ≤ 100 ∧ GivesT (iv (makes ds rs m)) H Q
theorem ok_made_from (F : Fun K "made_from" "made_from" smade_from f fd) (B : Blt mg) (B3 : Blt3 mg) :
    FnG P w K mg base 1 f fd ["values", "rows"] spMade := by
  refine fnG F scmade_from (fun vs H Q E h => ?_) (fun cdv A fr s H vs Q E hr gd h => ?_)
  · obtain ⟨ds, n, p, q, ys, rs, m, _, rfl, _⟩ := h
    rfl
  · obtain ⟨ds, n, p, q, ys, rs, m, T, rfl, hp, hq, R, many, ok, small, k⟩ := h
    refine ⟨_, (pss_one (ps_ret (pe_callTy call_tuple_of (by rfl) B.m_tuple (by decide +kernel) (pa_cons (pe_lc (own := [("arguments", 2)]) (g := gName 2) rfl scmade_from.nd (pi_zipsT rfl B3.m_zip (pv 1)) (blkOk_by (own := [("arguments", 2)]) (N := Nmade_from) (sc := defScope smade_from) (by decide +kernel)) (fun _ _ _ _ _ => (pg_name (i := 2) scmade_from.nd rfl (Or.inl rfl))) (fun _ _ _ _ _ => pts_nil) (fun _ _ _ _ _ => (pe_dget (hu_of hr) (pv 0) (pv 2) (fun _ _ => rfl)))) pa_nil)))), ?_⟩
    have n1 := T.n1
    have n3 := T.n3
    refine s_retU (xs := iv (makes ds rs m)) (eu_tupleN fun H1 e1 Q1 k1 => ?_) k
    obtain ⟨ps, rfl, e2, at_p⟩ := rows_pairs R
    have pl : ps.length = n := by
      have := congrArg List.length e2
      rw [List.length_map, List.length_map] at this
      omega
    have wide : ∀ c ∈ ps, c.2.length = m := fun c hc => by
      have : c.2 ∈ ps.map (·.2) := List.mem_map_of_mem hc
      rw [e2] at this
      obtain ⟨r, hr', e⟩ := List.mem_map.mp this
      rw [← e, iv_len]
      exact (ok r hr').1
    rw [← given_makes] at k1
    refine ⟨_, rfl, q, ps, m, rfl, SqT.of (e1 _ _ hq), by omega, by omega, fun c hc => ⟨SqT.of (e1 _ _ (at_p c hc)), wide c hc⟩, fun D hD => lc_zipsT (K := K) (ps := ps) (m := m)
      (Cw H1 (fun _ => true) (fun i => V.int ((val ds (rs.map fun r => r.getD i 0) : Nat) : Int)) D) ⟨hD, Ex.new hD, upd_same⟩
      (fun i H2 pc c hc => SqT.of (pc.2.1 _ _ (e1 _ _ (at_p c hc)))) (fun i tu H2 hi htu pc => ⟨rfl, ?_⟩) (fun H2 pc => k1 D H2 pc.1 pc.2.1 pc.2.2)⟩
    obtain ⟨c1, c2, c3⟩ := pc
    have et := Ex.new (o := .tup (ps.map fun p => p.2.getD i .non)) htu
    have row := side_iv (i := i) e2 (fun r hr' => (ok r hr').1) hi
    refine yes_go ⟨_, rfl, _, rfl, p, V.int ((val ds (rs.map fun r => r.getD i 0) : Nat) : Int), rfl, ?_, given i (fun _ => true) (fun i => V.int ((val ds (rs.map fun r => r.getD i 0) : Nat) : Int)), et _ _ c3, ?_, c1, Ex.mut (c2.trans et) c1, ?_⟩
    · have g := DGet.t (H := upd H2 tu (.tup (ps.map fun p => p.2.getD i .non))) (a := p) (b := tu) (k := keyR (rs.map fun r => r.getD i 0)) (et _ _ (c2 _ _ (e1 _ _ hp))) (by rw [upd_same, row, keyR_kV])
      rw [kvs_at n1 n3 (by rw [List.length_map]; exact many) (col_ok ok hi)] at g
      exact g
    · have := given_len i (fun _ => true) (fun i => V.int ((val ds (rs.map fun r => r.getD i 0) : Nat) : Int))
      exact Nat.lt_of_le_of_lt (by omega : _ ≤ 100) (by decide)
    · rw [given_yes rfl]
      exact upd_same
end
end Tv

namespace Tv
open PySem PySem.Spec PyProof.Rows L2 Evl
/-- the eighteen words -/
def words : List Str := ["set 0", "set 1", "set 2", "set 01", "set 02", "set 12", "part 0", "part 1", "part 2", "turn", "sums", "chain 0", "chain 1", "chain 2", "centre 0", "centre 1", "centre 2", "mixed"].map Str.ofString
/-- the module's WORDS -/
structure Wds (K : PySem.W.Frag) (mg : Str → Option Value) (aW : Addr) : Prop where
  mW : mg "WORDS" = some (.ref aW)
  lk : ∃ (o : Obj) (its : Array Value) (n : Nat), K.lookup aW = some o ∧ o.cls = .type "tuple" ∧ o.dict = none ∧ o.data = .seq its n ∧
    its.size ≤ sizeLine ∧ Vals (words.map V.str) its.toList
theorem Wds.sL {K : PySem.W.Frag} {mg : Str → Option Value} {aW : Addr} (L : Wds K mg aW) (H : Hp) : SqT K H aW (words.map V.str) := by
  obtain ⟨o, its, n, h1, h2, h3, h4, h5, h6⟩ := L.lk
  exact Or.inr ⟨o, its, n, h1, h2, h4, h5, h6⟩
def kindOf (w : Str) : Str := (Txt.partition w (Str.ofString " ")).1
def toldOf (w : Str) : Str := (Txt.partition w (Str.ofString " ")).2.2
def toldNs (w : Str) : List Nat := (toldOf w).cps.toList.map (· - 48)
def toldN (w : Str) : Nat := (toldNs w).headD 0
def isK (w : Str) (k : String) : Bool := decide (V.str (kindOf w) = V.str (Str.ofString k))
def pairB (k : Str) (t : Nat) (r : List Nat) : Bool := match r with
  | [x, y] => if V.int (x : Int) = V.int (y : Int) then true else if V.str k = V.str (Str.ofString "part") then !inV (.int (t : Int)) (iv r) else if V.str k = V.str (Str.ofString "centre") then inV (.int (t : Int)) (iv r) else
    decide (r ∈ [[if t = 0 then 1 else 0, t], [if t = 0 then 1 else 0, if t = 2 then 1 else 2], [t, if t = 2 then 1 else 2]])
  | _ => false
def sumB (r : List Nat) : Bool := decide (V.int (((r.getD 0 0 : Nat) + (r.getD 1 0 : Nat) - (r.getD 2 0 : Nat) - (r.getD 3 0 : Nat) : Int) % 3) = V.int 0)
/-- a relation's tuples, as the program tells them -/
def relM (w : Str) : List (List Nat) := if isK w "set" then (toldNs w).map fun n => [n] else if isK w "turn" then [[0, 1], [1, 2], [2, 0]] else if isK w "sums" then (tups 4).filter sumB else
  if isK w "mixed" then (tups 3).filter twice3 else (tups 2).filter (pairB (kindOf w) (toldN w))
theorem words_in : ∀ w ∈ words, inV (.str w) (words.map V.str) = true := by decide +kernel
theorem words_told : ∀ w ∈ words, w.length ≤ 8 ∧ (toldOf w).cps.toList = (toldNs w).map (48 + ·) ∧ (toldNs w).length ≤ 2 ∧ (toldNs w).all (· < 3) = true ∧
    (isK w "set" = false → isK w "turn" = false → isK w "sums" = false → isK w "mixed" = false → PySem.intText? (toldOf w) = some ((toldN w : Nat) : Int) ∧ toldN w < 3 ∧ (toldOf w).length ≤ 640) := by decide +kernel
section
variable {P : Program} {w : World} {K : PySem.W.Frag} {mg : Str → Option Value} {base : Heap} {f aL aW : Addr} {fd : FuncData}
abbrev sis_word : Stmt := top 44
abbrev Nis_word : List Str := ["x"]
theorem scis_word : FnScope Nis_word ["x"] (defScope sis_word) := ⟨rfl, rfl, rfl, by decide +kernel, rfl, by decide +kernel, by decide +kernel⟩
def spIsWord : Sp := fun vs H Q _ => ∃ x : Str, vs = [.str x] ∧ Gives (.bl (inV (.str x) (words.map V.str))) H Q
theorem ev_isS {σ : L2.St} {H : Hp} {te : TE} {x : Str} (h : Ev te σ H (.str x)) : Ev (tCB (rIsi K) (tCons te (tCons (tC (.ty "str")) tNil))) σ H (.bl true) :=
  fun H1 e Q q => h H1 e _ fun H2 e2 => ⟨.str x, .ty "str", _, _, true, rfl, .ty _, .base (.str x), kit_ty (by decide +kernel), q H2 e2⟩
theorem words_flat : (words.map V.str).all flatV = true := by decide +kernel
theorem ok_is_word (F : Fun K "is_word" "is_word" sis_word f fd) (B : Blt mg) (WW : Wds K mg aW) : FnG P w K mg base 1 f fd ["x"] spIsWord := by
  refine fnG F scis_word (fun vs H Q E h => ?_) (fun cdv A fr s H vs Q E hr gd h => ?_)
  · obtain ⟨x, rfl, _⟩ := h
    rfl
  · obtain ⟨x, rfl, k⟩ := h
    refine ⟨_, (pss_one (ps_ret (pe_and (pe_callB call_isi (by rfl) B.m_isinstance (by decide +kernel) (pa_cons (pv 0) (pa_cons (pe_bltn (v := .ty "str") rfl B.m_str (by decide +kernel) rfl) pa_nil))) (pe_one (pe_cmpR op_in_seq (pv 0) (pe_glob (v := .ref aW) rfl WW.mW rfl) (by rfl)))))), ?_⟩
    have nw := fun H : Hp => rv_isT (WW.sL H) (x := .str x) rfl words_flat
    exact s_ret (ev_andV (ev_isS (ev_var rfl)) fun _ => ev_op (ev_var rfl) ev_c (nw _)) k
abbrev smust_be_word : Stmt := top 45
abbrev Nmust_be_word : List Str := ["x"]
theorem scmust_be_word : FnScope Nmust_be_word ["x"] (defScope smust_be_word) := ⟨rfl, rfl, rfl, by decide +kernel, rfl, by decide +kernel, by decide +kernel⟩
def spMustWord : Sp := fun vs H Q _ => ∃ x : Str, x ∈ words ∧ vs = [.str x] ∧ Gives .non H Q
theorem ok_must_be_word (F : Fun K "must_be_word" "must_be_word" smust_be_word f fd) (B : Blt mg) (D_is_word : DefG P w K mg base "is_word" ["x"] 1 spIsWord) : FnG P w K mg base 2 f fd ["x"] spMustWord := by
  refine fnG F scmust_be_word (fun vs H Q E h => ?_) (fun cdv A fr s H vs Q E hr gd h => ?_)
  · obtain ⟨x, _, rfl, _⟩ := h
    rfl
  · obtain ⟨x, hx, rfl, k⟩ := h
    refine ⟨_, (pss_one (ps_if (pt_not (pt_val (pe_def D_is_word (hr.mono (by decide)) gd rfl (pa_cons (pv 0) pa_nil)))) (pss_one ps_never) pss_nil)), ?_⟩
    refine s_when (et_not (et_test (ev_def (ea_cons (ev_var rfl) ea_nil) fun H1 _ Q q => ⟨x, rfl, q⟩))) (fun c1 H1 e1 => ?_) (fun c1 H1 e1 => ?_)
    · rw [words_in x hx] at c1
      cases c1
    · exact k H1 e1
abbrev sis_pair : Stmt := top 47
abbrev Nis_pair : List Str := ["kind", "told", "row", "x", "y", "low", "high", "other"]
theorem scis_pair : FnScope Nis_pair ["kind", "told", "row"] (defScope sis_pair) := ⟨rfl, rfl, rfl, by decide +kernel, rfl, by decide +kernel, by decide +kernel⟩
def spIsPair : Sp := fun vs H Q _ => ∃ (k : Str) (t : Nat) (p : Addr) (r : List Nat), vs = [.str k, .int (t : Int), .ref p] ∧ H p = some (.tup (iv r)) ∧ r.length = 2 ∧ (∀ a ∈ r, a < 3) ∧ t < 3 ∧ Gives (.bl (pairB k t r)) H Q
theorem ok_is_pair (F : Fun K "is_pair" "is_pair" sis_pair f fd) (B : Blt mg) : FnG P w K mg base 1 f fd ["kind", "told", "row"] spIsPair := by
  refine fnG F scis_pair (fun vs H Q E h => ?_) (fun cdv A fr s H vs Q E hr gd h => ?_)
  · obtain ⟨k, t, p, r, rfl, _⟩ := h
    rfl
  · obtain ⟨k, t, p, r, rfl, hp, r2, hr3, t3, kk⟩ := h
    refine ⟨_, (pss_cons (ps_asg (pv 2) (pg_tup rfl (pgs_cons (pg_name (i := 3) scis_pair.nd rfl (Or.inl rfl)) (pgs_cons (pg_name (i := 4) scis_pair.nd rfl (Or.inl rfl)) pgs_nil))))
  (pss_cons (ps_if (pt_cmpR op_eq (pv 3) (pv 4) (nomark _)) (pss_one (ps_ret pe_bl)) pss_nil)
  (pss_cons (ps_if (pt_cmpR op_eq (pv 0) pe_str (nomark _)) (pss_one (ps_ret (pe_cmpR op_notIn_seq (pv 1) (pv 2) (by rfl)))) pss_nil)
  (pss_cons (ps_if (pt_cmpR op_eq (pv 0) pe_str (nomark _)) (pss_one (ps_ret (pe_cmpR op_in_seq (pv 1) (pv 2) (by rfl)))) pss_nil)
  (pss_cons (ps_asg (pe_lc (own := [("other", 7)]) (g := gName 7) rfl scis_pair.nd (pi_tup (pe_tup (pa_cons pe_int (pa_cons pe_int (pa_cons pe_int pa_nil))))) (blkOk_by (own := [("other", 7)]) (N := Nis_pair) (sc := defScope sis_pair) (by decide +kernel)) (fun _ _ _ _ _ => (pg_name (i := 7) scis_pair.nd rfl (Or.inl rfl))) (fun _ _ _ _ _ => (pts_one (pt_cmpR op_ne (pv 7) (pv 1) (nomark _)))) (fun _ _ _ _ _ => (pv 7))) (pg_unl rfl (pgs_cons (pg_name (i := 5) scis_pair.nd rfl (Or.inl rfl)) (pgs_cons (pg_name (i := 6) scis_pair.nd rfl (Or.inl rfl)) pgs_nil))))
  (pss_one (ps_ret (pe_cmpR (op_inR hr.units) (pv 2) (pe_tup (pa_cons (pe_tup (pa_cons (pv 5) (pa_cons (pv 1) pa_nil))) (pa_cons (pe_tup (pa_cons (pv 5) (pa_cons (pv 6) pa_nil))) (pa_cons (pe_tup (pa_cons (pv 1) (pa_cons (pv 6) pa_nil))) pa_nil)))) (by rfl))))))))), ?_⟩
    match r, r2 with
    | [x, y], _ =>
    refine ⟨_, rfl, p, [.int (x : Int), .int (y : Int)], rfl, SqT.of hp, rfl, _, _, rfl, ⟨_, _, rfl, rfl, ?_⟩⟩
    have flat : (iv [x, y]).all flatV = true := rfl
    refine q_when (et_test (ev_op (ev_var rfl) (ev_var rfl) (rv_eq rfl))) (fun c1 H1 e1 => ?_) (fun c1 H1 e1 => ?_)
    · have pb : pairB k t [x, y] = true := if_pos (of_decide_eq_true c1)
      rw [pb] at kk
      exact s_ret ev_c fun H2 e2 => kk H2 (e1.trans e2)
    have n1 := of_decide_eq_false c1
    refine q_when (et_test (ev_op (ev_var rfl) ev_c (rv_eq rfl))) (fun c2 H2 e2 => ?_) (fun c2 H2 e2 => ?_)
    · have pb : pairB k t [x, y] = !inV (.int (t : Int)) (iv [x, y]) := (if_neg n1).trans (if_pos (of_decide_eq_true c2))
      rw [pb] at kk
      exact s_ret (ev_op (ev_var rfl) (ev_var rfl) (rv_niT (st_of (e2 _ _ (e1 _ _ hp))) rfl flat)) fun H3 e3 => kk H3 ((e1.trans e2).trans e3)
    have n2 := of_decide_eq_false c2
    refine q_when (et_test (ev_op (ev_var rfl) ev_c (rv_eq rfl))) (fun c3 H3 e3 => ?_) (fun c3 H3 e3 => ?_)
    · have pb : pairB k t [x, y] = inV (.int (t : Int)) (iv [x, y]) := ((if_neg n1).trans (if_neg n2)).trans (if_pos (of_decide_eq_true c3))
      rw [pb] at kk
      exact s_ret (ev_op (ev_var rfl) (ev_var rfl) (rv_isT (st_of (e3 _ _ (e2 _ _ (e1 _ _ hp)))) rfl flat)) fun H4 e4 => kk H4 (((e1.trans e2).trans e3).trans e4)
    have n3 := of_decide_eq_false c3
    have pb : pairB k t [x, y] = decide ([x, y] ∈ [[if t = 0 then 1 else 0, t], [if t = 0 then 1 else 0, if t = 2 then 1 else 2], [t, if t = 2 then 1 else 2]]) := ((if_neg n1).trans (if_neg n2)).trans (if_neg n3)
    rw [pb] at kk
    have others : given 3 (fun i => !decide (V.int (i : Int) = V.int (t : Int))) (fun i => V.int (i : Int)) = [.int ((if t = 0 then 1 else 0 : Nat) : Int), .int ((if t = 2 then 1 else 2 : Nat) : Int)] := by
      have : t = 0 ∨ t = 1 ∨ t = 2 := by omega
      rcases this with rfl | rfl | rfl <;> rfl
    generalize (if t = 0 then 1 else 0 : Nat) = lo at others kk
    generalize (if t = 2 then 1 else 2 : Nat) = hi at others kk
    refine q_unpack (xs := given (iv [0, 1, 2]).length (fun i => !decide (V.int (i : Int) = V.int (t : Int))) (fun i => V.int (i : Int))) ?_ fun pl H4 hpl e4 hl => ?_
    · refine el_lcU (xs := iv [0, 1, 2]) (fun i => !decide (V.int (i : Int) = V.int (t : Int))) (fun i => V.int (i : Int)) (eu_tup (ea_cons ev_c (ea_cons ev_c (ea_cons ev_c ea_nil))) (by decide)) (by decide) (fun y => rfl)
        (fun i z H4 e4 hz => ?_) (fun i z H4 e4 hz _ => ?_)
      · obtain ⟨_, rfl⟩ := iv3_at hz
        exact et_test (ev_op (ev_var rfl) (ev_var rfl) (rv_ne rfl))
      · obtain ⟨_, rfl⟩ := iv3_at hz
        exact ev_var rfl
    have l3 : (iv [0, 1, 2]).length = 3 := rfl
    rw [l3, others] at hl
    refine ⟨pl, [.int (lo : Int), .int (hi : Int)], rfl, SqL.of hl, rfl, _, _, rfl, ⟨_, _, rfl, rfl, ?_⟩⟩
    have e03 := (e1.trans e2).trans (e3.trans e4)
    refine ⟨_, rfl, _, rfl, _, rfl, (by show 2 ≤ sizeLine; decide), fun q1 hq1 => ?_⟩
    have f1 := Ex.new (o := .tup [V.int (lo : Int), .int (t : Int)]) hq1
    refine ⟨_, rfl, _, rfl, (by show 2 ≤ sizeLine; decide), fun q2 hq2 => ?_⟩
    have f2 := Ex.new (o := .tup [V.int (lo : Int), .int (hi : Int)]) hq2
    refine ⟨_, rfl, _, rfl, (by show 2 ≤ sizeLine; decide), fun q3 hq3 => ?_⟩
    have f3 := Ex.new (o := .tup [V.int (t : Int), .int (hi : Int)]) hq3
    refine ⟨(by show 3 ≤ sizeLine; decide), fun q hq => ?_⟩
    have f4 := Ex.new (o := .tup [V.ref q1, .ref q2, .ref q3]) hq
    have all := ((e03.trans f1).trans f2).trans (f3.trans f4)
    refine ⟨q, [x, y], [.ref q1, .ref q2, .ref q3], [[lo, t], [lo, hi], [t, hi]], rfl, ⟨p, rfl, all _ _ hp⟩, SqT.of upd_same, .cons ⟨q1, rfl, ?_⟩ (.cons ⟨q2, rfl, ?_⟩ (.cons ⟨q3, rfl, ?_⟩ .nil)), kk _ all⟩
    · exact f4 _ _ (f3 _ _ (f2 _ _ upd_same))
    · exact f4 _ _ (f3 _ _ upd_same)
    · exact f4 _ _ upd_same
abbrev srelation : Stmt := top 46
abbrev Nrelation : List Str := ["word", "kind", "_", "told", "sign", "row"]
theorem screlation : FnScope Nrelation ["word"] (defScope srelation) := ⟨rfl, rfl, rfl, by decide +kernel, rfl, by decide +kernel, by decide +kernel⟩
def spRelation : Sp := fun vs H Q _ => ∃ x : Str, x ∈ words ∧ vs = [.str x] ∧ GivesTR (relM x) H Q
theorem ok_relation (F : Fun K "relation" "relation" srelation f fd) (B : Blt mg) (D_must_be_word : DefG P w K mg base "must_be_word" ["x"] 2 spMustWord)
    (D_all_arguments : DefG P w K mg base "all_arguments" ["count"] 2 spAllArgs) (D_is_pair : DefG P w K mg base "is_pair" ["kind", "told", "row"] 1 spIsPair) : FnG P w K mg base 3 f fd ["word"] spRelation := by
  refine fnG F screlation (fun vs H Q E h => ?_) (fun cdv A fr s H vs Q E hr gd h => ?_)
  · obtain ⟨x, _, rfl, _⟩ := h
    rfl
  · obtain ⟨x, hx, rfl, k⟩ := h
    refine ⟨_, (pss_cons (ps_expr (pe_def D_must_be_word (hr.mono (by decide)) gd rfl (pa_cons (pv 0) pa_nil)))
  (pss_cons (ps_asg (pe_bm PySem.F.plainAttrs_str PySem.F.slot_str_partition PySem.F.type_str_partition mt_partition (pv 0) (pa_cons pe_str pa_nil)) (pg_tup rfl (pgs_cons (pg_name (i := 1) screlation.nd rfl (Or.inr rfl)) (pgs_cons (pg_name (i := 2) screlation.nd rfl (Or.inl rfl)) (pgs_cons (pg_name (i := 3) screlation.nd rfl (Or.inr rfl)) pgs_nil)))))
  (pss_cons (ps_if (pt_cmpR op_eq (pv 1) pe_str (nomark _)) (pss_one (ps_ret (pe_callTy call_tuple_of (by rfl) B.m_tuple (by decide +kernel) (pa_cons (pe_lc (own := [("sign", 4)]) (g := gName 4) rfl screlation.nd (pi_str (pv 3)) (blkOk_by (own := [("sign", 4)]) (N := Nrelation) (sc := defScope srelation) (by decide +kernel)) (fun _ _ _ _ _ => (pg_name (i := 4) screlation.nd rfl (Or.inl rfl))) (fun _ _ _ _ _ => pts_nil) (fun _ _ _ _ _ => (pe_tup (pa_cons (pe_callTy call_int_str (by rfl) B.m_int (by decide +kernel) (pa_cons (pv 4) pa_nil)) pa_nil)))) pa_nil)))) pss_nil)
  (pss_cons (ps_if (pt_cmpR op_eq (pv 1) pe_str (nomark _)) (pss_one (ps_ret (pe_tup (pa_cons (pe_tup (pa_cons pe_int (pa_cons pe_int pa_nil))) (pa_cons (pe_tup (pa_cons pe_int (pa_cons pe_int pa_nil))) (pa_cons (pe_tup (pa_cons pe_int (pa_cons pe_int pa_nil))) pa_nil)))))) pss_nil)
  (pss_cons (ps_if (pt_cmpR op_eq (pv 1) pe_str (nomark _)) (pss_one (ps_ret (pe_callTy call_tuple_of (by rfl) B.m_tuple (by decide +kernel) (pa_cons (pe_lc (own := [("row", 5)]) (g := gName 5) rfl screlation.nd (pi_list (pe_def D_all_arguments (hr.mono (by decide)) gd rfl (pa_cons pe_int pa_nil))) (blkOk_by (own := [("row", 5)]) (N := Nrelation) (sc := defScope srelation) (by decide +kernel)) (fun _ _ _ _ _ => (pg_name (i := 5) screlation.nd rfl (Or.inl rfl))) (fun _ _ _ _ _ => (pts_one (pt_cmpR op_eq (pe_op op_mod (pe_op op_sub (pe_op op_sub (pe_op op_add (pe_ix (show IxR _ (rIxT K) from ix_tup) (pv 5) pe_int (fun _ _ => rfl)) (pe_ix (show IxR _ (rIxT K) from ix_tup) (pv 5) pe_int (fun _ _ => rfl))) (pe_ix (show IxR _ (rIxT K) from ix_tup) (pv 5) pe_int (fun _ _ => rfl))) (pe_ix (show IxR _ (rIxT K) from ix_tup) (pv 5) pe_int (fun _ _ => rfl))) pe_int) pe_int (nomark _)))) (fun _ _ _ _ _ => (pv 5))) pa_nil)))) pss_nil)
  (pss_cons (ps_if (pt_cmpR op_eq (pv 1) pe_str (nomark _)) (pss_one (ps_ret (pe_callTy call_tuple_of (by rfl) B.m_tuple (by decide +kernel) (pa_cons (pe_lc (own := [("row", 5)]) (g := gName 5) rfl screlation.nd (pi_list (pe_def D_all_arguments (hr.mono (by decide)) gd rfl (pa_cons pe_int pa_nil))) (blkOk_by (own := [("row", 5)]) (N := Nrelation) (sc := defScope srelation) (by decide +kernel)) (fun _ _ _ _ _ => (pg_name (i := 5) screlation.nd rfl (Or.inl rfl))) (fun _ _ _ _ _ => (pts_one (pt_cmpR op_lt (show PE _ _ (tLenSetT K _) from pe_lenSetT rfl (by rfl) B.m_len (by rfl) B.m_set (pv 5)) pe_int (nomark _)))) (fun _ _ _ _ _ => (pv 5))) pa_nil)))) pss_nil)
  (pss_one (ps_ret (pe_callTy call_tuple_of (by rfl) B.m_tuple (by decide +kernel) (pa_cons (pe_lc (own := [("row", 5)]) (g := gName 5) rfl screlation.nd (pi_list (pe_def D_all_arguments (hr.mono (by decide)) gd rfl (pa_cons pe_int pa_nil))) (blkOk_by (own := [("row", 5)]) (N := Nrelation) (sc := defScope srelation) (by decide +kernel)) (fun _ _ _ _ _ => (pg_name (i := 5) screlation.nd rfl (Or.inl rfl))) (fun _ _ _ _ _ => (pts_one (pt_val (pe_def D_is_pair (hr.mono (by decide)) gd rfl (pa_cons (pv 1) (pa_cons (pe_callTy call_int_str (by rfl) B.m_int (by decide +kernel) (pa_cons (pv 3) pa_nil)) (pa_cons (pv 5) pa_nil))))))) (fun _ _ _ _ _ => (pv 5))) pa_nil)))))))))), ?_⟩
    obtain ⟨short, told_cps, few, dig, pairs⟩ := words_told x hx
    have dig3 : ∀ n ∈ toldNs x, n < 3 := fun n hn => of_decide_eq_true (List.all_eq_true.mp dig n hn)
    refine q_drop (ev_def (ea_cons (ev_var rfl) ea_nil) fun H1 _ Q q => ⟨x, hx, rfl, q⟩) fun H0 e0 => ?_
    refine q_part (ev_var rfl) ev_c (by decide) (Nat.le_trans short (by decide)) fun p H1 ep hp => ?_
    refine ⟨p, [.str (kindOf x), .str (Txt.partition x (Str.ofString " ")).2.1, .str (toldOf x)], rfl, SqT.of hp, rfl, _, _, rfl, ⟨_, _, rfl, ⟨_, _, rfl, rfl, ?_⟩⟩⟩
    have e1 := e0.trans ep
    refine q_when (et_test (ev_op (ev_var rfl) ev_c (rv_eq rfl))) (fun c1 H2 e2 => ?_) (fun c1 H2 e2 => ?_)
    · have er : relM x = (toldNs x).map fun n => [n] := if_pos c1
      rw [er] at k
      refine s_retTR (er_ones (ns := toldNs x) (ev_var rfl) told_cps (by omega) (fun y => rfl) fun n H3 e3 hn => ev_intS (ev_var rfl) (int_digit n (dig3 n hn)) (by show 1 ≤ 640; decide)) fun q H3 ys hq e3 hy R => k q H3 ys (fresh_back (e1.trans e2) hq) ((e1.trans e2).trans e3) hy R
    have n1 : isK x "set" = false := c1
    refine q_when (et_test (ev_op (ev_var rfl) ev_c (rv_eq rfl))) (fun c2 H3 e3 => ?_) (fun c2 H3 e3 => ?_)
    · have er : relM x = [[0, 1], [1, 2], [2, 0]] := (if_neg (by rw [n1]; decide)).trans (if_pos c2)
      rw [er] at k
      refine ⟨(by show 2 ≤ sizeLine; decide), fun q1 hq1 => ⟨(by show 2 ≤ sizeLine; decide), fun q2 hq2 => ⟨(by show 2 ≤ sizeLine; decide), fun q3 hq3 => ⟨(by show 3 ≤ sizeLine; decide), fun q hq => ?_⟩⟩⟩⟩
      have f1 := Ex.new (o := .tup (iv [0, 1])) hq1
      have f2 := Ex.new (o := .tup (iv [1, 2])) hq2
      have f3 := Ex.new (o := .tup (iv [2, 0])) hq3
      have f4 := Ex.new (o := .tup [V.ref q1, .ref q2, .ref q3]) hq
      have e03 := (e1.trans e2).trans e3
      refine k q _ [.ref q1, .ref q2, .ref q3] (fresh_back (((e03.trans f1).trans f2).trans f3) hq) ((((e03.trans f1).trans f2).trans f3).trans f4) upd_same (.cons ⟨q1, rfl, ?_⟩ (.cons ⟨q2, rfl, ?_⟩ (.cons ⟨q3, rfl, ?_⟩ .nil)))
      · exact f4 _ _ (f3 _ _ (f2 _ _ upd_same))
      · exact f4 _ _ (f3 _ _ upd_same)
      · exact f4 _ _ upd_same
    have n2 : isK x "turn" = false := c2
    have all_ : ∀ {n : Nat} {σ : L2.St} {H : Hp}, n ≤ 4 → EvRows (tDef spAllArgs (tCons (tC (.int (n : Int))) tNil)) σ H (tups n) := fun {n σ H} h H1 e Q q => ⟨n, h, rfl, q⟩
    refine q_when (et_test (ev_op (ev_var rfl) ev_c (rv_eq rfl))) (fun c3 H4 e4 => ?_) (fun c3 H4 e4 => ?_)
    · have er : relM x = (tups 4).filter sumB := ((if_neg (by rw [n1]; decide)).trans (if_neg (by rw [n2]; decide))).trans (if_pos c3)
      rw [er] at k
      have e04 := ((e1.trans e2).trans e3).trans e4
      refine s_retTR (er_filter sumB (all_ (n := 4) (by decide)) (by decide) (fun y => rfl) (fun y => rfl) fun z r H5 e5 hr' hz => ?_) fun q H5 ys hq e5 hy R => k q H5 ys (fresh_back e04 hq) (e04.trans e5) hy R
      obtain ⟨a, rfl, ha⟩ := hz
      have len4 := (tups_mem 4 (by decide) r hr').1
      have at_ : ∀ i : Nat, i < 4 → atI (iv r) (i : Int) = some (.int ((r.getD i 0 : Nat) : Int)) := fun i hi => atI_nat (by
        rw [iv_get (a := r.getD i 0)]
        rw [List.getD_eq_getElem?_getD, List.getElem?_eq_getElem (by omega)]
        rfl)
      have st := st_of (K := K) ha
      refine et_test (ev_op (ev_op (ev_op (ev_op (ev_op (ev_op (ev_var rfl) ev_c (rv_ixT st (at_ 0 (by decide)))) (ev_op (ev_var rfl) ev_c (rv_ixT st (at_ 1 (by decide)))) rv_I0) (ev_op (ev_var rfl) ev_c (rv_ixT st (at_ 2 (by decide)))) rv_I0)
        (ev_op (ev_var rfl) ev_c (rv_ixT st (at_ 3 (by decide)))) rv_I0) ev_c (rv_I (C := fun _ j => 0 < j) (g := fun i j => V.int (i % j)) (by decide))) ev_c (rv_eq rfl))
    have n3 : isK x "sums" = false := c3
    refine q_when (et_test (ev_op (ev_var rfl) ev_c (rv_eq rfl))) (fun c4 H5 e5 => ?_) (fun c4 H5 e5 => ?_)
    · have er : relM x = (tups 3).filter twice3 := (((if_neg (by rw [n1]; decide)).trans (if_neg (by rw [n2]; decide))).trans (if_neg (by rw [n3]; decide))).trans (if_pos c4)
      rw [er] at k
      have e05 := (((e1.trans e2).trans e3).trans e4).trans e5
      refine s_retTR (er_filter twice3 (all_ (n := 3) (by decide)) (by decide) (fun y => rfl) (fun y => rfl) fun z r H6 e6 hr' hz => ?_) fun q H6 ys hq e6 hy R => k q H6 ys (fresh_back e05 hq) (e05.trans e6) hy R
      obtain ⟨a, rfl, ha⟩ := hz
      have len3 := (tups_mem 3 (by decide) r hr').1
      match r, len3 with
      | [b, c, d], _ =>
      exact et_test fun H7 e7 Q q => ⟨_, rfl, a, [b, c, d].map fun (y : Nat) => (y : Int), rfl, SqT.of (e7 _ _ ha), (by show 3 ≤ 1000; decide), fun out nd ho => ⟨_, _, rfl, rfl, by
        show Q (V.bl (decide ((out.length : Int) < 3))) H7
        rw [out_three nd ho]
        exact q H7 (Ex.refl H7)⟩⟩
    have n4 : isK x "mixed" = false := c4
    have er : relM x = (tups 2).filter (pairB (kindOf x) (toldN x)) := (((if_neg (by rw [n1]; decide)).trans (if_neg (by rw [n2]; decide))).trans (if_neg (by rw [n3]; decide))).trans (if_neg (by rw [n4]; decide))
    obtain ⟨t1, t2, t3⟩ := pairs n1 n2 n3 n4
    rw [er] at k
    have e05 := (((e1.trans e2).trans e3).trans e4).trans e5
    refine s_retTR (er_filter (pairB (kindOf x) (toldN x)) (all_ (n := 2) (by decide)) (by decide) (fun y => rfl) (fun y => rfl) fun z r H6 e6 hr' hz => ?_) fun q H6 ys hq e6 hy R => k q H6 ys (fresh_back e05 hq) (e05.trans e6) hy R
    obtain ⟨a, rfl, ha⟩ := hz
    obtain ⟨len2, d3⟩ := tups_mem 2 (by decide) r hr'
    exact et_B (ev_def (ea_cons (ev_var rfl) (ea_cons (ev_intS (ev_var rfl) t1 t3) (ea_cons (ev_var rfl) ea_nil))) fun H7 e7 Q q => ⟨kindOf x, toldN x, a, r, rfl, e7 _ _ ha, len2, fun b hb => of_decide_eq_true (List.all_eq_true.mp d3 b hb), t2, q⟩)
end
end Tv

namespace Tv
open PySem PySem.Spec PyProof.Rows L2 Evl
def wide (x : Str) : Nat := ((relM x).headD []).length
theorem words_rel : ∀ x ∈ words, (relM x).length ≤ 27 ∧ (relM x).all (fun r => decide (r.length = wide x) && r.all (· < 3)) = true ∧ wide x ≤ 4 := by decide +kernel
/-- the first rows of a relation from which a table makes no tuple of it -/
def outB (ds : List Nat) (x : Str) (rs : List (List Nat)) : Bool := !decide (makes ds rs (wide x) ∈ relM x)
def firstOut (ds : List Nat) (n : Nat) (x : Str) : Option (List (List Nat)) := (waysA (List.replicate n (relM x))).find? (outB ds x)
/-- gives a tuple of rows back, one that may stand before -/
abbrev GivesRs (L : List (List Nat)) (H : Hp) (Q : VK) : Prop := ∀ p H' ys, Ex H H' → H' p = some (.tup ys) → Rows H' ys L → Q (.ref p) H'
section
variable {P : Program} {w : World} {K : PySem.W.Frag} {mg : Str → Option Value} {base : Heap} {f aL aW : Addr} {fd : FuncData}
abbrev sfirst_out : Stmt := top 49
abbrev Nfirst_out : List Str := ["table", "word", "values", "rows_allowed", "rows"]
theorem scfirst_out : FnScope Nfirst_out ["table", "word"] (defScope sfirst_out) := ⟨rfl, rfl, rfl, by decide +kernel, rfl, by decide +kernel, by decide +kernel⟩
def spFirstOut : Sp := fun vs H Q _ => ∃ (ds : List Nat) (n : Nat) (x : Str), IsTab ds n ∧ x ∈ words ∧ vs = [.str (tab ds), .str x] ∧ (firstOut ds n x = none → Gives .non H Q) ∧ ∀ rs, firstOut ds n x = some rs → GivesRs rs H Q
theorem few_ways {ys : List V} {n : Nat} (h : ys.length ≤ 27) (n3 : n ≤ 3) : FewWays (List.replicate n ys) := by
  refine ⟨by rw [List.length_replicate]; omega, fun i hi => ?_⟩
  rw [List.length_replicate] at hi
  rw [List.take_replicate, Nat.min_eq_left hi, ways_eq, waysA_len]
  refine Nat.le_trans (Nat.pow_le_pow_left h i) (Nat.le_trans (Nat.pow_le_pow_right (by decide) (by omega : i ≤ 3)) (by decide))
theorem ok_first_out (F : Fun K "first_out" "first_out" sfirst_out f fd) (B : Blt mg) (D_values_of : DefG P w K mg base "values_of" ["table"] 4 spValues) (D_relation : DefG P w K mg base "relation" ["word"] 3 spRelation)
    (D_all_ways : DefG P w K mg base "all_ways" ["lots"] 1 spWays) (D_places : DefG P w K mg base "places" ["table"] 3 spPlaces) (D_made_from : DefG P w K mg base "made_from" ["values", "rows"] 1 spMade) :
    FnG P w K mg base 5 f fd ["table", "word"] spFirstOut := by
  refine fnG F scfirst_out (fun vs H Q E h => ?_) (fun cdv A fr s H vs Q E hr gd h => ?_)
  · obtain ⟨ds, n, x, _, _, rfl, _⟩ := h
    rfl
  · obtain ⟨ds, n, x, T, hx, rfl, k0, k1⟩ := h
    refine ⟨_, (pss_cons (ps_set (i := 2) scfirst_out.nd rfl (Or.inl rfl) (pe_def D_values_of (hr.mono (by decide)) gd rfl (pa_cons (pv 0) pa_nil)))
  (pss_cons (ps_set (i := 3) scfirst_out.nd rfl (Or.inl rfl) (pe_def D_relation (hr.mono (by decide)) gd rfl (pa_cons (pv 1) pa_nil)))
  (pss_cons (ps_for PassesOwn.never rfl (pi_list (pe_def D_all_ways (hr.mono (by decide)) gd rfl (pa_cons (pe_op op_rep (pe_lst (pa_cons (pv 3) pa_nil)) (pe_def D_places (hr.mono (by decide)) gd rfl (pa_cons (pv 0) pa_nil))) pa_nil))) (pg_name (i := 4) scfirst_out.nd rfl (Or.inl rfl)) (pss_one (ps_if (pt_cmpR (op_notInR hr.units) (pe_def D_made_from (hr.mono (by decide)) gd rfl (pa_cons (pv 2) (pa_cons (pv 4) pa_nil))) (pv 3) (by rfl)) (pss_one (ps_ret (pv 4))) pss_nil)))
  (pss_one (ps_ret pe_non))))), ?_⟩
    obtain ⟨rel27, rel_all, w4⟩ := words_rel x hx
    have rel_ok : ∀ r ∈ relM x, r.length = wide x ∧ ∀ a ∈ r, a < 3 := fun r hr' => by
      have := List.all_eq_true.mp rel_all r hr'
      obtain ⟨a1, a2⟩ := Bool.and_eq_true_iff.mp this
      exact ⟨of_decide_eq_true a1, fun a ha => of_decide_eq_true (List.all_eq_true.mp a2 a ha)⟩
    -- values, rows_allowed
    refine ⟨_, rfl, ds, n, T, rfl, fun pd H1 hpd e1 hd => ?_⟩
    refine ⟨_, rfl, x, hx, rfl, fun pr H2 ys hpr e2 hy R => ?_⟩
    have yl : ys.length = (relM x).length := R.len
    -- the lots
    refine ⟨_, rfl, by show 1 ≤ sizeLine; decide, fun l hl => ⟨_, rfl, ds, n, T, rfl, fun H4 e4 => ?_⟩⟩
    refine ⟨l, (n : Int), [.ref pr], rfl, rfl, e4 _ _ upd_same, by omega, by have := T.n3; omega, by rw [Int.toNat_natCast]; exact Nat.le_trans (by show 1 * n ≤ 3; have := T.n3; omega) (by decide), fun pl hpl => ?_⟩
    have e3 := Ex.new (o := .lst [V.ref pr]) hl
    have e24 := e3.trans e4
    have e5 := Ex.new (o := .lst (List.replicate (n : Int).toNat [V.ref pr]).flatten) hpl
    have e25 := e24.trans e5
    refine ⟨pl, List.replicate n (.ref pr), List.replicate n ys, rfl, ?_, few_ways (by omega) T.n3, Or.inl (rowsV_rep (e25 _ _ hy) n), fun pz H6 zs hpz e6 hz RV => ?_⟩
    · have e0 : (List.replicate (n : Int).toNat [V.ref pr]).flatten = List.replicate n (V.ref pr) := by rw [Int.toNat_natCast, flat_one]
      rw [← e0]
      exact upd_same
    have e26 := e25.trans e6
    have e06 := (e1.trans e2).trans e26
    have R6 := R.mono e26
    have hd6 := e26 _ _ (e2 _ _ hd)
    have hy6 := e26 _ _ hy
    have PW := paired_ways R6 n
    refine ⟨pz, rfl, ⟨zs, SqL.of hz⟩, for_list (K := K) (a := pz) (xs := zs)
      (fun i σ H7 => ∃ v : Option V, σ = [some (.str (tab ds)), some (.str x), some (.ref pd), some (.ref pr), v] ∧ Ex H6 H7 ∧ ∀ j rs, j < i → (waysA (List.replicate n (relM x)))[j]? = some rs → outB ds x rs = false)
      ⟨none, rfl, Ex.refl _, fun j rs hj => absurd hj (Nat.not_lt_zero _)⟩ (fun i σ H7 _ ⟨_, _, e, _⟩ => SqL.of (e _ _ hz)) ?_ ?_⟩
    · rintro i z σ H7 hi ⟨v, rfl, e7, met⟩
      obtain ⟨r, at_r, a, rfl, ha⟩ := RV.get hi
      rw [ways_eq] at at_r
      obtain ⟨rs, at_rs, Rr⟩ := paired_get PW at_r
      obtain ⟨many, mem⟩ := waysA_mem (List.mem_of_getElem? at_rs)
      have ha7 := e7 _ _ ha
      have R7 : Rows H7 r rs := Rows.mono e7 Rr
      have step : EvT (tTest (tOp (rInR K true) (tDef spMade (tCons (tVar 2) (tCons (tVar 4) tNil))) (tVar 3))) [some (.str (tab ds)), some (.str x), some (.ref pd), some (.ref pr), some (.ref a)] H7 (outB ds x rs) := by
        refine fun H8 e8 Q q => ⟨_, rfl, _, rfl, ds, n, pd, a, r, rs, wide x, T, rfl, e8 _ _ (e7 _ _ hd6), e8 _ _ ha7, R7.mono e8, many, fun c hc => rel_ok c (mem c hc), by omega, fun pt H9 hpt e9 ht => ?_⟩
        have e79 := e8.trans e9
        exact ⟨_, rfl, pr, makes ds rs (wide x), ys, relM x, rfl, ⟨pt, rfl, ht⟩, SqT.of (e79 _ _ (e7 _ _ hy6)), R6.mono (e7.trans e79), _, rfl, q H9 e9⟩
      refine s_when step (fun yes H8 e8 => ?_) (fun no H8 e8 => ?_)
      · have found : firstOut ds n x = some rs := find_at met at_rs yes
        exact ⟨_, rfl, k1 rs found a H8 r ((e06.trans e7).trans e8) (e8 _ _ ha7) (R7.mono e8)⟩
      · refine ⟨some (.ref a), rfl, e7.trans e8, fun j ts hj hts => ?_⟩
        rcases Nat.lt_succ_iff_lt_or_eq.mp hj with lt | rfl
        · exact met j ts lt hts
        · rw [at_rs] at hts
          cases hts
          exact no
    · rintro σ H7 ⟨v, rfl, e7, met⟩
      have zl : zs.length = (waysA (List.replicate n (relM x))).length := by
        rw [RV.len, ways_eq, waysA_len, waysA_len, yl]
      rw [zl] at met
      exact k0 (find_no met) H7 (e06.trans e7)
abbrev sis_sum : Stmt := top 48
abbrev Nis_sum : List Str := ["table", "number", "factors", "values", "row", "total", "length", "factor", "x"]
theorem scis_sum : FnScope Nis_sum ["table"] (defScope sis_sum) := ⟨rfl, rfl, rfl, by decide +kernel, rfl, by decide +kernel, by decide +kernel⟩
def fac (ds : List Nat) (n j : Nat) : Int := (ds.getD (stride n j) 0 : Nat) - (ds.getD 0 0 : Nat)
def totI (ds : List Nat) (n : Nat) (r : List Nat) : Int := (ds.getD 0 0 : Nat) + ((List.range n).map fun j => fac ds n j * ((r.getD j 0 : Nat) : Int)).sum
def sumAt (ds : List Nat) (n i : Nat) : Bool := decide (V.int (totI ds n (tupI n i) % 3) = V.int ((ds.getD i 0 : Nat) : Int))
def sumOk (ds : List Nat) (n : Nat) : Bool := (List.range (3 ^ n)).all (sumAt ds n)
def lensV (n : Nat) : List V := (List.range n).map fun j => V.int ((3 ^ (j + 1) : Nat) : Int)
theorem lens_take {n : Nat} (n3 : n ≤ 3) : [V.int 3, V.int 9, V.int 27].take n = lensV n := by
  have : n = 0 ∨ n = 1 ∨ n = 2 ∨ n = 3 := by omega
  rcases this with rfl | rfl | rfl | rfl <;> rfl
theorem lens_len (n : Nat) : (lensV n).length = n := by simp [lensV]
theorem lens_at {n j : Nat} {x : V} (h : (lensV n)[j]? = some x) : j < n ∧ x = .int ((3 ^ (j + 1) : Nat) : Int) := by
  have l := (List.getElem?_eq_some_iff.mp h).1
  rw [lens_len] at l
  unfold lensV at h
  rw [List.getElem?_map, List.getElem?_range l] at h
  exact ⟨l, (Option.some.inj h).symm⟩
theorem ev_dig {te ti : TE} {σ : L2.St} {H : Hp} {ds : List Nat} {n j : Nat} (T : IsTab ds n) (h : Ev te σ H (.str (tab ds))) (hi : Ev ti σ H (.int (j : Int))) (lt : j < ds.length) :
    Ev (tCB (fun xs H Q => ∃ (s : Str) (i : Int), xs = [.str s] ∧ PySem.intText? s = some i ∧ s.length ≤ 640 ∧ Q (.int i) H) (tCons (tOp rIxS te ti) tNil)) σ H (.int ((ds.getD j 0 : Nat) : Int)) := by
  have d3 : ds.getD j 0 < 3 := by
    rw [List.getD_eq_getElem?_getD, List.getElem?_eq_getElem lt]
    exact T.dig _ (List.getElem_mem lt)
  refine ev_intS (ev_op h hi (rv_ixS (c := 48 + ds.getD j 0) (by rw [tab_len]; have := T.small; omega) ?_)) (int_digit _ d3) (by show 1 ≤ 640; decide)
  rw [tab_cps]
  refine atI_nat ?_
  rw [List.getElem?_map, List.getD_eq_getElem?_getD, List.getElem?_eq_getElem lt]
  rfl
def spIsSum : Sp := fun vs H Q _ => ∃ (ds : List Nat) (n : Nat), IsTab ds n ∧ vs = [.str (tab ds)] ∧ Gives (.bl (sumOk ds n)) H Q
theorem ok_is_sum (F : Fun K "is_sum" "is_sum" sis_sum f fd) (B : Blt mg) (B3 : Blt3 mg) (B5 : Blt5 mg) (LL : Lens K mg aL) (D_values_of : DefG P w K mg base "values_of" ["table"] 4 spValues) (D_places : DefG P w K mg base "places" ["table"] 3 spPlaces) :
    FnG P w K mg base 5 f fd ["table"] spIsSum := by
  refine fnG F scis_sum (fun vs H Q E h => ?_) (fun cdv A fr s H vs Q E hr gd h => ?_)
  · obtain ⟨ds, n, _, rfl, _⟩ := h
    rfl
  · obtain ⟨ds, n, T, rfl, k⟩ := h
    refine ⟨_, (pss_cons (ps_set (i := 1) scis_sum.nd rfl (Or.inr rfl) (pe_callTy call_int_str (by rfl) B.m_int (by decide +kernel) (pa_cons (pe_ix ix_str (pv 0) pe_int (fun _ _ => rfl)) pa_nil)))
  (pss_cons (ps_setLc (i := 2) (own := [("length", 6)]) (g := gName 6) rfl scis_sum.nd rfl rfl (sw_true rfl rfl rfl (by decide +kernel)) (pi_tup (pe_slice sl_tupA (pe_glob (v := .ref aL) rfl LL.mL rfl) po_none (po_some (pe_def D_places (hr.mono (by decide)) gd rfl (pa_cons (pv 0) pa_nil))))) (blkOk_by (own := [("length", 6)]) (N := Nis_sum) (sc := defScope sis_sum) (by decide +kernel)) (fun _ _ _ _ _ => (pg_name (i := 6) scis_sum.nd rfl (Or.inl rfl))) (fun _ _ _ _ _ => pts_nil) (fun _ _ _ _ _ => (pe_op op_sub (pe_callTy call_int_str (by rfl) B.m_int (by decide +kernel) (pa_cons (pe_ix ix_str (pv 0) (pe_op op_fdiv (pe_callB (show CallR _ _ (fun xs H Q => ∃ x n, xs = [x] ∧ LenV K x H n ∧ Q (.int (n : Nat)) H) from call_len) (by rfl) B.m_len (by decide +kernel) (pa_cons (pv 0) pa_nil)) (pv 6)) (fun _ _ => rfl)) pa_nil)) (pv 1))))
  (pss_cons (ps_set (i := 3) scis_sum.nd rfl (Or.inl rfl) (pe_def D_values_of (hr.mono (by decide)) gd rfl (pa_cons (pv 0) pa_nil)))
  (pss_cons (ps_lock (ps_for PassesOwn.never rfl (pi_keys (pv 3)) (pg_name (i := 4) scis_sum.nd rfl (Or.inl rfl)) (pss_cons (ps_set (i := 5) scis_sum.nd rfl (Or.inl rfl) (pe_op op_add (pv 1) (pe_callB (cr_sum rfl) (by rfl) B5.m_sum (by decide +kernel) (pa_cons (pe_lc (own := [("factor", 7), ("x", 8)]) (g := gTup K 2 (gCons (gName 7) (gCons (gName 8) gNil))) rfl scis_sum.nd (pi_zipLT (by rfl) B3.m_zip (pa_cons (pv 2) (pa_cons (pv 4) pa_nil))) (blkOk_by (own := [("factor", 7), ("x", 8)]) (N := Nis_sum) (sc := defScope sis_sum) (by decide +kernel)) (fun _ _ _ _ _ => (pg_tup rfl (pgs_cons (pg_name (i := 7) scis_sum.nd rfl (Or.inl rfl)) (pgs_cons (pg_name (i := 8) scis_sum.nd rfl (Or.inl rfl)) pgs_nil)))) (fun _ _ _ _ _ => pts_nil) (fun _ _ _ _ _ => (pe_op op_mul (pv 7) (pv 8)))) pa_nil))))
  (pss_one (ps_if (pt_cmpR op_ne (pe_op op_mod (pv 5) pe_int) (pe_dget (hu_of hr) (pv 3) (pv 4) (fun _ _ => rfl)) (nomark _)) (pss_one (ps_ret pe_bl)) pss_nil)))))
  (pss_one (ps_ret pe_bl)))))), ?_⟩
    have n1 := T.n1
    have n3 := T.n3
    have pos : 0 < ds.length := by rw [T.len]; exact Nat.pow_pos (by decide)
    -- number
    refine q_asg (v := V.int ((ds.getD 0 0 : Nat) : Int)) (ev_dig T (ev_var rfl) ev_c pos) fun H1 e1 => ?_
    -- factors
    refine q_asgL (xs := given (lensV n).length (fun _ => true) (fun j => V.int (fac ds n j))) ?_ fun lf H2 hlf e2 h2 => ?_
    · have it : EvS K (tSl (rSlA K) (tC (.ref aL)) tNoPart (tPart (tDef spPlaces (tCons (tVar 0) tNil)))) (([some (.str (tab ds)), some (V.int ((ds.getD 0 0 : Nat) : Int)), none, none, none, none, none, none, none] : L2.St)) H1 (lensV n) := by
        rw [← lens_take n3]
        exact es_take (fun H3 e3 Q q => q aL H3 (Ex.refl _) (LL.sL H3)) (ev_def (ea_cons (ev_var rfl) ea_nil) fun H3 _ Q q => ⟨ds, n, T, rfl, q⟩) n3
      refine el_lcSq (fun _ => true) (fun j => V.int (fac ds n j)) it (by rw [lens_len]; omega) (fun y => rfl) (fun i x H3 e hx => et_yes) (fun i x H3 e hx _ => ?_)
      obtain ⟨il, rfl⟩ := lens_at hx
      have p0 : 0 < ((3 ^ (i + 1) : Nat) : Int) := by
        have : i = 0 ∨ i = 1 ∨ i = 2 := by omega
        rcases this with rfl | rfl | rfl <;> decide
      have p3 : ((3 ^ (i + 1) : Nat) : Int) < 1073741824 := by
        have : i = 0 ∨ i = 1 ∨ i = 2 := by omega
        rcases this with rfl | rfl | rfl <;> decide
      have sz : ((tab ds).length : Int) / ((3 ^ (i + 1) : Nat) : Int) = ((stride n i : Nat) : Int) := by
        rw [tab_len, T.len]
        rfl
      have sl : stride n i < ds.length := by
        rw [T.len]
        exact Nat.div_lt_self (Nat.pow_pos (by decide)) (Nat.one_lt_pow (by omega) (by decide))
      exact ev_op (ev_dig (j := stride n i) T (ev_var rfl) (ev_is (ev_op (ev_str_len (ev_var rfl) T.size) (ev_var rfl) (rv_I (C := CDiv) (g := fun i j => V.int (i / j)) ⟨p0, p3⟩)) (congrArg V.int sz)) sl) (ev_var rfl) rv_I0
    rw [lens_len] at h2
    -- values
    refine ⟨_, rfl, ds, n, T, rfl, fun pd H3 hpd e3 hd => ?_⟩
    have e03 : Ex H H3 := (e1.trans e2).trans e3
    have h3 := e3 _ _ h2
    have nlf : lf ≠ pd := fun z => by rw [z, hpd] at h2; cases h2
    refine ⟨pd, .dT (kvs ds n), hd, True.intro, fun od => ?_⟩
    refine ⟨_, rfl, pd, od, rfl, Or.inr ⟨kvs ds n, upd_same, for_keysT (d := pd) (o := od) (kv := kvs ds n)
      (fun i σ H4 => ∃ v4 v5 : Option V, σ = [some (.str (tab ds)), some (V.int ((ds.getD 0 0 : Nat) : Int)), some (.ref lf), some (.ref pd), v4, v5, none, none, none] ∧ Save pd H3 H4 ∧ H4 pd = some (.frz od (.dT (kvs ds n))) ∧
        ∀ j, j < i → sumAt ds n j = true)
      ⟨none, none, rfl, (fun b o nb h => by rw [upd_ne nb]; exact h), upd_same, fun j hj => absurd hj (Nat.not_lt_zero _)⟩ (fun i σ H4 ⟨_, _, _, _, e, _⟩ => e) ?_ ?_⟩⟩
    · rintro i kk v q σ H4 hi ⟨v4, v5, rfl, s4, f4, met⟩ hq
      obtain ⟨il, rfl, rfl⟩ := kvU_get hi
      rw [keyR_kV] at hq
      obtain ⟨rl, r3⟩ := tupI_ok n3 il
      have h4 := s4 _ _ nlf h3
      -- total
      refine q_asg (v := V.int (totI ds n (tupI n i))) ?_ fun H5 e5 => ?_
      · refine ev_op (ev_var rfl) (ev_sum (ns := (List.range n).map fun j => fac ds n j * (((tupI n i).getD j 0 : Nat) : Int)) fun H5 e5 Q5 k5 => ?_) rv_I0
        rw [List.map_map] at k5
        refine ⟨_, rfl, _, rfl, lf, q, _, _, rfl, SqL.of (e5 _ _ h4), SqT.of (e5 _ _ hq), fun D hD => lc_zipLT (K := K) (by rw [given_true_len, iv_len, rl])
          (Cw H5 (fun _ => true) (fun j => V.int (fac ds n j * (((tupI n i).getD j 0 : Nat) : Int))) D) ⟨hD, Ex.new hD, upd_same⟩ (fun j H6 pc => ⟨SqL.of (pc.2.1 _ _ (e5 _ _ h4)), SqT.of (pc.2.1 _ _ (e5 _ _ hq))⟩)
          (fun j x y tu H6 hx hy pc htu => ?_) (fun H6 pc => k5 D H6 pc.1 pc.2.1 (by have h := pc.2.2; rw [given_true_len, given_true] at h; exact h))⟩
        obtain ⟨jl, rfl⟩ := given_true_at hx
        obtain ⟨a, ha, rfl⟩ := iv_at hy
        have ea : (tupI n i).getD j 0 = a := by rw [List.getD_eq_getElem?_getD, ha]; rfl
        have a3 := r3 a (List.mem_of_getElem? ha)
        have et := Ex.new (o := .tup [V.int (fac ds n j), .int (a : Int)]) htu
        refine ⟨tu, [.int (fac ds n j), .int (a : Int)], rfl, SqT.of upd_same, rfl, _, _, rfl, ⟨_, _, rfl, rfl, rfl, ?_⟩⟩
        refine cw_turn ⟨pc.1, pc.2.1.trans et, et _ _ pc.2.2⟩ (by omega) et_yes fun _ => ?_
        rw [ea]
        exact ev_op (ev_var rfl) (ev_var rfl) (rv_I (C := CMul) (g := fun i j => V.int (i * j)) (Or.inr ⟨by omega, by omega⟩))
      have f5 := e5 _ _ f4
      have hq5 := e5 _ _ hq
      have good : EvT (tTest (tOp rNe (tOp (rI (fun _ j => 0 < j) fun i j => V.int (i % j)) (tVar 5) (tC (.int 3))) (tDGet (tVar 3) (tVar 4)))) [some (.str (tab ds)), some (V.int ((ds.getD 0 0 : Nat) : Int)), some (.ref lf), some (.ref pd), some (.ref q), some (V.int (totI ds n (tupI n i))), none, none, none] H5 (!sumAt ds n i) := by
        refine et_test (ev_op (ev_op (ev_var rfl) ev_c (rv_I (C := fun _ j => 0 < j) (g := fun i j => V.int (i % j)) (by decide))) (fun H6 e6 Q6 k6 => ?_) (rv_ne rfl))
        refine ⟨_, rfl, _, rfl, pd, _, rfl, Or.inr ⟨kvs ds n, keyR (tupI n i), q, Or.inr ⟨od, e6 _ _ f5⟩, rfl, by rw [keyR_kV]; exact e6 _ _ hq5, (kvs_at n1 n3 rl r3).symm⟩, ?_⟩
        have ev_ : val ds (tupI n i) = ds.getD i 0 := by
          unfold val
          rw [num_tup n3 il]
        rw [ev_]
        exact k6 H6 (Ex.refl _)
      refine s_when good (fun bad H6 e6 => ?_) (fun fine H6 e6 => ?_)
      · have no : sumOk ds n = false := by
          have bad' : sumAt ds n i = false := by simpa using bad
          unfold sumOk
          rw [List.all_eq_false]
          exact ⟨i, List.mem_range.mpr il, by rw [bad']; decide⟩
        rw [no] at k
        exact ⟨e6 _ _ f5, k _ (e03.trans (((s4.trans (Save.of e5)).trans (Save.of e6)).back hd))⟩
      · refine ⟨_, _, rfl, (s4.trans (Save.of e5)).trans (Save.of e6), e6 _ _ f5, fun j hj => ?_⟩
        rcases Nat.lt_succ_iff_lt_or_eq.mp hj with lt | rfl
        · exact met j lt
        · simpa using fine
    · rintro σ H4 ⟨v4, v5, rfl, s4, f4, met⟩
      have yes : sumOk ds n = true := by
        unfold sumOk
        rw [List.all_eq_true]
        intro i hi
        have := List.mem_range.mp hi
        rw [kvU_len] at met
        exact met i this
      rw [yes] at k
      exact ⟨f4, k _ (e03.trans (s4.back hd))⟩
end
end Tv

namespace Tv
open PySem PySem.Spec PyProof.Rows L2 Evl
def countV (ds : List Nat) (n : Nat) : List V := given n (countsB ds n) (fun i => V.int (i : Int))
/-- whether a table keeps a relation, as the program tells it -/
def keepsB (ds : List Nat) (n : Nat) (x : Str) : Bool := if V.str x = V.str (Str.ofString "sums") then sumOk ds n else if V.str x = V.str (Str.ofString "mixed") then (!ontoB ds || decide (((countV ds n).length : Int) < 2)) else
  decide ((firstOut ds n x).isNone = true)
section
variable {P : Program} {w : World} {K : PySem.W.Frag} {mg : Str → Option Value} {base : Heap} {f aL aW : Addr} {fd : FuncData}
abbrev skeeps : Stmt := top 50
abbrev Nkeeps : List Str := ["table", "word"]
theorem sckeeps : FnScope Nkeeps ["table", "word"] (defScope skeeps) := ⟨rfl, rfl, rfl, by decide +kernel, rfl, by decide +kernel, by decide +kernel⟩
def spKeeps : Sp := fun vs H Q _ => ∃ (ds : List Nat) (n : Nat) (x : Str), IsTab ds n ∧ x ∈ words ∧ vs = [.str (tab ds), .str x] ∧ Gives (.bl (keepsB ds n x)) H Q
theorem ok_keeps (F : Fun K "keeps" "keeps" skeeps f fd) (B : Blt mg) (D_must_be_table : DefG P w K mg base "must_be_table" ["x"] 2 spMust) (D_must_be_word : DefG P w K mg base "must_be_word" ["x"] 2 spMustWord)
    (D_is_sum : DefG P w K mg base "is_sum" ["table"] 5 spIsSum) (D_is_onto : DefG P w K mg base "is_onto" ["table"] 3 spOnto) (D_counting : DefG P w K mg base "counting" ["table"] 4 spCounting)
    (D_first_out : DefG P w K mg base "first_out" ["table", "word"] 5 spFirstOut) : FnG P w K mg base 6 f fd ["table", "word"] spKeeps := by
  refine fnG F sckeeps (fun vs H Q E h => ?_) (fun cdv A fr s H vs Q E hr gd h => ?_)
  · obtain ⟨ds, n, x, _, _, rfl, _⟩ := h
    rfl
  · obtain ⟨ds, n, x, T, hx, rfl, k⟩ := h
    refine ⟨_, (pss_cons (ps_expr (pe_def D_must_be_table (hr.mono (by decide)) gd rfl (pa_cons (pv 0) pa_nil)))
  (pss_cons (ps_expr (pe_def D_must_be_word (hr.mono (by decide)) gd rfl (pa_cons (pv 1) pa_nil)))
  (pss_cons (ps_if (pt_cmpR op_eq (pv 1) pe_str (nomark _)) (pss_one (ps_ret (pe_def D_is_sum (hr.mono (by decide)) gd rfl (pa_cons (pv 0) pa_nil)))) pss_nil)
  (pss_cons (ps_if (pt_cmpR op_eq (pv 1) pe_str (nomark _)) (pss_one (ps_ret (pe_or (pe_not (pe_def D_is_onto (hr.mono (by decide)) gd rfl (pa_cons (pv 0) pa_nil))) (pe_one (pe_cmpR op_lt (pe_callB call_len (by rfl) B.m_len (by decide +kernel) (pa_cons (pe_def D_counting (hr.mono (by decide)) gd rfl (pa_cons (pv 0) pa_nil)) pa_nil)) pe_int (nomark _)))))) pss_nil)
  (pss_one (ps_ret (pe_cmpR op_isN (pe_def D_first_out (hr.mono (by decide)) gd rfl (pa_cons (pv 0) (pa_cons (pv 1) pa_nil))) pe_non (nomark _)))))))), ?_⟩
    refine q_drop (ev_def (ea_cons (ev_var rfl) ea_nil) fun H1 _ Q q => ⟨ds, n, T, rfl, q⟩) fun H0 e0 => ?_
    refine q_drop (ev_def (ea_cons (ev_var rfl) ea_nil) fun H1 _ Q q => ⟨x, hx, rfl, q⟩) fun H1 e1 => ?_
    refine q_when (et_test (ev_op (ev_var rfl) ev_c (rv_eq rfl))) (fun c1 H2 e2 => ?_) (fun c1 H2 e2 => ?_)
    · have kb : keepsB ds n x = sumOk ds n := if_pos (of_decide_eq_true c1)
      rw [kb] at k
      exact s_ret (ev_def (ea_cons (ev_var rfl) ea_nil) fun H3 _ Q q => ⟨ds, n, T, rfl, q⟩) fun H3 e3 => k H3 (((e0.trans e1).trans e2).trans e3)
    have n1 := of_decide_eq_false c1
    refine q_when (et_test (ev_op (ev_var rfl) ev_c (rv_eq rfl))) (fun c2 H3 e3 => ?_) (fun c2 H3 e3 => ?_)
    · have kb : keepsB ds n x = (!ontoB ds || decide (((countV ds n).length : Int) < 2)) := (if_neg n1).trans (if_pos (of_decide_eq_true c2))
      rw [kb] at k
      exact s_ret (ev_orV (ev_notV (ev_def (ea_cons (ev_var rfl) ea_nil) fun H4 _ Q q => ⟨ds, n, T, rfl, q⟩)) fun _ => ev_op (ev_lenU (xs := countV ds n) (eu_def (ea_cons (ev_var rfl) ea_nil) fun H4 _ Q q => ⟨ds, n, T, rfl, q⟩)) ev_c rv_I0)
        fun H4 e4 => k H4 ((((e0.trans e1).trans e2).trans e3).trans e4)
    have n2 := of_decide_eq_false c2
    have kb : keepsB ds n x = decide ((firstOut ds n x).isNone = true) := (if_neg n1).trans (if_neg n2)
    have e03 := ((e0.trans e1).trans e2).trans e3
    refine ⟨_, rfl, _, rfl, ds, n, x, T, hx, rfl, fun none_ H4 e4 => ⟨rfl, ?_⟩, fun rs some_ p H4 ys e4 hp R => ⟨rfl, ?_⟩⟩
    · rw [kb, none_] at k
      exact k H4 (e03.trans e4)
    · rw [kb, some_] at k
      exact k H4 (e03.trans e4)
end
end Tv

namespace Tv
open PySem PySem.Spec PyProof.Rows L2 Evl
def wordI (i : Nat) : Str := words.getD i (Str.ofString "")
theorem word_at {i : Nat} {z : V} (h : (words.map V.str)[i]? = some z) : i < 18 ∧ z = .str (wordI i) ∧ wordI i ∈ words := by
  rw [List.getElem?_map] at h
  obtain ⟨x, hx, rfl⟩ := Option.map_eq_some_iff.mp h
  have e : wordI i = x := by
    unfold wordI
    rw [List.getD_eq_getElem?_getD, hx]
    rfl
  exact ⟨(List.getElem?_eq_some_iff.mp hx).1, by rw [e], by rw [e]; exact List.mem_of_getElem? hx⟩
theorem given_words (p : Str → Bool) : given 18 (fun i => p (wordI i)) (fun i => .str (wordI i)) = (words.filter p).map V.str := by
  have e : words = (List.range 18).map wordI := by decide +kernel
  conv => rhs; rw [e]
  unfold given
  rw [List.filter_map, List.map_map]
  rfl
end Tv

namespace Tv
open PySem PySem.Spec PyProof.Rows L2 Evl
theorem ways_iff {α : Type} {n : Nat} {xs r : List α} : r ∈ waysA (List.replicate n xs) ↔ r.length = n ∧ ∀ x ∈ r, x ∈ xs := by
  refine ⟨waysA_mem, ?_⟩
  induction n generalizing r with
  | zero =>
    rintro ⟨h, _⟩
    obtain rfl := List.eq_nil_of_length_eq_zero h
    exact List.mem_singleton.mpr rfl
  | succ n ih =>
    rintro ⟨h, m⟩
    have ne : r ≠ [] := fun e => by rw [e] at h; cases h
    have e := List.dropLast_concat_getLast ne
    rw [waysA_succ]
    unfold growA
    refine List.mem_flatMap.mpr ⟨r.dropLast, ih ⟨by rw [List.length_dropLast]; omega, fun x hx => m x (List.dropLast_subset _ hx)⟩, ?_⟩
    exact List.mem_map.mpr ⟨r.getLast ne, m _ (List.getLast_mem ne), e⟩
theorem firstOut_none {ds : List Nat} {n : Nat} {x : Str} : (firstOut ds n x).isNone = true ↔ ∀ rs : List (List Nat), rs.length = n → (∀ r ∈ rs, r ∈ relM x) → makes ds rs (wide x) ∈ relM x := by
  unfold firstOut
  rw [Option.isNone_iff_eq_none, List.find?_eq_none]
  constructor
  · intro h rs hl hm
    have := h rs (ways_iff.mpr ⟨hl, hm⟩)
    unfold outB at this
    simpa using this
  · intro h rs hrs
    obtain ⟨hl, hm⟩ := ways_iff.mp hrs
    have := h rs hl hm
    unfold outB
    simpa using this
theorem rel_rows {x : Str} (hx : x ∈ words) : ∀ r ∈ relM x, r.length = wide x ∧ ∀ a ∈ r, a < 3 := fun r hr => by
  obtain ⟨a1, a2⟩ := Bool.and_eq_true_iff.mp (List.all_eq_true.mp (words_rel x hx).2.1 r hr)
  exact ⟨of_decide_eq_true a1, fun a ha => of_decide_eq_true (List.all_eq_true.mp a2 a ha)⟩
end Tv

namespace Tv
open PySem PySem.Spec PyProof.Rows L2 Evl
section
variable {P : Program} {w : World} {K : PySem.W.Frag} {mg : Str → Option Value} {base : Heap} {f aL : Addr} {fd : FuncData}
section
variable {σ : L2.St} {H : Hp} {te : TE}
theorem ev_isTup {p : Addr} {xs : List V} (h : Ev te σ H (.ref p)) (hp : Rd H p (.tup xs)) : Ev (tCB (rIsi K) (tCons te (tCons (tC (.ty "tuple")) tNil))) σ H (.bl true) :=
  fun H1 e Q q => h H1 e _ fun H2 e2 => ⟨.ref p, .ty "tuple", _, _, true, rfl, .ty _, (by
    rcases ex_rd e2 (ex_rd e hp) with z | ⟨o, z⟩
    · exact .base (.tup z)
    · exact .fTuple z), kit_ty (by decide +kernel), q H2 e2⟩
theorem rd_but {p c : Addr} {H H' : Hp} {u : HO} (b : ∀ x o, x ≠ p → H x = some o → H' x = some o) (ne : c ≠ p) (h : Rd H c u) : Rd H' c u := by
  rcases h with h | ⟨o, h⟩
  · exact .inl (b _ _ ne h)
  · exact .inr ⟨o, b _ _ ne h⟩
theorem ev_isStr {x : Str} (h : Ev te σ H (.str x)) : Ev (tCB (rIsi K) (tCons te (tCons (tC (.ty "str")) tNil))) σ H (.bl true) :=
  fun H1 e Q q => h H1 e _ fun H2 e2 => ⟨.str x, .ty "str", _, _, true, rfl, .ty _, .base (.str x), kit_ty (by decide +kernel), q H2 e2⟩
theorem ev_lenTup {p : Addr} {xs : List V} (h : Ev te σ H (.ref p)) (hx : Rd H p (.tup xs)) :
    Ev (tCB (fun xs H Q => ∃ x n, xs = [x] ∧ LenV K x H n ∧ Q (.int (n : Nat)) H) (tCons te tNil)) σ H (.int (xs.length : Nat)) :=
  fun H1 e Q q => h H1 e _ fun H2 e2 => ⟨.ref p, xs.length, rfl, Or.inr ⟨xs, Or.inl (ex_rd e2 (ex_rd e hx)), rfl⟩, q H2 e2⟩
theorem trues (m : Nat) : (List.replicate m true).map V.bl = given m (fun _ => true) (fun _ => .bl true) := by
  unfold given
  rw [List.filter_eq_self.mpr fun _ _ => rfl, List.map_replicate, List.map_const', List.length_range]
theorem all_trues (m : Nat) : (List.replicate m true).all id = true := by simp
end
abbrev sare_tables : Stmt := top 19
abbrev Nare_tables : List Str := ["x", "count", "y"]
theorem scare_tables : FnScope Nare_tables ["x", "count"] (defScope sare_tables) := ⟨rfl, rfl, rfl, by decide +kernel, rfl, by decide +kernel, by decide +kernel⟩
/-- a tuple of tables of m places -/
def spAreTables : Sp := fun vs H Q _ => ∃ (p : Addr) (ts : List (List Nat)) (m : Nat), vs = [.ref p, .int (ts.length : Nat)] ∧ H p = some (.tup (ts.map fun t => V.str (tab t))) ∧ 1 ≤ ts.length ∧ ts.length ≤ 3 ∧
  (∀ t ∈ ts, IsTab t m) ∧ Gives (.bl true) H Q
theorem ok_are_tables (F : Fun K "are_tables" "are_tables" sare_tables f fd) (B : Blt mg) (D_is_table : DefG P w K mg base "is_table" ["x"] 1 spIsTable) : FnG P w K mg base 2 f fd ["x", "count"] spAreTables := by
  refine fnG F scare_tables (fun vs H Q E h => ?_) (fun cdv A fr s H vs Q E hr gd h => ?_)
  · obtain ⟨p, ts, m, rfl, _⟩ := h
    rfl
  · obtain ⟨p, ts, m, rfl, hp, l1, l3, T, k⟩ := h
    refine ⟨_, (pss_cons (ps_if (PW.pt (pw_or (pt_not (pt_val (pe_callB call_isi (by rfl) B.m_isinstance (by decide +kernel) (pa_cons (pv 0) (pa_cons (pe_bltn (v := .ty "tuple") rfl B.m_tuple (by decide +kernel) rfl) pa_nil))))) (pw_or (pt_cmpR op_ne (pe_callB call_len (by rfl) B.m_len (by decide +kernel) (pa_cons (pv 0) pa_nil)) (pv 1) (nomark _)) (pw_or1 (pt_not (pt_val (pe_callB (cr_all rfl) (by rfl) B.m_all (by decide +kernel) (pa_cons (pe_lc (own := [("y", 2)]) (g := gName 2) rfl scare_tables.nd (pi_tup (pv 0)) (blkOk_by (own := [("y", 2)]) (N := Nare_tables) (sc := defScope sare_tables) (by decide +kernel)) (fun _ _ _ _ _ => (pg_name (i := 2) scare_tables.nd rfl (Or.inl rfl))) (fun _ _ _ _ _ => pts_nil) (fun _ _ _ _ _ => (pe_def D_is_table (hr.mono (by decide)) gd rfl (pa_cons (pv 2) pa_nil)))) pa_nil)))))))) (pss_one (ps_ret pe_bl)) pss_nil)
  (pss_one (ps_ret (pe_callB (cr_all rfl) (by rfl) B.m_all (by decide +kernel) (pa_cons (pe_lc (own := [("y", 2)]) (g := gName 2) rfl scare_tables.nd (pi_tup (pv 0)) (blkOk_by (own := [("y", 2)]) (N := Nare_tables) (sc := defScope sare_tables) (by decide +kernel)) (fun _ _ _ _ _ => (pg_name (i := 2) scare_tables.nd rfl (Or.inl rfl))) (fun _ _ _ _ _ => pts_nil) (fun _ _ _ _ _ => (pe_cmpR op_eq (pe_callB (show CallR _ _ (fun xs H Q => ∃ x n, xs = [x] ∧ LenV K x H n ∧ Q (.int (n : Nat)) H) from call_len) (by rfl) B.m_len (by decide +kernel) (pa_cons (pv 2) pa_nil)) (pe_callB (show CallR _ _ (fun xs H Q => ∃ x n, xs = [x] ∧ LenV K x H n ∧ Q (.int (n : Nat)) H) from call_len) (by rfl) B.m_len (by decide +kernel) (pa_cons (pe_ix (show IxR _ (rIxT K) from ix_tup) (pv 0) pe_int (fun _ _ => rfl)) pa_nil)) (nomark _)))) pa_nil))))), ?_⟩
    have len : (ts.map fun t => V.str (tab t)).length = ts.length := List.length_map ..
    have item : ∀ {i : Nat} {x : V}, (ts.map fun t => V.str (tab t))[i]? = some x → ∃ t, x = .str (tab t) ∧ IsTab t m := fun {i x} hx => by
      rw [List.getElem?_map] at hx
      cases e : ts[i]? with
      | none => rw [e] at hx; cases hx
      | some t => rw [e] at hx; exact ⟨t, (Option.some.inj hx).symm, T t (List.mem_of_getElem? e)⟩
    refine q_pass (et_is (et_or (et_not (et_B (ev_isTup (ev_var rfl) (.inl hp)))) fun _ => et_or (et_test (ev_op (ev_lenTup (ev_var rfl) (.inl hp)) (ev_var rfl) (rv_ne rfl))) fun _ =>
      et_not (et_B (ev_allN (bs := List.replicate (ts.map fun t => V.str (tab t)).length true) ?_))) (by rw [all_trues, len]; simp)) fun H1 e1 => ?_
    · rw [trues]
      refine el_lcT (a := p) (xs := ts.map fun t => V.str (tab t)) (fun _ => true) (fun _ => .bl true) (ev_var rfl) (st_of hp) (by rw [len]; omega) (fun y => rfl) (fun i x H1 e hx => et_yes) (fun i x H1 e hx _ => ?_)
      obtain ⟨t, rfl, ht⟩ := item hx
      exact ev_def (ea_cons (ev_var rfl) ea_nil) fun H2 e2 Q q => ⟨t, m, ht, rfl, q⟩
    refine s_ret (v := .bl ((List.replicate (ts.map fun t => V.str (tab t)).length true).all id)) (ev_allN ?_) fun H2 e2 => by rw [all_trues]; exact k H2 (e1.trans e2)
    rw [trues]
    have hp1 := e1 _ _ hp
    refine el_lcT (a := p) (xs := ts.map fun t => V.str (tab t)) (fun _ => true) (fun _ => .bl true) (ev_var rfl) (st_of hp1) (by rw [len]; omega) (fun y => rfl) (fun i x H1 e hx => et_yes) (fun i x H2 e hx _ => ?_)
    obtain ⟨t, rfl, ht⟩ := item hx
    obtain ⟨t0, h0⟩ : ∃ t0, (ts.map fun t => V.str (tab t))[0]? = some (.str (tab t0)) ∧ IsTab t0 m := by
      have lt : 0 < (ts.map fun t => V.str (tab t)).length := by omega
      obtain ⟨t0, e0, hT⟩ := item (List.getElem?_eq_getElem lt)
      exact ⟨t0, by rw [List.getElem?_eq_getElem lt, e0], hT⟩
    refine ev_is (ev_op (ev_str_len (ev_var rfl) ht.size) (ev_str_len (ev_op (ev_var rfl) ev_c (rv_ixT (st_of (e _ _ hp1)) (atI_nat (j := 0) h0.1))) h0.2.size) (rv_eq rfl)) ?_
    rw [tab_len, tab_len, ht.len, h0.2.len]
    simp
end
end Tv

namespace Tv
open PySem PySem.Spec PyProof.Rows L2 Evl
section
variable {P : Program} {w : World} {K : PySem.W.Frag} {mg : Str → Option Value} {base : Heap} {f aL : Addr} {fd : FuncData}
section
variable {σ : L2.St} {H : Hp} {te tl to : TE}
/-- over texts side by side -/
theorem el_zips {p : Addr} {ys : List Str} {m j : Nat} {vs : List Nat} (v : Nat → V) (h : Ev tl σ H (.ref p)) (hp : SqT K H p (ys.map V.str)) (l1 : 1 ≤ ys.length) (l3 : ys.length ≤ 3)
    (same : ∀ y ∈ ys, y.cps.size = m ∧ y.cps.all (· < 128) = true) (mz : m ≤ 1000) (hw : ∀ x, wipe ((wipe σ vs).set j (some x)) vs = wipe σ vs)
    (he : ∀ (i : Nat) (T : Addr) H1, Ex H H1 → i < m → H1 T = some (.tup (ys.map (signAt i))) → Ev te ((wipe σ vs).set j (some (.ref T))) H1 (v i)) :
    EvL (tLc (iZips K tl) (gName j) tYes te vs) σ H (given m (fun _ => true) v) := fun H0 e Q q => h H0 e _ fun H1 e1 =>
  ⟨p, ys, m, rfl, ex_t (e.trans e1) hp, l1, l3, same, fun D hD => lc_zips (ys := ys) (m := m) (Cw H1 (fun _ => true) v D) ⟨hD, Ex.new hD, upd_same⟩ (fun i T H' hi none_ pc => ⟨hw _, by
      obtain ⟨p1, p2, p3⟩ := pc
      have eT := Ex.new (o := .tup (ys.map (signAt i))) none_
      refine yes_go (he i T _ ((e.trans e1).trans (p2.trans eT)) hi upd_same _ (Ex.refl _) _ fun H4 e4 => ⟨given i (fun _ => true) v, e4 _ _ (eT _ _ p3), ?_, p1, Ex.mut (p2.trans (eT.trans e4)) p1, ?_⟩)
      · have := given_len i (fun _ => true) v
        exact Nat.lt_of_le_of_lt (by omega : _ ≤ 1000) (by decide)
      · rw [given_yes rfl]
        exact upd_same⟩)
    (fun H' pc => q D H' (fresh_back e1 pc.1) (e1.trans pc.2.1) pc.2.2)⟩
theorem ev_int3 {ds : List Nat} (h : Ev te σ H (.str (tab ds))) (ne : ds ≠ []) (few : ds.length ≤ 3) (dig : ∀ d ∈ ds, d < 3) : Ev (tCB rInt3 (tCons te (tCons (tC (.int 3)) tNil))) σ H (.int (num ds : Nat)) :=
  fun H1 e Q q => h H1 e _ fun H2 e2 => ⟨ds, rfl, ne, few, dig, q H2 e2⟩
theorem ev_def1L {sp : Sp} {v : V} {xs : List V} (h : EvL te σ H xs) (hs : ∀ p H1, Ex H H1 → H1 p = some (.lst xs) → ∀ Q : VK, (∀ H2, Ex H1 H2 → Q v H2) → sp [.ref p] H1 Q E0) : Ev (tDef sp (tCons te tNil)) σ H v :=
  fun H1 e Q q => h H1 e _ fun p H2 _ e2 hp => hs p H2 (e.trans e2) hp Q fun H3 e3 => q H3 (e2.trans e3)
end
theorem signs_given (ds : List Nat) : (ds.map fun d => (⟨#[48 + d]⟩ : Str)).map V.str = given ds.length (fun _ => true) (fun i => .str ⟨#[48 + ds.getD i 0]⟩) := by
  rw [given_iv 0 ds (fun d => V.str ⟨#[48 + d]⟩), List.map_map]
  rfl
theorem getD_lt3 {ds : List Nat} (h : ∀ d ∈ ds, d < 3) (i : Nat) : ds.getD i 0 < 3 := by
  rw [List.getD_eq_getElem?_getD]
  cases e : ds[i]? with
  | none => decide
  | some d => exact h d (List.mem_of_getElem? e)
/-! ### put_together -/
def putT (ds : List Nat) (ts : List (List Nat)) (m : Nat) : List Nat := (List.range (3 ^ m)).map fun j => ds.getD (num (ts.map fun t => t.getD j 0)) 0
theorem putT_ok {ds : List Nat} {n m : Nat} {ts : List (List Nat)} (T : IsTab ds n) (l1 : 1 ≤ ts.length) (hT : ∀ t ∈ ts, IsTab t m) : IsTab (putT ds ts m) m := by
  obtain ⟨t, ht⟩ := List.exists_mem_of_length_pos (l := ts) (by omega)
  have Tt := hT t ht
  refine ⟨Tt.n1, Tt.n3, by unfold putT; simp, fun d hd => ?_⟩
  obtain ⟨j, _, rfl⟩ := List.mem_map.mp hd
  exact getD_lt3 T.dig _
theorem putT_at (ds : List Nat) (ts : List (List Nat)) {m j : Nat} (h : j < 3 ^ m) : (putT ds ts m).getD j 0 = ds.getD (num (ts.map fun t => t.getD j 0)) 0 := by
  unfold putT
  rw [List.getD_eq_getElem?_getD, List.getElem?_map, List.getElem?_range h]
  rfl
def spPut : Sp := fun vs H Q _ => ∃ (ds : List Nat) (n m : Nat) (p : Addr) (ts : List (List Nat)), IsTab ds n ∧ vs = [.str (tab ds), .ref p] ∧ H p = some (.tup (ts.map fun t => V.str (tab t))) ∧ ts.length = n ∧
  (∀ t ∈ ts, IsTab t m) ∧ Gives (.str (tab (putT ds ts m))) H Q
abbrev sput_together : Stmt := top 32
abbrev Nput_together : List Str := ["table", "tables", "many", "signs"]
theorem scput_together : FnScope Nput_together ["table", "tables"] (defScope sput_together) := ⟨rfl, rfl, rfl, by decide +kernel, rfl, by decide +kernel, by decide +kernel⟩
theorem ok_put (F : Fun K "put_together" "put_together" sput_together f fd) (B : Blt mg) (B3 : Blt3 mg) (D_places : DefG P w K mg base "places" ["table"] 3 spPlaces)
    (D_are_tables : DefG P w K mg base "are_tables" ["x", "count"] 2 spAreTables) : FnG P w K mg base 4 f fd ["table", "tables"] spPut := by
  refine fnG F scput_together (fun vs H Q E h => ?_) (fun cdv A fr s H vs Q E hr gd h => ?_)
  · obtain ⟨ds, n, m, p, ts, _, rfl, _⟩ := h
    rfl
  · obtain ⟨ds, n, m, p, ts, T, rfl, hp, hl, hT, k⟩ := h
    refine ⟨_, (pss_cons (ps_set (i := 2) scput_together.nd rfl (Or.inl rfl) (pe_def D_places (hr.mono (by decide)) gd rfl (pa_cons (pv 0) pa_nil)))
  (pss_cons (ps_if (pt_not (pt_val (pe_def D_are_tables (hr.mono (by decide)) gd rfl (pa_cons (pv 1) (pa_cons (pv 2) pa_nil))))) (pss_one ps_never) pss_nil)
  (pss_one (ps_ret (show PE _ _ (tM1 (rJoin K) _ _) from pe_join pe_str (pe_lc (own := [("signs", 3)]) (g := gName 3) rfl scput_together.nd (pi_zips rfl B3.m_zip (pv 1)) (blkOk_by (own := [("signs", 3)]) (N := Nput_together) (sc := defScope sput_together) (by decide +kernel)) (fun _ _ _ _ _ => (pg_name (i := 3) scput_together.nd rfl (Or.inl rfl))) (fun _ _ _ _ _ => pts_nil) (fun _ _ _ _ _ => (pe_ix ix_str (pv 0) (pe_callTy call_int3 (by rfl) B.m_int (by decide +kernel) (pa_cons (show PE _ _ (tM1 (rJoin K) _ _) from pe_join pe_str (pv 3)) (pa_cons pe_int pa_nil))) (fun _ _ => rfl))))))))), ?_⟩
    have n1 := T.n1
    have n3 := T.n3
    obtain ⟨t, ht⟩ := List.exists_mem_of_length_pos (l := ts) (by omega)
    have Tt := hT t ht
    have P0 := putT_ok T (by omega) hT
    refine q_asg (v := .int (n : Int)) (ev_def (ea_cons (ev_var rfl) ea_nil) fun H1 _ Q q => ⟨ds, n, T, rfl, q⟩) fun H0 e0 => ?_
    refine q_pass (et_is (et_not (et_B (ev_def (v := .bl true) (ea_cons (ev_var rfl) (ea_cons (ev_var rfl) ea_nil)) fun H1 e1 Q q => ⟨p, ts, m, by rw [hl], e1 _ _ (e0 _ _ hp), by omega, by omega, hT, q⟩))) rfl) fun H2 e2 => ?_
    have hp2 := e2 _ _ (e0 _ _ hp)
    refine s_ret (v := .str (tab (putT ds ts m))) (ev_joinTab ev_c ?_ (by have := P0.small; omega)) fun H3 e3 => k H3 ((e0.trans e2).trans e3)
    have e3 : (putT ds ts m).length = 3 ^ m := P0.len
    have small := P0.small
    rw [signs_given, e3]
    refine el_zips (ys := ts.map tab) (fun i => .str ⟨#[48 + (putT ds ts m).getD i 0]⟩) (ev_var rfl) (st_of (by rw [hp2, List.map_map]; rfl)) (by rw [List.length_map]; omega) (by rw [List.length_map]; omega) (fun y hy => ?_) (by omega) (fun x => rfl) (fun i Ta H4 e4 hi hTa => ?_)
    · obtain ⟨t, ht, rfl⟩ := List.mem_map.mp hy
      exact tab_ascii (hT t ht)
    · have es : (ts.map tab).map (signAt i) = ((ts.map fun t => t.getD i 0).map fun d => (⟨#[48 + d]⟩ : Str)).map V.str := by
        rw [List.map_map, List.map_map, List.map_map]
        exact List.map_congr_left fun t ht => sign_tab (by rw [(hT t ht).len]; exact hi)
      rw [es] at hTa
      have dg : ∀ d ∈ ts.map (fun t => t.getD i 0), d < 3 := fun d hd => by
        obtain ⟨t, ht, rfl⟩ := List.mem_map.mp hd
        exact getD_lt3 (hT t ht).dig _
      have lt : (ts.map fun t => t.getD i 0).length = n := by rw [List.length_map, hl]
      obtain ⟨g1, g2⟩ := T.at lt dg
      rw [putT_at _ _ hi]
      refine ev_op (ev_var rfl) (ev_int3 (ev_joinTup ev_c (ev_var rfl) hTa (by omega)) (fun e => by rw [e] at lt; have : 0 = n := lt; omega) (by omega) dg) (rv_ixS (by rw [tab_len]; have := T.small; omega) ?_)
      rw [tab_cps]
      exact atI_nat (by rw [List.getElem?_map, g1]; rfl)
end
end Tv

namespace Tv
open PySem PySem.Spec PyProof.Rows L2 Evl
section
variable {P : Program} {w : World} {K : PySem.W.Frag} {mg : Str → Option Value} {base : Heap} {f aL C : Addr} {fd : FuncData}
abbrev sname_of : Stmt := top 37
abbrev Nname_of : List Str := ["row"]
theorem scname_of : FnScope Nname_of ["row"] (defScope sname_of) := ⟨rfl, rfl, rfl, by decide +kernel, rfl, by decide +kernel, by decide +kernel⟩
def spNameOf : Sp := fun vs H Q _ => ∃ x : Nt, x.Ok ∧ vs = [.str x.row] ∧ Gives (.str x.nm) H Q
theorem ok_name_of (F : Fun K "name_of" "name_of" sname_of f fd) : FnG P w K mg base 1 f fd ["row"] spNameOf := by
  refine fnG F scname_of (fun vs H Q E h => ?_) (fun cdv A fr s H vs Q E hr gd h => ?_)
  · obtain ⟨x, _, rfl, _⟩ := h
    rfl
  · obtain ⟨x, ok, rfl, k⟩ := h
    refine ⟨_, (pss_one (ps_ret (pe_ix ix_tup (pe_bm PySem.F.plainAttrs_str PySem.F.slot_str_partition PySem.F.type_str_partition mt_partition (pv 0) (pa_cons pe_str pa_nil)) pe_int (fun _ _ => rfl)))), ?_⟩
    refine ⟨_, rfl, rfl, x.row, Str.ofString " ", rfl, rfl, rfl, row_small ok, fun p hp => ?_⟩
    rw [row_parts ok]
    exact ⟨p, _, 0, _, rfl, rfl, SqT.of upd_same, rfl, k _ (Ex.new hp)⟩
abbrev sis_row : Stmt := top 36
abbrev Nis_row : List Str := ["x", "name", "_", "table", "sign"]
theorem scis_row : FnScope Nis_row ["x"] (defScope sis_row) := ⟨rfl, rfl, rfl, by decide +kernel, rfl, by decide +kernel, by decide +kernel⟩
def spIsRow : Sp := fun vs H Q _ => ∃ x : Nt, x.Ok ∧ vs = [.str x.row] ∧ Gives (.bl true) H Q
theorem ok_is_row (F : Fun K "is_row" "is_row" sis_row f fd) (B : Blt mg) (BK : BoxK mg) (D_is_table : DefG P w K mg base "is_table" ["x"] 1 spIsTable) : FnG P w K mg base 2 f fd ["x"] spIsRow := by
  refine fnG F scis_row (fun vs H Q E h => ?_) (fun cdv A fr s H vs Q E hr gd h => ?_)
  · obtain ⟨x, _, rfl, _⟩ := h
    rfl
  · obtain ⟨x, ok, rfl, k⟩ := h
    refine ⟨_, (pss_cons (ps_if (pt_not (pt_val (pe_callB call_isi (by rfl) B.m_isinstance (by decide +kernel) (pa_cons (pv 0) (pa_cons (pe_bltn (v := .ty "str") rfl B.m_str (by decide +kernel) rfl) pa_nil))))) (pss_one (ps_ret pe_bl)) pss_nil)
  (pss_cons (ps_asg (pe_bm PySem.F.plainAttrs_str PySem.F.slot_str_partition PySem.F.type_str_partition mt_partition (pv 0) (pa_cons pe_str pa_nil)) (pg_tup rfl (pgs_cons (pg_name (i := 1) scis_row.nd rfl (Or.inl rfl)) (pgs_cons (pg_name (i := 2) scis_row.nd rfl (Or.inl rfl)) (pgs_cons (pg_name (i := 3) scis_row.nd rfl (Or.inl rfl)) pgs_nil)))))
  (pss_one (ps_ret (pe_and (pe_chain op_le op_le pe_int (pe_callB call_len (by rfl) B.m_len (by decide +kernel) (pa_cons (pv 1) pa_nil)) (C8.pe_gc rfl BK.mML)) (pe_and (pe_callB (cr_all rfl) (by rfl) B.m_all (by decide +kernel) (pa_cons (pe_lc (own := [("sign", 4)]) (g := gName 4) rfl scis_row.nd (pi_str (pv 1)) (blkOk_by (own := [("sign", 4)]) (N := Nis_row) (sc := defScope sis_row) (by decide +kernel)) (fun _ _ _ _ _ => (pg_name (i := 4) scis_row.nd rfl (Or.inl rfl))) (fun _ _ _ _ _ => pts_nil) (fun _ _ _ _ _ => (pe_cmpR op_in_sign (pv 4) (C8.pe_gc rfl BK.mLe) (by rfl)))) pa_nil)) (pe_one (pe_def D_is_table (hr.mono (by decide)) gd rfl (pa_cons (pv 3) pa_nil))))))))), ?_⟩
    refine q_pass (et_is (et_not (et_B (ev_isStr (ev_var rfl)))) rfl) fun H1 e1 => ?_
    refine ⟨_, rfl, rfl, x.row, Str.ofString " ", rfl, rfl, rfl, row_small ok, fun p hp => ?_⟩
    rw [row_parts ok]
    refine ⟨p, _, rfl, SqT.of upd_same, rfl, _, _, rfl, ⟨_, _, rfl, ⟨_, _, rfl, rfl, ?_⟩⟩⟩
    have e2 := e1.trans (Ex.new (o := .tup [V.str x.nm, V.str (Str.ofString " "), V.str (tab x.ds)]) hp)
    have n1 := ok.name.some_
    have n4 := ok.name.few
    have small : x.nm.length ≤ sizeLine := Nat.le_trans n4 (by decide)
    refine s_ret (v := .bl (true && (true && true))) (ev_andV (ev_chain ev_c (ev_str_len (ev_var rfl) small) (z := .int 4) ?_ ev_c ?_) fun _ => ev_andV (ev_is (ev_allN (bs := List.replicate x.nm.cps.size true) ?_) ?_) fun _ =>
      ev_def (ea_cons (ev_var rfl) ea_nil) fun H3 e3 Q q => ⟨x.ds, x.n, ok.tab, rfl, q⟩) fun H3 e3 => k H3 (e2.trans e3)
    · refine fun H4 e4 Q q => ⟨_, _, rfl, rfl, ?_⟩
      show Q (.bl (decide ((1 : Int) ≤ ((x.nm.length : Nat) : Int)))) H4
      rw [show decide ((1 : Int) ≤ ((x.nm.length : Nat) : Int)) = true from decide_eq_true (by omega)]
      exact q H4 (Ex.refl _)
    · refine fun H4 e4 Q q => ⟨_, _, rfl, rfl, ?_⟩
      show Q (.bl (decide (((x.nm.length : Nat) : Int) ≤ 4))) H4
      rw [show decide (((x.nm.length : Nat) : Int) ≤ 4) = true from decide_eq_true (by omega)]
      exact q H4 (Ex.refl _)
    · rw [trues]
      refine el_lcS (x := x.nm) (fun _ => true) (fun _ => .bl true) (ev_var rfl) (by show x.nm.length ≤ 40000; omega) (fun y => rfl) (fun i c H4 e4 hc => et_yes) (fun i c H4 e4 hc _ => ?_)
      refine ev_is (ev_inSign (ev_var rfl) ev_c) ?_
      rw [letter_in (ok.name.lets c (by rw [← Array.getElem?_toList] at hc; exact List.mem_of_getElem? hc))]
    · rw [all_trues]
abbrev smust_be_rows : Stmt := top 38
abbrev Nmust_be_rows : List Str := ["rows", "names", "at", "row"]
theorem scmust_be_rows : FnScope Nmust_be_rows ["rows"] (defScope smust_be_rows) := ⟨rfl, rfl, rfl, by decide +kernel, rfl, by decide +kernel, by decide +kernel⟩
def spMustRows : Sp := fun vs H Q _ => ∃ (p : Addr) (L : List Nt), Oks L ∧ vs = [.ref p] ∧ H p = some (.tup (rowsV L)) ∧ Gives .non H Q
theorem rowsV_at {L : List Nt} {i : Nat} {z : V} (h : (rowsV L)[i]? = some z) : ∃ x, L[i]? = some x ∧ z = .str x.row := by
  unfold rowsV at h
  rw [List.getElem?_map] at h
  obtain ⟨x, hx, rfl⟩ := Option.map_eq_some_iff.mp h
  exact ⟨x, hx, rfl⟩
theorem name_new {L : List Nt} (nd : (L.map (·.nm)).Nodup) {i : Nat} {x : Nt} (h : L[i]? = some x) : ¬ x.nm ∈ (L.take i).map (·.nm) := fun m => by
  obtain ⟨y, hy, e⟩ := List.mem_map.mp m
  obtain ⟨j, hj⟩ := List.mem_iff_getElem?.mp hy
  rw [List.getElem?_take] at hj
  split at hj
  · rename_i lt
    have a : (L.map (·.nm))[j]? = some x.nm := by rw [List.getElem?_map, hj]; exact congrArg some e
    have b : (L.map (·.nm))[i]? = some x.nm := by rw [List.getElem?_map, h]; rfl
    obtain ⟨la, a⟩ := List.getElem?_eq_some_iff.mp a
    obtain ⟨lb, b⟩ := List.getElem?_eq_some_iff.mp b
    have := (List.pairwise_iff_getElem.mp nd) j i la lb lt
    exact this (by rw [a, b])
  · cases hj
theorem ok_must_be_rows (F : Fun K "must_be_rows" "must_be_rows" smust_be_rows f fd) (B : Blt mg) (BK : BoxK mg) (D_is_row : DefG P w K mg base "is_row" ["x"] 2 spIsRow)
    (D_name_of : DefG P w K mg base "name_of" ["row"] 1 spNameOf) : FnG P w K mg base 3 f fd ["rows"] spMustRows := by
  refine fnG F scmust_be_rows (fun vs H Q E h => ?_) (fun cdv A fr s H vs Q E hr gd h => ?_)
  · obtain ⟨p, L, _, rfl, _⟩ := h
    rfl
  · obtain ⟨p, L, ok, rfl, hp, k⟩ := h
    refine ⟨_, (pss_cons (ps_if (pt_cmpR op_gt (pe_callB call_len (by rfl) B.m_len (by decide +kernel) (pa_cons (pv 0) pa_nil)) (C8.pe_gc rfl BK.mMT) (nomark _)) (pss_one ps_never) pss_nil)
  (pss_cons (ps_set (i := 1) scmust_be_rows.nd rfl (Or.inl rfl) (pe_lst pa_nil))
  (pss_one (ps_for PassesOwn.never rfl (pi_enumT rfl BK.m_enumerate (pa_cons (pv 0) pa_nil)) (pg_tup rfl (pgs_cons (pg_name (i := 2) scmust_be_rows.nd rfl (Or.inl rfl)) (pgs_cons (pg_name (i := 3) scmust_be_rows.nd rfl (Or.inl rfl)) pgs_nil))) (pss_cons (ps_if (PW.pt (pw_or (pt_not (pt_val (pe_def D_is_row (hr.mono (by decide)) gd rfl (pa_cons (pv 3) pa_nil)))) (pw_or1 (pt_cmpR op_in_seq (pe_def D_name_of (hr.mono (by decide)) gd rfl (pa_cons (pv 3) pa_nil)) (pv 1) (by rfl))))) (pss_one ps_never) pss_nil)
  (pss_one (ps_expr (pe_bm PySem.F.plainAttrs_list PySem.F.slot_list_append PySem.F.type_list_append mt_append (pv 1) (pa_cons (pe_def D_name_of (hr.mono (by decide)) gd rfl (pa_cons (pv 3) pa_nil)) pa_nil))))))))), ?_⟩
    have few := ok.few
    have len : (rowsV L).length = L.length := List.length_map ..
    refine q_pass (et_is (et_test (ev_op (ev_lenTup (ev_var rfl) (.inl hp)) ev_c rv_I0)) (by rw [len]; exact decide_eq_false (by omega))) fun H1 e1 => ?_
    refine q_asgL (el_lst ea_nil (by decide)) fun l H2 hl e2 h2 => ?_
    have hp2 := e2 _ _ (e1 _ _ hp)
    refine ⟨_, rfl, p, rowsV L, rfl, SqT.of hp2, for_enumT (K := K) (a := p) (xs := rowsV L)
      (fun i σ H3 => ∃ v1 v2 : Option V, σ = [some (.ref p), some (.ref l), v1, v2] ∧ Ex H1 H3 ∧ H3 l = some (.lst (((L.take i).map (·.nm)).map V.str)))
      ⟨none, none, rfl, e2, h2⟩ (fun i σ H3 ⟨_, _, _, e3, _⟩ => SqT.of (e3 _ _ (e1 _ _ hp))) ?_ ?_⟩
    · rintro i z T σ H3 hz ⟨v1, v2, rfl, e3, h3⟩ hT
      obtain ⟨x, hx, rfl⟩ := rowsV_at hz
      have xo := ok.ok x (List.mem_of_getElem? hx)
      have il : i < L.length := (List.getElem?_eq_some_iff.mp hx).1
      refine ⟨T, _, rfl, SqT.of upd_same, rfl, _, _, rfl, ⟨_, _, rfl, rfl, ?_⟩⟩
      have eT := Ex.new (o := .tup [V.int (i : Nat), V.str x.row]) hT
      have h4 := eT _ _ h3
      refine q_pass (et_is (et_or (et_not (et_B (ev_def (v := .bl true) (ea_cons (ev_var rfl) ea_nil) fun H5 _ Q q => ⟨x, xo, rfl, q⟩))) fun _ =>
        et_test (ev_op (y := .ref l) (ev_def (v := .str x.nm) (ea_cons (ev_var rfl) ea_nil) fun H5 _ Q q => ⟨x, xo, rfl, q⟩) (ev_var rfl) (rv_isL (sq_of h4) rfl (strs_flat _)))) ?_) fun H5 e5 => ?_
      · rw [inV_strs, decide_eq_false (name_new ok.apart hx)]
        rfl
      have h5 := e5 _ _ h4
      refine s_app h5 (ev_var rfl) (ev_def (v := .str x.nm) (ea_cons (ev_var rfl) ea_nil) fun H6 _ Q q => ⟨x, xo, rfl, q⟩) (by rw [List.length_map, List.length_map, List.length_take]; omega) fun H6 e6 => ?_
      refine ⟨_, _, rfl, Ex.mut (((e3.trans eT).trans e5).trans e6) hl, ?_⟩
      rw [upd_same, List.take_succ, hx, List.map_append, List.map_append]
      rfl
    · rintro σ H3 ⟨v1, v2, rfl, e3, h3⟩
      exact k H3 (e1.trans e3)
/-! ### the class -/
abbrev sBox___init__ : Stmt := inClass (top 40) 0
abbrev NBox___init__ : List Str := ["self", "rows"]
theorem scBox___init__ : FnScope NBox___init__ ["self", "rows"] (defScope sBox___init__) := ⟨rfl, rfl, rfl, by decide +kernel, rfl, by decide +kernel, by decide +kernel⟩
theorem ok_init (F : Fun K "__init__" "Box.__init__" sBox___init__ f fd) (BC : BoxC K mg C) (D_must_be_rows : DefG P w K mg base "must_be_rows" ["rows"] 3 spMustRows) : FnGR P w K mg base 4 f (spBoxed C) := by
  refine fn_starG (ps := ["self"]) (pv := "rows") (sp := spInit C) F scBox___init__ (fun kV doc pm an cdv ct => StX.bind_star1 (B := fun xs => bindArgs (PySem.W.fnOf "__init__" "Box.__init__" (defArgs sBox___init__) (defBody sBox___init__) (defScope sBox___init__) .none kV doc pm an cdv ct) ⟨xs, []⟩) (p1 := "self") (pv := "rows") (fun a => by rfl) (fun a r rs => by rfl)) (fun cdv A fr s H vs Q E hr gd h => ?_)
  obtain ⟨a, dx, p, L, ok, rfl, ha, hp, k⟩ := h
  refine ⟨_, (pss_cons (ps_expr (pe_def D_must_be_rows (hr.mono (by decide)) gd rfl (pa_cons (pv 1) pa_nil)))
  (pss_one (ps_fld (pv 0) (pv 1) rfl))), ?_⟩
  refine q_drop (ev_def (ea_cons (ev_var rfl) ea_nil) fun H1 e1 Q q => ⟨p, L, ok, rfl, e1 _ _ hp, q⟩) fun H1 e1 => ?_
  refine ⟨_, rfl, _, rfl, a, C, dx, [], rfl, e1 _ _ ha, BC.cl, BC.nR, by decide, ?_⟩
  exact k _ (fun b o nb hb => by rw [upd_ne nb]; exact e1 _ _ hb) upd_same
abbrev sBox_names : Stmt := inClass (top 40) 4
abbrev NBox_names : List Str := ["self", "row"]
theorem scBox_names : FnScope NBox_names ["self"] (defScope sBox_names) := ⟨rfl, rfl, rfl, by decide +kernel, rfl, by decide +kernel, by decide +kernel⟩
theorem ok_names (F : Fun K "names" "Box.names" sBox_names f fd) (B : Blt mg) (BC : BoxC K mg C) (D_name_of : DefG P w K mg base "name_of" ["row"] 1 spNameOf) : FnG P w K mg base 2 f fd ["self"] (spGet C namesV) := by
  refine fnG F scBox_names (fun vs H Q E h => ?_) (fun cdv A fr s H vs Q E hr gd h => ?_)
  · obtain ⟨a, L, rfl, _⟩ := h
    rfl
  · obtain ⟨a, L, rfl, BA, k⟩ := h
    obtain ⟨dx, p, ha, hp⟩ := BA.ob
    refine ⟨_, (pss_one (ps_ret (pe_callTy call_tuple_of (by rfl) B.m_tuple (by decide +kernel) (pa_cons (pe_lc (own := [("row", 1)]) (g := gName 1) rfl scBox_names.nd (pi_tup (pe_fld (pv 0) rfl)) (blkOk_by (own := [("row", 1)]) (N := NBox_names) (sc := defScope sBox_names) (by decide +kernel)) (fun _ _ _ _ _ => (pg_name (i := 1) scBox_names.nd rfl (Or.inl rfl))) (fun _ _ _ _ _ => pts_nil) (fun _ _ _ _ _ => (pe_def D_name_of (hr.mono (by decide)) gd rfl (pa_cons (pv 1) pa_nil)))) pa_nil)))), ?_⟩
    refine s_retU (xs := namesV L) (eu_tupleN ?_) fun q H1 hq e1 h1 => k q H1 hq e1 h1
    have fin : namesV L = given (rowsV L).length (fun _ => true) (fun i => nth (namesV L) i) := by
      have := given_all (namesV L) id
      rw [List.map_id] at this
      rw [show (rowsV L).length = (namesV L).length by unfold rowsV namesV; rw [List.length_map, List.length_map]]
      exact this.symm
    rw [fin]
    have few := BA.oks.few
    refine el_lcT (a := p) (xs := rowsV L) (fun _ => true) _ (ev_fld (ev_var rfl) ha BC.cl BC.nR rfl) (st_of hp) (by unfold rowsV; rw [List.length_map]; omega) (fun y => rfl) (fun i x H1 e hx => et_yes) (fun i z H1 e hz _ => ?_)
    obtain ⟨x, hx, rfl⟩ := rowsV_at hz
    have en : nth (namesV L) i = .str x.nm := nth_of (by unfold namesV; rw [List.getElem?_map, hx]; rfl)
    rw [en]
    exact ev_def (ea_cons (ev_var rfl) ea_nil) fun H2 _ Q q => ⟨x, BA.oks.ok x (List.mem_of_getElem? hx), rfl, q⟩
abbrev sBox_tables : Stmt := inClass (top 40) 5
abbrev NBox_tables : List Str := ["self", "row"]
theorem scBox_tables : FnScope NBox_tables ["self"] (defScope sBox_tables) := ⟨rfl, rfl, rfl, by decide +kernel, rfl, by decide +kernel, by decide +kernel⟩
theorem ok_tables (F : Fun K "tables" "Box.tables" sBox_tables f fd) (B : Blt mg) (BC : BoxC K mg C) : FnG P w K mg base 1 f fd ["self"] (spGet C tablesV) := by
  refine fnG F scBox_tables (fun vs H Q E h => ?_) (fun cdv A fr s H vs Q E hr gd h => ?_)
  · obtain ⟨a, L, rfl, _⟩ := h
    rfl
  · obtain ⟨a, L, rfl, BA, k⟩ := h
    obtain ⟨dx, p, ha, hp⟩ := BA.ob
    refine ⟨_, (pss_one (ps_ret (pe_callTy call_tuple_of (by rfl) B.m_tuple (by decide +kernel) (pa_cons (pe_lc (own := [("row", 1)]) (g := gName 1) rfl scBox_tables.nd (pi_tup (pe_fld (pv 0) rfl)) (blkOk_by (own := [("row", 1)]) (N := NBox_tables) (sc := defScope sBox_tables) (by decide +kernel)) (fun _ _ _ _ _ => (pg_name (i := 1) scBox_tables.nd rfl (Or.inl rfl))) (fun _ _ _ _ _ => pts_nil) (fun _ _ _ _ _ => (pe_ix (show IxR _ (rIxT K) from ix_tup) (show PE _ _ (tBM K _ _ _ _) from (pe_bm PySem.F.plainAttrs_str PySem.F.slot_str_partition PySem.F.type_str_partition mt_partition (pv 1) (pa_cons pe_str pa_nil))) pe_int (fun _ _ => rfl)))) pa_nil)))), ?_⟩
    refine s_retU (xs := tablesV L) (eu_tupleN ?_) fun q H1 hq e1 h1 => k q H1 hq e1 h1
    have fin : tablesV L = given (rowsV L).length (fun _ => true) (fun i => nth (tablesV L) i) := by
      have := given_all (tablesV L) id
      rw [List.map_id] at this
      rw [show (rowsV L).length = (tablesV L).length by unfold rowsV tablesV; rw [List.length_map, List.length_map]]
      exact this.symm
    rw [fin]
    have few := BA.oks.few
    refine el_lcT (a := p) (xs := rowsV L) (fun _ => true) _ (ev_fld (ev_var rfl) ha BC.cl BC.nR rfl) (st_of hp) (by unfold rowsV; rw [List.length_map]; omega) (fun y => rfl) (fun i x H1 e hx => et_yes) (fun i z H1 e hz _ => ?_)
    obtain ⟨x, hx, rfl⟩ := rowsV_at hz
    have xo := BA.oks.ok x (List.mem_of_getElem? hx)
    have en : nth (tablesV L) i = .str (tab x.ds) := nth_of (by unfold tablesV; rw [List.getElem?_map, hx]; rfl)
    rw [en]
    refine fun H2 e2 Q q => ⟨_, rfl, rfl, x.row, Str.ofString " ", rfl, rfl, rfl, row_small xo, fun p hp => ?_⟩
    rw [row_parts xo]
    exact ⟨p, _, 2, _, rfl, rfl, SqT.of upd_same, rfl, q _ (Ex.new hp)⟩
abbrev smust_be_box : Stmt := top 41
abbrev Nmust_be_box : List Str := ["x"]
theorem scmust_be_box : FnScope Nmust_be_box ["x"] (defScope smust_be_box) := ⟨rfl, rfl, rfl, by decide +kernel, rfl, by decide +kernel, by decide +kernel⟩
def spMustBox (C : Addr) : Sp := fun vs H Q _ => ∃ (a : Addr) (L : List Nt), vs = [.ref a] ∧ BoxAt C H a L ∧ Gives .non H Q
theorem ok_must_be_box (F : Fun K "must_be_box" "must_be_box" smust_be_box f fd) (B : Blt mg) (BC : BoxC K mg C) : FnG P w K mg base 1 f fd ["x"] (spMustBox C) := by
  refine fnG F scmust_be_box (fun vs H Q E h => ?_) (fun cdv A fr s H vs Q E hr gd h => ?_)
  · obtain ⟨a, L, rfl, _⟩ := h
    rfl
  · obtain ⟨a, L, rfl, BA, k⟩ := h
    obtain ⟨dx, p, ha, hp⟩ := BA.ob
    refine ⟨_, (pss_one (ps_if (pt_not (pt_val (pe_callB (C8.call_isC BC.ins) (by rfl) B.m_isinstance (by decide +kernel) (pa_cons (pv 0) (pa_cons (pe_glob (v := .ref C) rfl BC.mg rfl) pa_nil))))) (pss_one ps_never) pss_nil)), ?_⟩
    exact ⟨_, rfl, a, dx, _, rfl, ha, true, rfl, iteF (k H (Ex.refl H))⟩
end
end Tv

namespace Tv
open PySem PySem.Spec PyProof.Rows L2 Evl
section
variable {P : Program} {w : World} {K : PySem.W.Frag} {mg : Str → Option Value} {base : Heap} {f aL aW C : Addr} {fd : FuncData}
/-! ### all_ways of lists of lists, made_from of a list of rows -/
def spWaysL : Sp := fun vs H Q _ => ∃ (p : Addr) (ls : List V) (xss : List (List V)), vs = [.ref p] ∧ H p = some (.lst ls) ∧ FewWays xss ∧ ListsV H ls xss ∧ GivesRowsV (ways xss) H Q
theorem ok_all_waysL (F : Fun K "all_ways" "all_ways" sall_ways f fd) : FnG P w K mg base 1 f fd ["lots"] spWaysL := by
  refine fnG F scall_ways (fun vs H Q E h => ?_) (fun cdv A fr s H vs Q E hr gd h => ?_)
  · obtain ⟨p, ls, xss, rfl, _⟩ := h
    rfl
  · obtain ⟨p, ls, xss, rfl, hp, ⟨short, few⟩, R, k⟩ := h
    have many : ls.length = xss.length := R.len
    have small : ∀ {i : Nat} {xs : List V}, xss[i]? = some xs → (ways (xss.take i)).length * xs.length ≤ 60000 := fun {i xs} h => by
      have := few (i + 1) (List.getElem?_eq_some_iff.mp h).1
      rw [ways_take h, growAll_len] at this
      exact this
    have row_short : ∀ {i j : Nat} {r : List V}, (ways (xss.take i))[j]? = some r → r.length ≤ 100 := fun {i j r} h => by
      have := ways_row (List.mem_of_getElem? h)
      rw [List.length_take] at this
      omega
    refine ⟨_, (pss_cons (ps_set (i := 1) scall_ways.nd rfl (Or.inl rfl) (pe_lst (pa_cons (pe_tup pa_nil) pa_nil)))
  (pss_cons (ps_for PassesOwn.never rfl (pi_list (pv 0)) (pg_name (i := 2) scall_ways.nd rfl (Or.inr rfl)) (pss_one (ps_setLc2 (i := 1) (own := [("row", 3), ("x", 4)]) (vs1 := [4]) rfl scall_ways.nd rfl rfl (sw_true rfl rfl rfl (by decide +kernel)) (pi_list (pv 1)) (blkOk_by (own := [("row", 3), ("x", 4)]) (N := Nall_ways) (sc := defScope sall_ways) (by decide +kernel)) (by decide) (fun _ _ _ _ _ => (pg_name (i := 3) scall_ways.nd rfl (Or.inl rfl))) (fun _ _ _ _ _ => pts_nil) (fun _ _ _ _ _ => (show PI _ _ _ (iList K _) from (pi_list (pv 2)))) (fun _ _ _ _ _ => (pg_name (i := 4) scall_ways.nd rfl (Or.inl rfl))) (fun _ _ _ _ _ => pts_nil) (fun _ _ _ _ _ => (pe_op (show OpR _ _ (rCatA K) from op_catA) (pv 3) (pe_tup (pa_cons (pv 4) pa_nil)))))))
  (pss_one (ps_ret (pv 1))))), ?_⟩
    refine ⟨by decide, fun t ht => ⟨by show 1 ≤ sizeLine; decide, fun l hl => ?_⟩⟩
    have tl : t ≠ l := ne_of_none upd_same hl
    have e0 := (Ex.new (o := .tup []) ht).trans (Ex.new (o := .lst [.ref t]) hl)
    refine ⟨_, rfl, p, rfl, ⟨ls, SqL.of (e0 _ _ hp)⟩, for_list (K := K) (a := p) (xs := ls)
      (fun i σ H2 => ∃ (l2 : Addr) (xs : List V) (v : Option V), σ = [some (.ref p), some (.ref l2), v, none, none] ∧ H l2 = none ∧ Ex H H2 ∧ H2 l2 = some (.lst xs) ∧ RowsV H2 xs (ways (xss.take i)))
      ?_ (fun i σ H2 _ ⟨_, _, _, _, _, e, _⟩ => SqL.of (e _ _ hp)) ?_ ?_⟩
    · refine ⟨l, [.ref t], none, rfl, fresh_back (Ex.new ht) hl, e0, upd_same, .cons ⟨t, rfl, by rw [upd_ne tl, upd_same]⟩ .nil⟩
    · rintro i x σ H2 hi ⟨l2, ys, v, rfl, hl0, e2, hl2, R2⟩
      obtain ⟨xs, at_i, a, rfl, ha⟩ := R.get hi
      have ha2 := e2 _ _ ha
      refine ⟨_, rfl, l2, rfl, ⟨ys, SqL.of hl2⟩, fun D hD => lc2_out (K := K) (a := l2) (xs := ys)
        (fun j H3 => Ex H2 H3 ∧ ∃ zs, H3 D = some (.lst zs) ∧ RowsV H3 zs (growAll ((ways (xss.take i)).take j) xs))
        ⟨Ex.new hD, [], upd_same, .nil⟩ (fun j H3 _ e => SqL.of (e.1 _ _ hl2)) ?_ ?_⟩
      · rintro j x H3 hx ⟨e3, zs, hD3, R3⟩
        obtain ⟨r, at_r, _⟩ := R2.get hx
        refine ⟨rfl, yes_go ?_⟩
        refine ⟨_, rfl, a, rfl, ⟨xs, SqL.of (e3 _ _ ha2)⟩, lc2_out (K := K) (a := a) (xs := xs) (Grown D H2 (ways (xss.take i)) xs j r) ⟨e3, zs, hD3, ?_⟩ (fun m H4 _ e => SqL.of (e.1 _ _ ha2)) ?_ ?_⟩
        · have : grow r (xs.take 0) = [] := rfl
          rw [this, List.append_nil]
          exact R3
        · intro m y H4 hy pg
          exact ⟨rfl, yes_go (grown_turn hD R2 hx at_r hy (row_short at_r) (small at_i) pg (ev_var rfl) (ev_var rfl))⟩
        · intro H4 pg
          exact grown_end at_r pg
      · rintro H3 ⟨e3, zs, hD3, R3⟩
        rw [R2.len, List.take_length] at R3
        refine ⟨D, zs, _, rfl, fresh_back e2 hD, e2.trans e3, hD3, ?_⟩
        rw [ways_take at_i]
        exact R3
    · rintro σ H2 ⟨l2, xs, v, rfl, hl0, e2, hl2, R2⟩
      rw [many, List.take_length] at R2
      exact ⟨_, rfl, k l2 H2 xs hl0 e2 hl2 R2⟩
def spMadeL : Sp := fun vs H Q _ => ∃ (ds : List Nat) (n : Nat) (p q : Addr) (ys : List V) (rs : List (List Nat)) (m : Nat), IsTab ds n ∧ vs = [.ref p, .ref q] ∧ H p = some (.dT (kvs ds n)) ∧
  H q = some (.lst ys) ∧ Rows H ys rs ∧ rs.length = n ∧ (∀ r ∈ rs, r.length = m ∧ ∀ a ∈ r, a < 3) ∧ m ≤ 100 ∧ GivesT (iv (makes ds rs m)) H Q
theorem ok_made_fromL (F : Fun K "made_from" "made_from" smade_from f fd) (B : Blt mg) (B3 : Blt3 mg) :
    FnG P w K mg base 1 f fd ["values", "rows"] spMadeL := by
  refine fnG F scmade_from (fun vs H Q E h => ?_) (fun cdv A fr s H vs Q E hr gd h => ?_)
  · obtain ⟨ds, n, p, q, ys, rs, m, _, rfl, _⟩ := h
    rfl
  · obtain ⟨ds, n, p, q, ys, rs, m, T, rfl, hp, hq, R, many, ok, small, k⟩ := h
    refine ⟨_, (pss_one (ps_ret (pe_callTy call_tuple_of (by rfl) B.m_tuple (by decide +kernel) (pa_cons (pe_lc (own := [("arguments", 2)]) (g := gName 2) rfl scmade_from.nd (pi_zipsTL rfl B3.m_zip (pv 1)) (blkOk_by (own := [("arguments", 2)]) (N := Nmade_from) (sc := defScope smade_from) (by decide +kernel)) (fun _ _ _ _ _ => (pg_name (i := 2) scmade_from.nd rfl (Or.inl rfl))) (fun _ _ _ _ _ => pts_nil) (fun _ _ _ _ _ => (pe_dget (hu_of hr) (pv 0) (pv 2) (fun _ _ => rfl)))) pa_nil)))), ?_⟩
    have n1 := T.n1
    have n3 := T.n3
    refine s_retU (xs := iv (makes ds rs m)) (eu_tupleN fun H1 e1 Q1 k1 => ?_) k
    obtain ⟨ps, rfl, e2, at_p⟩ := rows_pairs R
    have pl : ps.length = n := by
      have := congrArg List.length e2
      rw [List.length_map, List.length_map] at this
      omega
    have wide : ∀ c ∈ ps, c.2.length = m := fun c hc => by
      have : c.2 ∈ ps.map (·.2) := List.mem_map_of_mem hc
      rw [e2] at this
      obtain ⟨r, hr', e⟩ := List.mem_map.mp this
      rw [← e, iv_len]
      exact (ok r hr').1
    rw [← given_makes] at k1
    refine ⟨_, rfl, q, ps, m, rfl, SqL.of (e1 _ _ hq), by omega, by omega, fun c hc => ⟨SqT.of (e1 _ _ (at_p c hc)), wide c hc⟩, fun D hD => lc_zipsT (K := K) (ps := ps) (m := m)
      (Cw H1 (fun _ => true) (fun i => V.int ((val ds (rs.map fun r => r.getD i 0) : Nat) : Int)) D) ⟨hD, Ex.new hD, upd_same⟩
      (fun i H2 pc c hc => SqT.of (pc.2.1 _ _ (e1 _ _ (at_p c hc)))) (fun i tu H2 hi htu pc => ⟨rfl, ?_⟩) (fun H2 pc => k1 D H2 pc.1 pc.2.1 pc.2.2)⟩
    obtain ⟨c1, c2, c3⟩ := pc
    have et := Ex.new (o := .tup (ps.map fun p => p.2.getD i .non)) htu
    have row := side_iv (i := i) e2 (fun r hr' => (ok r hr').1) hi
    refine yes_go ⟨_, rfl, _, rfl, p, V.int ((val ds (rs.map fun r => r.getD i 0) : Nat) : Int), rfl, ?_, given i (fun _ => true) (fun i => V.int ((val ds (rs.map fun r => r.getD i 0) : Nat) : Int)), et _ _ c3, ?_, c1, Ex.mut (c2.trans et) c1, ?_⟩
    · have g := DGet.t (H := upd H2 tu (.tup (ps.map fun p => p.2.getD i .non))) (a := p) (b := tu) (k := keyR (rs.map fun r => r.getD i 0)) (et _ _ (c2 _ _ (e1 _ _ hp))) (by rw [upd_same, row, keyR_kV])
      rw [kvs_at n1 n3 (by rw [List.length_map]; exact many) (col_ok ok hi)] at g
      exact g
    · have := given_len i (fun _ => true) (fun i => V.int ((val ds (rs.map fun r => r.getD i 0) : Nat) : Int))
      exact Nat.lt_of_le_of_lt (by omega : _ ≤ 100) (by decide)
    · rw [given_yes rfl]
      exact upd_same
/-! ### newest -/
abbrev snewest : Stmt := top 56
abbrev Nnewest : List Str := ["at", "count", "before", "upto", "found", "place"]
theorem scnewest : FnScope Nnewest ["at", "count"] (defScope snewest) := ⟨rfl, rfl, rfl, by decide +kernel, rfl, by decide +kernel, by decide +kernel⟩
def lotsN (a c j : Nat) : List (List Nat) := List.replicate j (List.range a) ++ [[a]] ++ List.replicate (c - j - 1) (List.range (a + 1))
def newestN (a c : Nat) : List (List Nat) := (List.range c).flatMap fun j => waysA (lotsN a c j)
theorem lotsN_len {a c j : Nat} (h : j < c) : (lotsN a c j).length = c := by
  unfold lotsN
  simp
  omega
theorem lotsN_le {a c j : Nat} : ∀ xs ∈ lotsN a c j, xs.length ≤ a + 1 := by
  intro xs h
  unfold lotsN at h
  rcases List.mem_append.mp h with h | h
  · rcases List.mem_append.mp h with h | h
    · rw [(List.mem_replicate.mp h).2, List.length_range]
      exact Nat.le_succ _
    · rw [List.mem_singleton.mp h]
      exact Nat.succ_le_succ (Nat.zero_le _)
  · rw [(List.mem_replicate.mp h).2, List.length_range]
    exact Nat.le_refl _
theorem few_lots {a c j : Nat} (h : j < c) (c3 : c ≤ 3) (z : (a + 1) ^ c ≤ 30000) : FewWays ((lotsN a c j).map iv) := by
  refine ⟨by rw [List.length_map, lotsN_len h]; omega, fun i hi => ?_⟩
  rw [List.length_map, lotsN_len h] at hi
  rw [← List.map_take, ways_ivA, List.length_map]
  refine Nat.le_trans (waysA_le (b := a + 1) _ fun xs hx => lotsN_le xs (List.take_subset _ _ hx)) ?_
  rw [List.length_take, lotsN_len h, Nat.min_eq_left hi]
  exact Nat.le_trans (Nat.pow_le_pow_right (Nat.succ_pos _) hi) (Nat.le_trans z (by decide))
theorem newest_le {a c k : Nat} (kc : k ≤ c) (z : (a + 1) ^ c ≤ 30000) : ((List.range k).flatMap fun j => waysA (lotsN a c j)).length ≤ k * 30000 := by
  induction k with
  | zero => simp
  | succ k ih =>
    rw [List.range_succ, List.flatMap_append, List.length_append]
    have := ih (by omega)
    have h2 : (List.flatMap (fun j => waysA (lotsN a c j)) [k]).length ≤ 30000 := by
      simp only [List.flatMap_cons, List.flatMap_nil, List.append_nil]
      refine Nat.le_trans (waysA_le (b := a + 1) _ lotsN_le) ?_
      rw [lotsN_len (by omega)]
      exact z
    rw [Nat.succ_mul]
    omega
def spNewest : Sp := fun vs H Q _ => ∃ a c : Nat, 1 ≤ c ∧ c ≤ 3 ∧ (a + 1) ^ c ≤ 30000 ∧ vs = [.int (a : Int), .int (c : Int)] ∧ GivesRows (newestN a c) H Q
theorem ok_newest (F : Fun K "newest" "newest" snewest f fd) (B : Blt mg) (B3 : Blt3 mg) (D_all_ways : DefG P w K mg base "all_ways" ["lots"] 1 spWaysL) : FnG P w K mg base 2 f fd ["at", "count"] spNewest := by
  refine fnG F scnewest (fun vs H Q E h => ?_) (fun cdv A fr s H vs Q E hr gd h => ?_)
  · obtain ⟨a, c, _, _, _, rfl, _⟩ := h
    rfl
  · obtain ⟨a, c, c1, c3, z, rfl, k⟩ := h
    refine ⟨_, (pss_cons (ps_par (i := 2) (j := 3) (by rfl) scnewest.nd rfl rfl (by decide) rfl rfl (pa_cons (pe_listRg rfl rfl B3.m_list (prg_1 rfl B.m_range (pv 0))) (pa_cons (pe_listRg rfl rfl B3.m_list (prg_1 rfl B.m_range (pe_op op_add (pv 0) pe_int))) pa_nil)) (by rfl))
  (pss_cons (ps_set (i := 4) scnewest.nd rfl (Or.inl rfl) (pe_lst pa_nil))
  (pss_cons (ps_for PassesOwn.never rfl (pi_range1 rfl B.m_range (pa_cons (pv 1) pa_nil)) (pg_name (i := 5) scnewest.nd rfl (Or.inl rfl)) (pss_one (ps_set (i := 4) scnewest.nd rfl (Or.inl rfl) (pe_op op_cat (pv 4) (pe_def D_all_ways (hr.mono (by decide)) gd rfl (pa_cons (pe_op op_cat (pe_op op_cat (pe_op op_rep (pe_lst (pa_cons (pv 2) pa_nil)) (pv 5)) (pe_lst (pa_cons (pe_lst (pa_cons (pv 0) pa_nil)) pa_nil))) (pe_op op_rep (pe_lst (pa_cons (pv 3) pa_nil)) (pe_op op_sub (pe_op op_sub (pv 1) (pv 5)) pe_int))) pa_nil))))))
  (pss_one (ps_ret (pv 4)))))), ?_⟩
    have a30 : a + 1 ≤ 30000 := Nat.le_trans (Nat.le_self_pow (by omega) _) z
    refine q_par2 (xs := iv (List.range a)) (ys := iv (List.range (a + 1))) (el_defRg (ev_var rfl) (by omega)) (el_defRg (n := a + 1) (ev_is (ev_op (ev_var rfl) ev_c rv_I0) rfl) (by omega)) fun pb pu H1 hb hu e1 h1b h1u => ?_
    refine q_asgL (el_lst ea_nil (by decide)) fun pf H2 hf e2 h2f => ?_
    have h2b := e2 _ _ h1b
    have h2u := e2 _ _ h1u
    have hf0 := fresh_back e1 hf
    refine q_forR1 (ea_cons (ev_var rfl) ea_nil) (by omega) (fun i σ H3 => ∃ (p : Addr) (ys : List V) (v : Option V), σ = [some (.int (a : Int)), some (.int (c : Int)), some (.ref pb), some (.ref pu), some (.ref p), v] ∧
      H p = none ∧ Ex H H3 ∧ Ex H2 H3 ∧ H3 p = some (.lst ys) ∧ Rows H3 ys ((List.range i).flatMap fun j => waysA (lotsN a c j))) (fun H3 e3 => ⟨pf, [], none, rfl, hf0, (e1.trans e2).trans e3, e3, e3 _ _ h2f, .nil⟩) ?_ ?_
    · rintro i σ H3 hi ⟨p, ys, v, rfl, hp0, e3, e23, hp3, R3⟩
      have ic : i < c := by omega
      have lots : EvLots (tOp rCat (tOp rCat (tOp rRep (tLst (tCons (tVar 2) tNil)) (tVar 5)) (tLst (tCons (tLst (tCons (tVar 0) tNil)) tNil))) (tOp rRep (tLst (tCons (tVar 3) tNil)) (tOp (rI0 fun i j => V.int (i - j)) (tOp (rI0 fun i j => V.int (i - j)) (tVar 1) (tVar 5)) (tC (.int 1)))))
          [some (.int (a : Int)), some (.int (c : Int)), some (.ref pb), some (.ref pu), some (.ref p), some (.int (i : Int))] H3 ((lotsN a c i).map iv) := by
        have e : (lotsN a c i).map iv = (List.replicate i (iv (List.range a)) ++ [[V.int (a : Int)]]) ++ List.replicate (c - i - 1) (iv (List.range (a + 1))) := by
          unfold lotsN
          rw [List.map_append, List.map_append, List.map_replicate, List.map_replicate]
          rfl
        rw [e]
        refine elo_cat (elo_cat (elo_rep (ev_var rfl) (e23 _ _ h2b) (ev_var rfl) (by omega)) (elo_one (el_lst (ea_cons (ev_var rfl) ea_nil) (by show 1 ≤ 100000; decide))) (by rw [List.length_replicate]; simp; omega))
          (elo_rep (ev_var rfl) (e23 _ _ h2u) (ev_is (ev_op (ev_op (ev_var rfl) (ev_var rfl) rv_I0) ev_c rv_I0) ?_) (by omega)) (by rw [List.length_append, List.length_replicate, List.length_replicate]; simp; omega)
        show V.int ((c : Int) - (i : Int) - 1) = V.int ((c - i - 1 : Nat) : Int)
        rw [show ((c : Int) - (i : Int) - 1) = ((c - i - 1 : Nat) : Int) by omega]
      have nl := newest_le (a := a) (c := c) (k := i) (by omega) z
      have nl2 := newest_le (a := a) (c := c) (k := i + 1) (by omega) z
      have more : (List.range (i + 1)).flatMap (fun j => waysA (lotsN a c j)) = (List.range i).flatMap (fun j => waysA (lotsN a c j)) ++ waysA (lotsN a c i) := by
        rw [List.range_succ, List.flatMap_append]
        simp
      have er : ∀ te : TE, EvLots te [some (.int (a : Int)), some (.int (c : Int)), some (.ref pb), some (.ref pu), some (.ref p), some (.int (i : Int))] H3 ((lotsN a c i).map iv) → EvRows (tOp rCat (tVar 4) (tDef spWaysL (tCons te tNil))) [some (.int (a : Int)), some (.int (c : Int)), some (.ref pb), some (.ref pu), some (.ref p), some (.int (i : Int))] H3 ((List.range (i + 1)).flatMap fun j => waysA (lotsN a c j)) := by
        intro te lots
        rw [more]
        refine er_catV (ev_var rfl) hp3 R3 (er_defLots lots fun q H4 zs e4 hq S Q q4 => ⟨q, zs, _, rfl, hq, few_lots ic c3 z, S, fun q2 H5 us hq2 e5 hu5 R5 => q4 q2 H5 us hq2 e5 hu5 (Rows.ofV (by rw [ways_ivA] at R5; exact R5))⟩) ?_
        rw [← List.length_append, ← more]
        exact Nat.le_trans nl2 (by omega)
      exact er _ lots H3 (Ex.refl _) _ fun q H4 zs hq e4 hz R4 => ⟨q, zs, _, rfl, fresh_back e3 hq, e3.trans e4, e23.trans e4, hz, R4⟩
    · rintro σ H3 ⟨p, ys, v, rfl, hp0, e3, e23, hp3, R3⟩
      rw [Int.toNat_natCast] at R3
      exact ⟨_, rfl, k p H3 ys hp0 e3 hp3 R3⟩
theorem tablesV_at {L : List Nt} {i : Nat} {z : V} (h : (tablesV L)[i]? = some z) : ∃ x, L[i]? = some x ∧ z = .str (tab x.ds) := by
  unfold tablesV at h
  rw [List.getElem?_map] at h
  obtain ⟨x, hx, rfl⟩ := Option.map_eq_some_iff.mp h
  exact ⟨x, hx, rfl⟩
theorem tablesV_len (L : List Nt) : (tablesV L).length = L.length := List.length_map ..
theorem bl_given {α : Type} (d : α) (L : List α) (g : α → Bool) : (L.map g).map V.bl = given L.length (fun _ => true) (fun i => V.bl (g (L.getD i d))) := by
  rw [given_iv d L fun x => V.bl (g x), List.map_map]
  rfl
instance : Inhabited Nt := ⟨⟨Str.empty, [], 0⟩⟩
theorem ntD_at {L : List Nt} {i : Nat} {x : Nt} (h : L[i]? = some x) : L.getD i default = x := by
  rw [List.getD_eq_getElem?_getD, h]
  rfl
end
end Tv

namespace Tv
open PySem PySem.Spec PyProof.Rows L2 Evl
section
variable {P : Program} {w : World} {K : PySem.W.Frag} {mg : Str → Option Value} {base : Heap} {f aL aW C : Addr} {fd : FuncData}
/-! ### the words that a box keeps -/
abbrev skept : Stmt := top 54
abbrev Nkept : List Str := ["box", "word", "table"]
theorem sckept : FnScope Nkept ["box"] (defScope skept) := ⟨rfl, rfl, rfl, by decide +kernel, rfl, by decide +kernel, by decide +kernel⟩
def keptL (L : List Nt) : List Str := words.filter fun y => L.all fun x => keepsB x.ds x.n y
def spKept (C : Addr) : Sp := fun vs H Q _ => ∃ (a : Addr) (L : List Nt), vs = [.ref a] ∧ BoxAt C H a L ∧ GivesT ((keptL L).map V.str) H Q
theorem ok_kept (F : Fun K "kept" "kept" skept f fd) (B : Blt mg) (BC : BoxC K mg C) (WW : Wds K mg aW) (D_must_be_box : DefG P w K mg base "must_be_box" ["x"] 1 (spMustBox C)) (D_keeps : DefG P w K mg base "keeps" ["table", "word"] 6 spKeeps)
    (D_tables : PropG P w K mg base C "tables" 1 (spGet C tablesV)) : FnG P w K mg base 7 f fd ["box"] (spKept C) := by
  refine fnG F sckept (fun vs H Q E h => ?_) (fun cdv A fr s H vs Q E hr gd h => ?_)
  · obtain ⟨a, L, rfl, _⟩ := h
    rfl
  · obtain ⟨a, L, rfl, BA, k⟩ := h
    refine ⟨_, (pss_cons (ps_expr (pe_def D_must_be_box (hr.mono (by decide)) gd rfl (pa_cons (pv 0) pa_nil)))
  (pss_one (ps_ret (pe_callTy call_tuple_of (by rfl) B.m_tuple (by decide +kernel) (pa_cons (pe_lc (own := [("word", 1)]) (g := gName 1) rfl sckept.nd (pi_tup (pe_glob (v := .ref aW) rfl WW.mW rfl)) (blkOk_by (own := [("word", 1)]) (N := Nkept) (sc := defScope skept) (by decide +kernel)) (fun _ _ _ _ _ => (pg_name (i := 1) sckept.nd rfl (Or.inr rfl))) (fun _ _ _ _ _ => (pts_one (pt_val (pe_callB (show CallR _ (.builtin "all") (rAll K) from cr_all rfl) (by rfl) B.m_all (by decide +kernel) (pa_cons (pe_lc (own := [("table", 2)]) (g := gName 2) rfl sckept.nd (show PI _ _ _ (iTup K _) from (pi_tup (pe_propX D_tables BC.cl (hr.mono (by decide)) gd (pv 0)))) (blkOk_by (own := [("table", 2)]) (by rfl)) (fun _ _ _ _ _ => (pg_name (i := 2) sckept.nd rfl (Or.inl rfl))) (fun _ _ _ _ _ => pts_nil) (fun _ _ _ _ _ => (pe_def D_keeps (hr.mono (by decide)) gd rfl (pa_cons (pv 2) (pa_cons (pv 1) pa_nil))))) pa_nil))))) (fun _ _ _ _ _ => (pv 1))) pa_nil))))), ?_⟩
    refine q_drop (ev_def (ea_cons (ev_var rfl) ea_nil) fun H1 e1 Q q => ⟨a, L, rfl, BA.mono e1, q⟩) fun H0 e0 => ?_
    have BA0 := BA.mono e0
    have wrd : ∀ {σ : L2.St} {H : Hp}, EvS K (tC (.ref aW)) σ H (words.map V.str) := fun {σ H} H3 e3 Q q => q aW H3 (Ex.refl _) (WW.sL H3)
    have l18 : (words.map V.str).length = 18 := rfl
    have few := BA.oks.few
    refine s_retU (xs := given (words.map V.str).length (fun i => (L.all fun x => keepsB x.ds x.n (wordI i))) (fun i => .str (wordI i))) (eu_tupleN (el_lcSq (fun i => (L.all fun x => keepsB x.ds x.n (wordI i))) (fun i => .str (wordI i)) wrd (by rw [l18]; decide) (fun y => rfl) (fun i z H3 e3 hz => ?_) (fun i z H3 e3 hz _ => ?_)))
      fun p H1 hp e1 h1 => k p H1 (fresh_back e0 hp) (e0.trans e1) (by rw [l18, given_words (fun y => L.all fun x => keepsB x.ds x.n y)] at h1; exact h1)
    · obtain ⟨_, rfl, mem⟩ := word_at hz
      have BA3 := BA0.mono e3
      refine et_B (ev_is (ev_allN (bs := L.map fun x => keepsB x.ds x.n (wordI i)) ?_) (by rw [List.all_map]; rfl))
      rw [bl_given default L (fun x => keepsB x.ds x.n (wordI i)), ← tablesV_len L]
      refine el_lcU (xs := tablesV L) (fun _ => true) _ (eu_get (ev_var rfl) BA3) (by rw [tablesV_len]; omega) (fun y => rfl) (fun j z H4 e4 hz => et_yes) (fun j z H4 e4 hz _ => ?_)
      obtain ⟨x, hx, rfl⟩ := tablesV_at hz
      rw [ntD_at hx]
      exact ev_def (ea_cons (ev_var rfl) (ea_cons (ev_var rfl) ea_nil)) fun H5 _ Q q => ⟨x.ds, x.n, wordI i, (BA.oks.ok x (List.mem_of_getElem? hx)).tab, mem, rfl, q⟩
    · obtain ⟨_, rfl, mem⟩ := word_at hz
      exact ev_var rfl
end
end Tv

namespace Tv
open PySem PySem.Spec PyProof.Rows L2 Evl
section
variable {P : Program} {w : World} {K : PySem.W.Frag} {mg : Str → Option Value} {base : Heap} {f aL aW C : Addr} {fd : FuncData}
theorem newestN_in {a c : Nat} {ix : List Nat} (h : ix ∈ newestN a c) : ix.length = c ∧ ∀ k ∈ ix, k < a + 1 := by
  unfold newestN at h
  obtain ⟨j, hj, h⟩ := List.mem_flatMap.mp h
  obtain ⟨l1, l2⟩ := waysA_in h
  rw [lotsN_len (List.mem_range.mp hj)] at l1
  refine ⟨l1, fun k hk => ?_⟩
  obtain ⟨xs, hx, hkx⟩ := l2 k hk
  unfold lotsN at hx
  rcases List.mem_append.mp hx with hx | hx
  · rcases List.mem_append.mp hx with hx | hx
    · rw [(List.mem_replicate.mp hx).2] at hkx
      have := List.mem_range.mp hkx
      omega
    · rw [List.mem_singleton.mp hx] at hkx
      rw [List.mem_singleton.mp hkx]
      omega
  · rw [(List.mem_replicate.mp hx).2] at hkx
    exact List.mem_range.mp hkx
def stepPart (m a : Nat) (g : Grw) (x : Nt) : Grw := (newestN a x.n).foldl (stepIx m x) g
def stepAll (m : Nat) (L : List Nt) (a : Nat) (g : Grw) : Grw := L.foldl (stepPart m a) g
def grownG (m most : Nat) (L : List Nt) (F0 : List (List Nat)) : Grw := growFrom (stepAll m L) most (most + 1) 0 ⟨F0, []⟩
/-- what stays so, step by step -/
structure Goes (m : Nat) (n0 : Nat) (g : Grw) : Prop where
  ok : Gok m g.F
  more : n0 ≤ g.F.length
  told : g.T.length ≤ g.F.length
theorem Goes.step {m n0 : Nat} {g : Grw} (G : Goes m n0 g) {x : Nt} (xo : x.Ok) {ix : List Nat} (l : ix.length = x.n) (lt : ∀ k ∈ ix, k < g.F.length) : Goes m n0 (stepIx m x g ix) := by
  unfold stepIx
  by_cases h : rowOf m x g.F ix ∈ g.F
  · rw [addRow_no h]
    exact G
  · rw [addRow_yes h]
    have ro : (rowOf m x g.F ix).length = m ∧ ∀ a ∈ rowOf m x g.F ix, a < 3 := makes_ok xo.tab (by rw [List.length_map, l]) (fun r hr => by
      obtain ⟨k, hk, rfl⟩ := List.mem_map.mp hr
      refine G.ok.ok _ ?_
      rw [List.getD_eq_getElem?_getD, List.getElem?_eq_getElem (lt k hk)]
      exact List.getElem_mem _)
    refine ⟨⟨?_, fun r hr => ?_⟩, by show n0 ≤ (g.F ++ [_]).length; rw [List.length_append]; have := G.more; omega, by show (g.T ++ [_]).length ≤ (g.F ++ [_]).length; rw [List.length_append, List.length_append]; have := G.told; simp; omega⟩
    · refine List.nodup_append.mpr ⟨G.ok.nd, by simp, fun a ha b hb => ?_⟩
      rw [List.mem_singleton.mp hb]
      exact fun e => h (e ▸ ha)
    · rcases List.mem_append.mp hr with hr | hr
      · exact G.ok.ok r hr
      · rw [List.mem_singleton.mp hr]
        exact ro
abbrev sgrown : Stmt := top 57
abbrev Ngrown : List Str := ["box", "starts", "most", "found", "known", "told", "parts", "at", "name", "count", "values", "indexes", "row", "table", "k"]
theorem scgrown : FnScope Ngrown ["box", "starts", "most"] (defScope sgrown) := ⟨rfl, rfl, rfl, by decide +kernel, rfl, by decide +kernel, by decide +kernel⟩
def spGrown (C : Addr) : Sp := fun vs H Q _ => ∃ (b ps : Addr) (L : List Nt) (m most : Nat) (ys0 : List V) (F0 : List (List Nat)), vs = [.ref b, .ref ps, .int (most : Int)] ∧ BoxAt C H b L ∧ H ps = some (.lst ys0) ∧ Rows H ys0 F0 ∧ Gok m F0 ∧ m ≤ 9 ∧ most ≤ 60 ∧
  (∀ x ∈ L, most ^ x.n ≤ 30000) ∧ ∀ p pf pt H' ys zs, H p = none → H pf = none → H pt = none → Ex H H' → H' p = some (.tup [.ref pf, .ref pt]) → H' pf = some (.lst ys) → Rows H' ys (grownG m most L F0).F → H' pt = some (.lst zs) → Tolds H' zs (grownG m most L F0).T → Q (.ref p) H'
theorem ok_grown (F : Fun K "grown" "grown" sgrown f fd) (B : Blt mg) (B3 : Blt3 mg) (BC : BoxC K mg C) (D_names : PropG P w K mg base C "names" 2 (spGet C namesV)) (D_tables : PropG P w K mg base C "tables" 1 (spGet C tablesV))
    (D_places : DefG P w K mg base "places" ["table"] 3 spPlaces) (D_values_of : DefG P w K mg base "values_of" ["table"] 4 spValues) (D_newest : DefG P w K mg base "newest" ["at", "count"] 2 spNewest)
    (D_made_from : DefG P w K mg base "made_from" ["values", "rows"] 1 spMadeL) : FnG P w K mg base 5 f fd ["box", "starts", "most"] (spGrown C) := by
  refine fnG F scgrown (fun vs H Q E h => ?_) (fun cdv A fr s H vs Q E hr gd h => ?_)
  · obtain ⟨b, ps, L, m, most, ys0, F0, rfl, _⟩ := h
    rfl
  · obtain ⟨b, ps, L, m, most, ys0, F0, rfl, BA, hps, R0, G0, m9, most60, pow, k⟩ := h
    refine ⟨_, (pss_cons (ps_set (i := 3) scgrown.nd rfl (Or.inr rfl) (pe_callTy call_list_of (by rfl) B3.m_list (by decide +kernel) (pa_cons (pv 1) pa_nil)))
  (pss_cons (ps_setDcT (i := 4) (own := [("row", 12)]) (g := gName 12) rfl scgrown.nd rfl rfl (sw_trueD rfl rfl rfl (by decide +kernel)) (hu_of hr) (pi_list (pv 3)) (blkOk_by (own := [("row", 12)]) (N := Ngrown) (sc := defScope sgrown) (by decide +kernel)) (fun _ _ _ _ _ => (pg_name (i := 12) scgrown.nd rfl (Or.inl rfl))) (fun _ _ _ _ _ => (pv 12)) (fun _ _ _ _ _ => pe_bl))
  (pss_cons (ps_set (i := 5) scgrown.nd rfl (Or.inl rfl) (pe_lst pa_nil))
  (pss_cons (ps_setLc (i := 6) (own := [("name", 8), ("table", 13)]) (g := gTup K 2 (gCons (gName 8) (gCons (gName 13) gNil))) rfl scgrown.nd rfl rfl (sw_true rfl rfl rfl (by decide +kernel)) (pi_zipTT rfl B3.m_zip (pa_cons (pe_propX D_names BC.cl (hr.mono (by decide)) gd (pv 0)) (pa_cons (pe_propX D_tables BC.cl (hr.mono (by decide)) gd (pv 0)) pa_nil))) (blkOk_by (own := [("name", 8), ("table", 13)]) (N := Ngrown) (sc := defScope sgrown) (by decide +kernel)) (fun _ _ _ _ _ => (pg_tup rfl (pgs_cons (pg_name (i := 8) scgrown.nd rfl (Or.inl rfl)) (pgs_cons (pg_name (i := 13) scgrown.nd rfl (Or.inl rfl)) pgs_nil)))) (fun _ _ _ _ _ => pts_nil) (fun _ _ _ _ _ => (pe_tup (pa_cons (pv 8) (pa_cons (pe_def D_places (hr.mono (by decide)) gd rfl (pa_cons (pv 13) pa_nil)) (pa_cons (pe_def D_values_of (hr.mono (by decide)) gd rfl (pa_cons (pv 13) pa_nil)) pa_nil))))))
  (pss_cons (ps_set (i := 7) scgrown.nd rfl (Or.inl rfl) pe_int)
  (pss_cons (ps_while PassesOwn.never (PW.pt (pw_and (pt_cmpR op_lt (pv 7) (pe_callB call_len (by rfl) B.m_len (by decide +kernel) (pa_cons (pv 3) pa_nil)) (nomark _)) (pw_and1 (pt_cmpR op_le (pe_callB call_len (by rfl) B.m_len (by decide +kernel) (pa_cons (pv 3) pa_nil)) (pv 2) (nomark _))))) (pss_cons (ps_for PassesOwn.never rfl (pi_list (pv 6)) (pg_tup rfl (pgs_cons (pg_name (i := 8) scgrown.nd rfl (Or.inl rfl)) (pgs_cons (pg_name (i := 9) scgrown.nd rfl (Or.inl rfl)) (pgs_cons (pg_name (i := 10) scgrown.nd rfl (Or.inl rfl)) pgs_nil)))) (pss_one (ps_for PassesOwn.never rfl (pi_list (pe_def D_newest (hr.mono (by decide)) gd rfl (pa_cons (pv 7) (pa_cons (pv 9) pa_nil)))) (pg_name (i := 11) scgrown.nd rfl (Or.inl rfl)) (pss_cons (ps_set (i := 12) scgrown.nd rfl (Or.inl rfl) (pe_def D_made_from (hr.mono (by decide)) gd rfl (pa_cons (pv 10) (pa_cons (pe_lc (own := [("k", 14)]) (g := gName 14) rfl scgrown.nd (pi_tup (pv 11)) (blkOk_by (own := [("k", 14)]) (N := Ngrown) (sc := defScope sgrown) (by decide +kernel)) (fun _ _ _ _ _ => (pg_name (i := 14) scgrown.nd rfl (Or.inl rfl))) (fun _ _ _ _ _ => pts_nil) (fun _ _ _ _ _ => (pe_ix (show IxR _ (rIxL K) from ix_list) (pv 3) (pv 14) (fun _ _ => rfl)))) pa_nil))))
  (pss_one (ps_if (pt_cmp (pc_dnotin (hu_of hr) (pv 12) (pv 4))) (pss_cons (ps_dput (hu_of hr) (pv 4) (pv 12) pe_bl rfl)
  (pss_cons (ps_expr (pe_bm PySem.F.plainAttrs_list PySem.F.slot_list_append PySem.F.type_list_append mt_append (pv 3) (pa_cons (pv 12) pa_nil)))
  (pss_one (ps_expr (pe_bm PySem.F.plainAttrs_list PySem.F.slot_list_append PySem.F.type_list_append mt_append (pv 5) (pa_cons (pe_tup (pa_cons (pv 8) (pa_cons (pv 11) pa_nil))) pa_nil)))))) pss_nil))))))
  (pss_one (ps_aug (i := 7) scgrown.nd rfl (Or.inl rfl) pe_int ip_add))))
  (pss_one (ps_ret (pe_tup (pa_cons (pv 3) (pa_cons (pv 5) pa_nil))))))))))), ?_⟩
    have m3 : (3 : Nat) ^ m ≤ 19683 := Nat.le_trans (Nat.pow_le_pow_right (by decide) m9) (by decide)
    have small : ∀ {F : List (List Nat)}, Gok m F → F.length ≤ 19683 := fun {F} G => Nat.le_trans G.small m3
    -- found
    refine q_asgL (xs := ys0) (el_list (ev_var rfl) (SqL.of hps)) fun pf H1 hf e1 h1 => ?_
    -- known
    refine ⟨_, rfl, pf, rfl, ⟨ys0, SqL.of h1⟩, fun pk hk => dc_list (K := K) (a := pf) (xs := ys0) (fun i H3 => Ex H1 H3 ∧ H3 pk = some (.dT (knownK (F0.take i)))) ⟨Ex.new hk, upd_same⟩ (fun i H3 pc => SqL.of (pc.1 _ _ h1)) ?_ ?_⟩
    · rintro i x H3 hi ⟨e3, hk3⟩
      obtain ⟨r, at_r, a, rfl, ha⟩ := R0.get hi
      refine ⟨rfl, _, rfl, knownK (F0.take i), keyR r, a, rfl, by rw [keyR_kV]; exact e3 _ _ (e1 _ _ ha), hk3, ?_, Ex.mut e3 hk, ?_⟩
      · rw [knownK_len, List.length_take]
        have := small G0
        exact Nat.lt_of_le_of_lt (by omega : _ ≤ 19683) (by decide)
      · have il := (List.getElem?_eq_some_iff.mp at_r).1
        have new_ : ¬ r ∈ F0.take i := fun mem => by
          obtain ⟨j, hj⟩ := List.mem_iff_getElem?.mp mem
          rw [List.getElem?_take] at hj
          split at hj
          · rename_i lt
            obtain ⟨la, ea⟩ := List.getElem?_eq_some_iff.mp hj
            obtain ⟨lb, eb⟩ := List.getElem?_eq_some_iff.mp at_r
            exact (List.pairwise_iff_getElem.mp G0.nd) j i la lb lt (by rw [ea, eb])
          · cases hj
        rw [upd_same, knownK_put new_, List.take_succ, at_r]
        rfl
    rintro H3 ⟨e3, hk3⟩
    rw [R0.len, List.take_length] at hk3
    have hk0 := fresh_back e1 hk
    have e03 := e1.trans e3
    -- told
    refine q_asgL (el_lst ea_nil (by decide)) fun pt H4 ht e4 h4 => ?_
    have ht0 := fresh_back e03 ht
    have e04 := e03.trans e4
    have h4f := e4 _ _ (e3 _ _ h1)
    have h4k := e4 _ _ hk3
    have ft : pf ≠ pt := ne_of_none (e3 _ _ h1) ht
    -- parts
    have parts : ∀ {te : TE} {σ : L2.St}, True := True.intro
    refine (eu_get (te := tVar 0) (σ := [some (.ref b), some (.ref ps), some (.int (most : Int)), some (.ref pf), some (.ref pk), some (.ref pt), none, none, none, none, none, none, none, none, none]) (ev_var rfl) (BA.mono e04)) H4 (Ex.refl _) _ fun pn H5 hn e5 h5 => ?_
    refine (eu_get (te := tVar 0) (σ := [some (.ref b), some (.ref ps), some (.int (most : Int)), some (.ref pf), some (.ref pk), some (.ref pt), none, none, none, none, none, none, none, none, none]) (ev_var rfl) (BA.mono (e04.trans e5))) H5 (Ex.refl _) _ fun pb H6 hb e6 h6 => ?_
    have e46 := e5.trans e6
    have h6n := e6 _ _ h5
    have nl : (namesV L).length = L.length := List.length_map ..
    refine ⟨pn, pb, namesV L, tablesV L, rfl, SqT.of h6n, SqT.of h6, fun pp hp => lc_zipTT (K := K) (by rw [nl, tablesV_len]) (fun i H7 => Ex H6 H7 ∧ ∃ us, H7 pp = some (.lst us) ∧ Parts pk H7 us (L.take i)) ⟨Ex.new hp, [], upd_same, .nil⟩
      (fun i H7 pc => ⟨SqT.of (pc.1 _ _ h6n), SqT.of (pc.1 _ _ h6)⟩) ?_ ?_⟩
    · rintro i x y T H7 hx hy ⟨e7, us, h7, U⟩ hT
      obtain ⟨z, hz, rfl⟩ := tablesV_at hy
      have ex : x = .str z.nm := by
        unfold namesV at hx
        rw [List.getElem?_map, hz] at hx
        exact (Option.some.inj hx).symm
      subst ex
      have zo := BA.oks.ok z (List.mem_of_getElem? hz)
      have eT := Ex.new (o := .tup [V.str z.nm, V.str (tab z.ds)]) hT
      refine ⟨T, _, rfl, SqT.of upd_same, rfl, _, _, rfl, ⟨_, _, rfl, rfl, rfl, yes_go ?_⟩⟩
      refine ⟨_, rfl, _, rfl, z.ds, z.n, zo.tab, rfl, fun H8 e8 => ⟨_, rfl, z.ds, z.n, zo.tab, rfl, fun d H9 hd e9 h9 => ⟨by show 3 ≤ sizeLine; decide, fun q hq => ?_⟩⟩⟩
      have e79 := (eT.trans e8).trans e9
      have e7q := e79.trans (Ex.new (o := .tup [V.str z.nm, .int (z.n : Int), .ref d]) hq)
      have hk9 : H9 pk ≠ none := fun z => by
        have := e79 _ _ (e7 _ _ (e46 _ _ h4k))
        rw [z] at this
        cases this
      refine ⟨us, e7q _ _ h7, ?_, Ex.mut (e7.trans e7q) hp, us ++ [.ref q], upd_same, ?_⟩
      · rw [Paired.length U, List.length_take]
        have := BA.oks.few
        exact Nat.lt_of_le_of_lt (by omega : _ ≤ 6) (by decide)
      · rw [List.take_succ, hz]
        have nq : q ≠ pp := fun e => by
          rw [e] at hq
          have := e79 _ _ h7
          rw [hq] at this
          cases this
        have nd : d ≠ pp := fun e => by
          rw [e, e9 _ _ (e8 _ _ (eT _ _ h7))] at h9
          cases h9
        refine paired_app (Parts.butL (l := us) upd_but (e7q _ _ h7) (Parts.mono e7q U)) (.cons ⟨q, d, rfl, by rw [upd_ne nq, upd_same], by rw [upd_ne nd]; exact Ex.new hq _ _ h9, fun e => ?_⟩ .nil)
        rw [e] at hd
        have h8k := e8 _ _ (eT _ _ (e7 _ _ (e46 _ _ h4k)))
        rw [hd] at h8k
        cases h8k
    rintro H7 ⟨e7, us, h7, U⟩
    rw [nl, List.take_length] at U
    have hp0 := fresh_back (e04.trans e46) hp
    have W : Four H pf pk pt pp := ⟨hf, hk0, ht0, hp0, ft, ne_of_none (e46 _ _ h4f) hp, ne_of_none (e46 _ _ h4) hp⟩
    have e47 := e46.trans e7
    have st0 : GSt H H7 pf pk pt pp us L F0 F0 [] := ⟨e04.trans e47, ⟨ys0, e47 _ _ h4f, R0.mono (e04.trans e47)⟩, e47 _ _ h4k, ⟨[], e47 _ _ h4, .nil⟩, h7, U⟩
    -- at
    refine q_asg (v := .int 0) ev_c fun H8 e8 => ?_
    have st8 := st0.mono e8
    -- while
    refine q_while (fun n σ H9 => ∃ (a : Nat) (g : Grw) (v8 v9 v10 v11 v12 : Option V), n = most + 1 - a ∧ σ = [some (.ref b), some (.ref ps), some (.int (most : Int)), some (.ref pf), some (.ref pk), some (.ref pt), some (.ref pp), some (.int (a : Int)), v8, v9, v10, v11, v12, none, none] ∧
      GSt H H9 pf pk pt pp us L g.F g.F g.T ∧ Goes m 0 g ∧ growFrom (stepAll m L) most (most + 1 - a) a g = grownG m most L F0) (most + 1) ⟨0, ⟨F0, []⟩, none, none, none, none, none, rfl, rfl, st8, ⟨G0, Nat.zero_le _, Nat.zero_le _⟩, rfl⟩ ?_
    rintro n σ H9 ⟨a, g, v8, v9, v10, v11, v12, rfl, rfl, S, G, fin⟩
    obtain ⟨ys, hy, Ry⟩ := S.found
    have yl := Ry.len
    refine ⟨decide ((a : Int) < ((ys.length : Nat) : Int)) && decide (((ys.length : Nat) : Int) ≤ (most : Int)), et_and (et_test (ev_op (ev_var rfl) (ev_lenLs (ev_var rfl) (SqL.of hy)) rv_I0)) (fun _ => et_test (ev_op (ev_lenLs (ev_var rfl) (SqL.of hy)) (ev_var rfl) rv_I0)), fun yes H10 e10 => ?_, fun no H10 e10 => ?_⟩
    · obtain ⟨c1, c2⟩ := Bool.and_eq_true_iff.mp yes
      have c1' := of_decide_eq_true c1
      have c2' := of_decide_eq_true c2
      have lt : a < g.F.length := by omega
      have le : g.F.length ≤ most := by omega
      rw [growFrom_go ⟨lt, le⟩] at fin
      refine ⟨_, fun σ2 H11 h => h, ?_⟩
      refine ⟨_, rfl, pp, rfl, ⟨us, SqL.of (e10 _ _ S.parts.1)⟩, for_list (K := K) (a := pp) (xs := us) (fun i σ H11 => ∃ (g' : Grw) (v8 v9 v10 v11 v12 : Option V), σ = [some (.ref b), some (.ref ps), some (.int (most : Int)), some (.ref pf), some (.ref pk), some (.ref pt), some (.ref pp), some (.int (a : Int)), v8, v9, v10, v11, v12, none, none] ∧
        GSt H H11 pf pk pt pp us L g'.F g'.F g'.T ∧ Goes m (a + 1) g' ∧ g' = (L.take i).foldl (stepPart m a) g) ⟨g, v8, v9, v10, v11, v12, rfl, S.mono e10, ⟨G.ok, lt, G.told⟩, rfl⟩ (fun i σ H11 _ ⟨_, _, _, _, _, _, _, S, _⟩ => SqL.of S.parts.1) ?_ ?_⟩
      · rintro i z σ H11 hz ⟨g', v8, v9, v10, v11, v12, rfl, S1, G1, eg⟩
        obtain ⟨x, hx, qa, d, rfl, hqa, hd, ndk⟩ := paired_get S1.parts.2 hz
        have xo := BA.oks.ok x (List.mem_of_getElem? hx)
        refine ⟨qa, _, rfl, SqT.of hqa, rfl, _, _, rfl, ⟨_, _, rfl, ⟨_, _, rfl, rfl, ?_⟩⟩⟩
        have n1 := xo.tab.n1
        have n3 := xo.tab.n3
        have pw : (a + 1) ^ x.n ≤ 30000 := Nat.le_trans (Nat.pow_le_pow_left (by omega) _) (pow x (List.mem_of_getElem? hx))
        refine ⟨_, rfl, _, rfl, a, x.n, n1, n3, pw, rfl, fun pn2 H12 zs hpn e12 hzs Rz => ⟨pn2, rfl, ⟨zs, SqL.of hzs⟩, for_list (K := K) (a := pn2) (xs := zs)
          (fun j σ H13 => ∃ (g2 : Grw) (v11 v12 : Option V), σ = [some (.ref b), some (.ref ps), some (.int (most : Int)), some (.ref pf), some (.ref pk), some (.ref pt), some (.ref pp), some (.int (a : Int)), some (.str x.nm), some (.int (x.n : Int)), some (.ref d), v11, v12, none, none] ∧
            GSt H H13 pf pk pt pp us L g2.F g2.F g2.T ∧ Goes m (a + 1) g2 ∧ g2 = ((newestN a x.n).take j).foldl (stepIx m x) g' ∧ H13 pn2 = some (.lst zs) ∧ Rows H13 zs (newestN a x.n) ∧ H13 d = some (.dT (kvs x.ds x.n)))
          ⟨g', v11, v12, rfl, S1.mono e12, G1, rfl, hzs, Rz, e12 _ _ hd⟩ (fun j σ H13 _ ⟨_, _, _, _, _, _, _, h, _⟩ => SqL.of h) ?_ ?_⟩⟩
        · have S12 := S1.mono e12
          obtain ⟨ysA, hyA, _⟩ := S1.found
          obtain ⟨zsA, hzA, _⟩ := S1.told
          have nf : pn2 ≠ pf := fun e => by rw [e, hyA] at hpn; cases hpn
          have nt : pn2 ≠ pt := fun e => by rw [e, hzA] at hpn; cases hpn
          have nk : pn2 ≠ pk := fun e => by rw [e, S1.known] at hpn; cases hpn
          rintro j z σ H13 hj ⟨g2, v11, v12, rfl, S2, G2, eg2, hpn3, Rz3, hd3⟩
          obtain ⟨ix, at_ix, q, rfl, hq⟩ := Rz3.get hj
          obtain ⟨ixl, ixlt⟩ := newestN_in (List.mem_of_getElem? at_ix)
          obtain ⟨ys2, hy2, Ry2⟩ := S2.found
          have ixlt2 : ∀ k ∈ ix, k < g2.F.length := fun k hk => Nat.lt_of_lt_of_le (ixlt k hk) G2.more
          -- the rows with these numbers
          have inner : EvL (tLc (iTup K (tVar 11)) (gName 14) tYes (tOp (rIxL K) (tVar 3) (tVar 14)) [14]) [some (.ref b), some (.ref ps), some (.int (most : Int)), some (.ref pf), some (.ref pk), some (.ref pt), some (.ref pp), some (.int (a : Int)), some (.str x.nm), some (.int (x.n : Int)), some (.ref d), some (.ref q), v12, none, none] H13
              (ix.map fun k => ys2.getD k .non) := by
            have e0 := given_iv 0 ix (fun k => ys2.getD k .non)
            rw [← e0, ← iv_len ix]
            refine el_lcT (a := q) (xs := iv ix) (fun _ => true) (fun i => ys2.getD (ix.getD i 0) .non) (ev_var rfl) (SqT.of hq) (by rw [iv_len]; omega) (fun y => rfl) (fun i y H14 e14 hy => et_yes) (fun i y H14 e14 hy _ => ?_)
            obtain ⟨k, hk, rfl⟩ := iv_at hy
            have eg : ix.getD i 0 = k := by rw [List.getD_eq_getElem?_getD, hk]; rfl
            rw [eg]
            have kl : k < ys2.length := by rw [Ry2.len]; exact ixlt2 k (List.mem_of_getElem? hk)
            refine ev_op (ev_var rfl) (ev_var rfl) (rv_ixL (SqL.of (e14 _ _ hy2)) (atI_nat (j := k) ?_))
            rw [List.getD_eq_getElem?_getD, List.getElem?_eq_getElem kl]
            rfl
          have Rp := rows_pick Ry2 ixlt2
          have rok : ∀ r ∈ ix.map (fun k => g2.F.getD k []), r.length = m ∧ ∀ c ∈ r, c < 3 := fun r hr => by
            obtain ⟨k, hk, rfl⟩ := List.mem_map.mp hr
            refine G2.ok.ok _ ?_
            rw [List.getD_eq_getElem?_getD, List.getElem?_eq_getElem (ixlt2 k hk)]
            exact List.getElem_mem _
          have made_ : EvU (tDef spMadeL (tCons (tVar 10) (tCons (tLc (iTup K (tVar 11)) (gName 14) tYes (tOp (rIxL K) (tVar 3) (tVar 14)) [14]) tNil))) [some (.ref b), some (.ref ps), some (.int (most : Int)), some (.ref pf), some (.ref pk), some (.ref pt), some (.ref pp), some (.int (a : Int)), some (.str x.nm), some (.int (x.n : Int)), some (.ref d), some (.ref q), v12, none, none] H13
              (iv (rowOf m x g2.F ix)) := fun H14 e14 Q q14 => ⟨_, rfl, inner H14 e14 _ fun pl H15 hpl e15 h15 => ⟨x.ds, x.n, d, pl, _, _, m, xo.tab, rfl, e15 _ _ (e14 _ _ hd3), h15, Rp.mono (e14.trans e15), by rw [List.length_map]; exact ixl, rok, by omega, fun y H16 hy e16 h16 =>
                q14 y H16 (fresh_back e15 hy) (e15.trans e16) h16⟩⟩
          refine q_asgU made_ fun y H14 hy14 e14 h14 => ?_
          have S3 := S2.mono e14
          have stepT : ((newestN a x.n).take (j + 1)).foldl (stepIx m x) g' = stepIx m x g2 ix := by
            rw [List.take_succ, at_ix, List.foldl_append, ← eg2]
            rfl
          have Gs := G2.step xo ixl ixlt2
          refine s_when (b := !decide (rowOf m x g2.F ix ∈ g2.F)) (et_B (fun H15 e15 Q q15 => ⟨_, rfl, _, rfl, pk, _, rfl, DGet.t (k := keyR (rowOf m x g2.F ix)) (e15 _ _ S3.known) (by rw [keyR_kV]; exact e15 _ _ h14), ?_⟩)) (fun yes H15 e15 => ?_) (fun no H15 e15 => ?_)
          · rw [knownK_val]
            by_cases c : rowOf m x g2.F ix ∈ g2.F
            · rw [if_pos c]
              rw [decide_eq_true c] at q15
              exact q15 _ (Ex.refl _)
            · rw [if_neg c]
              rw [decide_eq_false c] at q15
              exact q15 _ (Ex.refl _)
          · have new_ : ¬ rowOf m x g2.F ix ∈ g2.F := fun c => by rw [decide_eq_true c] at yes; cases yes
            have S4 := S3.mono e15
            have h15 := e15 _ _ h14
            have es : stepIx m x g2 ix = ⟨g2.F ++ [rowOf m x g2.F ix], g2.T ++ [(x.nm, ix)]⟩ := addRow_yes new_
            have gl := small G2.ok
            obtain ⟨zs9, hz9, _⟩ := S2.told
            have np : ∀ {b : Addr} {l : List V}, H13 b = some (.tup l) → b ≠ pk ∧ b ≠ pf ∧ b ≠ pt := fun {b l} h => ⟨fun e => (by rw [e, S2.known] at h; cases h), fun e => (by rw [e, hy2] at h; cases h), fun e => (by rw [e, hz9] at h; cases h)⟩
            have ky : y ≠ pk := fun e => by rw [e, S4.known] at h15; cases h15
            have fy : y ≠ pf := fun e => by rw [e, (e14.trans e15) _ _ hy2] at h15; cases h15
            refine ⟨_, rfl, _, rfl, pk, _, rfl, DPut.t (k := keyR (rowOf m x g2.F ix)) S4.known (by rw [keyR_kV]; exact h15) (by rw [knownK_len]; exact Nat.lt_of_le_of_lt gl (by decide)), ?_⟩
            have S5 := S4.putKnown W new_
            obtain ⟨ys5, hy5, Ry5⟩ := S5.found
            refine q_app (l := pf) (v := .ref y) hy5 (ev_var rfl) (ev_var rfl) (by rw [Ry5.len]; omega) fun H16 e16 => ?_
            have h16 := e16 _ _ (show upd H15 pk _ y = some (.tup _) from by rw [upd_ne ky]; exact h15)
            have S6 := (S5.mono e16).putFound W (e16 _ _ hy5) (Ry5.mono e16) ⟨y, rfl, h16⟩
            obtain ⟨zs6, hz6, Sz6⟩ := S6.told
            have keep6 : ∀ b o, H13 b = some o → b ≠ pk → b ≠ pf → (upd H16 pf (.lst (ys5 ++ [.ref y]))) b = some o := fun b o h n1 n2 => by
              rw [upd_ne n2]
              exact e16 _ _ (by rw [upd_ne n1]; exact e15 _ _ (e14 _ _ h))
            obtain ⟨q1, q2, q3⟩ := np hq
            refine s_appU (l := pt) hz6 (ev_var rfl) (eu_tup (vs := [.str x.nm, .ref q]) (ea_cons (ev_var rfl) (ea_cons (ev_var rfl) ea_nil)) (by show 2 ≤ 100000; decide)) (by rw [Paired.length Sz6]; have := G2.told; omega) fun pa H17 hpa e17 h17 => ?_
            have S7 := (S6.mono e17).putTold W (t := (x.nm, ix)) (e17 _ _ hz6) (Tolds.mono e17 Sz6) ⟨pa, q, rfl, h17, e17 _ _ (keep6 q _ hq q1 q2)⟩
            have keep7 : ∀ b o, H13 b = some o → b ≠ pk → b ≠ pf → b ≠ pt → (upd H17 pt (.lst (zs6 ++ [.ref pa]))) b = some o := fun b o h n1 n2 n3 => by
              rw [upd_ne n3]
              exact e17 _ _ (keep6 b o h n1 n2)
            have df : d ≠ pf := fun e => by rw [e, hy2] at hd3; cases hd3
            have dt : d ≠ pt := fun e => by
              rw [e, hz9] at hd3
              cases hd3
            rw [es] at stepT Gs
            exact ⟨_, _, _, rfl, S7, Gs, stepT.symm, keep7 _ _ hpn3 nk nf nt, Paired.mapP Rz3 fun _ _ ⟨a, e, h⟩ => ⟨a, e, keep7 _ _ h (np h).1 (np h).2.1 (np h).2.2⟩, keep7 _ _ hd3 ndk df dt⟩
          · have old_ : rowOf m x g2.F ix ∈ g2.F := by
              by_cases c : rowOf m x g2.F ix ∈ g2.F
              · exact c
              · rw [decide_eq_false c] at no
                cases no
            have es : stepIx m x g2 ix = g2 := addRow_no old_
            rw [es] at stepT Gs
            exact ⟨g2, _, _, rfl, S3.mono e15, G2, stepT.symm, (e14.trans e15) _ _ hpn3, Rz3.mono (e14.trans e15), (e14.trans e15) _ _ hd3⟩
        · rintro σ H13 ⟨g2, v11, v12, rfl, S2, G2, eg2, _⟩
          rw [Rz.len, List.take_length] at eg2
          refine ⟨g2, _, _, _, _, _, rfl, S2, G2, ?_⟩
          rw [List.take_succ, hx, List.foldl_append, ← eg]
          exact eg2
      · rintro σ H11 ⟨g', v8, v9, v10, v11, v12, rfl, S1, G1, eg⟩
        have ul : us.length = L.length := Paired.length S.parts.2
        rw [ul, List.take_length] at eg
        refine s_aug rfl ev_c fun H12 e12 => ?_
        refine ⟨most + 1 - (a + 1), by omega, a + 1, g', v8, v9, v10, v11, v12, rfl, rfl, S1.mono e12, ⟨G1.ok, Nat.zero_le _, G1.told⟩, ?_⟩
        rw [eg]
        exact fin
    · have no' : ¬ (a < g.F.length ∧ g.F.length ≤ most) := fun ⟨c1, c2⟩ => by
        rw [decide_eq_true (by omega), decide_eq_true (by omega)] at no
        cases no
      rw [growFrom_end no'] at fin
      subst fin
      have S2 := S.mono e10
      obtain ⟨ys2, hy2, Ry2⟩ := S2.found
      obtain ⟨zs2, hz2, Sz2⟩ := S2.told
      refine s_retU (xs := [.ref pf, .ref pt]) (eu_tup (ea_cons (ev_var rfl) (ea_cons (ev_var rfl) ea_nil)) (by show 2 ≤ 100000; decide)) fun p H11 hp11 e11 h11 => ?_
      exact k p pf pt H11 ys2 zs2 (fresh_back S2.ex hp11) hf ht0 (S2.ex.trans e11) h11 (e11 _ _ hy2) (Ry2.mono e11) (e11 _ _ hz2) (Tolds.mono e11 Sz2)
end
end Tv

namespace Tv
open PySem PySem.Spec PyProof.Rows L2 Evl
section
variable {P : Program} {w : World} {K : PySem.W.Frag} {mg : Str → Option Value} {base : Heap} {f aL aW C : Addr} {fd : FuncData}
/-! ### what grown keeps -/
theorem goes_parts {m a : Nat} {x : Nt} (xo : x.Ok) : ∀ (I : List (List Nat)) {g : Grw}, (∀ ix ∈ I, ix ∈ newestN a x.n) → Goes m (a + 1) g → Goes m (a + 1) (I.foldl (stepIx m x) g)
  | [], _, _, G => G
  | ix :: I, g, h, G => by
    obtain ⟨l, lt⟩ := newestN_in (h ix List.mem_cons_self)
    exact goes_parts xo I (fun y hy => h y (List.mem_cons_of_mem _ hy)) (G.step xo l fun k hk => Nat.lt_of_lt_of_le (lt k hk) G.more)
theorem goes_all {m a : Nat} : ∀ (L : List Nt) {g : Grw}, (∀ x ∈ L, x.Ok) → Goes m (a + 1) g → Goes m (a + 1) (stepAll m L a g)
  | [], _, _, G => G
  | x :: L, g, h, G => goes_all L (fun y hy => h y (List.mem_cons_of_mem _ hy)) (goes_parts (h x List.mem_cons_self) _ (fun _ h => h) G)
theorem Goes.low {m n k : Nat} {g : Grw} (G : Goes m n g) (h : k ≤ n) : Goes m k g := ⟨G.ok, Nat.le_trans h G.more, G.told⟩
theorem goes_from {m most : Nat} {L : List Nt} (ok : ∀ x ∈ L, x.Ok) : ∀ (k a : Nat) {g : Grw}, Goes m 0 g → Goes m 0 (growFrom (stepAll m L) most k a g)
  | 0, _, _, G => G
  | k + 1, a, g, G => by
    unfold growFrom
    split
    · rename_i h
      exact goes_from ok k (a + 1) ((goes_all L ok ⟨G.ok, h.1, G.told⟩).low (Nat.zero_le _))
    · exact G
theorem goes_grown {m most : Nat} {L : List Nt} {F0 : List (List Nat)} (ok : ∀ x ∈ L, x.Ok) (G : Gok m F0) : Goes m 0 (grownG m most L F0) := goes_from ok _ _ ⟨G, Nat.zero_le _, Nat.zero_le _⟩
def oneG (L : List Nt) : Grw := grownG 3 26 L [[0, 1, 2]]
theorem plain_gok : Gok 3 [[0, 1, 2]] := ⟨by decide, by decide⟩
theorem goes_one {L : List Nt} (ok : Oks L) : Goes 3 0 (oneG L) := goes_grown ok.ok plain_gok
theorem one_small {L : List Nt} (ok : Oks L) : (oneG L).F.length ≤ 27 := (goes_one ok).ok.small
def oneS (L : List Nt) : List (List Nat) := sortN (oneG L).F
theorem oneS_mem {L : List Nt} {r : List Nat} : r ∈ oneS L ↔ r ∈ (oneG L).F := (sortN_perm _).mem_iff
theorem oneS_len {L : List Nt} : (oneS L).length = (oneG L).F.length := (sortN_perm _).length_eq
def textsV (F : List (List Nat)) : List V := F.map fun r => V.str (tab r)
abbrev stext_of : Stmt := top 58
abbrev Ntext_of : List Str := ["row", "x"]
theorem sctext_of : FnScope Ntext_of ["row"] (defScope stext_of) := ⟨rfl, rfl, rfl, by decide +kernel, rfl, by decide +kernel, by decide +kernel⟩
def spTextOf : Sp := fun vs H Q _ => ∃ (p : Addr) (r : List Nat), vs = [.ref p] ∧ H p = some (.tup (iv r)) ∧ r.length ≤ 100 ∧ (∀ a ∈ r, a < 3) ∧ Gives (.str (tab r)) H Q
theorem ok_text_of (F : Fun K "text_of" "text_of" stext_of f fd) (B : Blt mg) : FnG P w K mg base 1 f fd ["row"] spTextOf := by
  refine fnG F sctext_of (fun vs H Q E h => ?_) (fun cdv A fr s H vs Q E hr gd h => ?_)
  · obtain ⟨p, r, rfl, _⟩ := h
    rfl
  · obtain ⟨p, r, rfl, hp, z, dg, k⟩ := h
    refine ⟨_, (pss_one (ps_ret (show PE _ _ (tM1 (rJoin K) _ _) from pe_join pe_str (pe_lc (own := [("x", 1)]) (g := gName 1) rfl sctext_of.nd (pi_tup (pv 0)) (blkOk_by (own := [("x", 1)]) (N := Ntext_of) (sc := defScope stext_of) (by decide +kernel)) (fun _ _ _ _ _ => (pg_name (i := 1) sctext_of.nd rfl (Or.inl rfl))) (fun _ _ _ _ _ => pts_nil) (fun _ _ _ _ _ => (pe_callTy call_str_int (by rfl) B.m_str (by decide +kernel) (pa_cons (pv 1) pa_nil))))))), ?_⟩
    refine s_ret (v := .str (tab r)) (ev_joinTab ev_c ?_ (by omega)) fun H1 e1 => k H1 e1
    have eg : (r.map fun d => (⟨#[48 + d]⟩ : Str)).map V.str = given (iv r).length (fun _ => true) (fun i => V.str ⟨#[48 + r.getD i 0]⟩) := by
      rw [iv_len, given_iv 0 r (fun d => V.str ⟨#[48 + d]⟩), List.map_map]
      rfl
    rw [eg]
    refine el_lcT (a := p) (xs := iv r) (fun _ => true) _ (ev_var rfl) (SqT.of hp) (by rw [iv_len]; omega) (fun y => rfl) (fun i x H1 e hx => et_yes) (fun i x H1 e hx _ => ?_)
    obtain ⟨a, ha, rfl⟩ := iv_at hx
    have ea : r.getD i 0 = a := by rw [List.getD_eq_getElem?_getD, ha]; rfl
    rw [ea]
    exact ev_strInt (ev_var rfl) (dg a (List.mem_of_getElem? ha))
abbrev sone_place_steps : Stmt := top 59
abbrev None_place_steps : List Str := ["box", "found", "told", "row"]
theorem scone_place_steps : FnScope None_place_steps ["box"] (defScope sone_place_steps) := ⟨rfl, rfl, rfl, by decide +kernel, rfl, by decide +kernel, by decide +kernel⟩
def spOneSteps (C : Addr) : Sp := fun vs H Q _ => ∃ (b : Addr) (L : List Nt), vs = [.ref b] ∧ BoxAt C H b L ∧ ∀ p pf pt H' zs, H p = none → H pf = none → H pt = none → Ex H H' → H' p = some (.tup [.ref pf, .ref pt]) → H' pf = some (.lst (textsV (oneG L).F)) →
  H' pt = some (.lst zs) → Tolds H' zs (oneG L).T → Q (.ref p) H'
theorem pow26 {x : Nt} (h : x.Ok) : 26 ^ x.n ≤ 30000 := Nat.le_trans (Nat.pow_le_pow_right (by decide) h.tab.n3) (by decide)
theorem ok_one_steps (F : Fun K "one_place_steps" "one_place_steps" sone_place_steps f fd) (mAB : ∃ u, mg "ALL_BUT_ONE" = some u ∧ RelV (.int 26) u) (D_grown : DefG P w K mg base "grown" ["box", "starts", "most"] 5 (spGrown C))
    (D_text_of : DefG P w K mg base "text_of" ["row"] 1 spTextOf) : FnG P w K mg base 6 f fd ["box"] (spOneSteps C) := by
  refine fnG F scone_place_steps (fun vs H Q E h => ?_) (fun cdv A fr s H vs Q E hr gd h => ?_)
  · obtain ⟨b, L, rfl, _⟩ := h
    rfl
  · obtain ⟨b, L, rfl, BA, k⟩ := h
    refine ⟨_, (pss_cons (ps_asg (pe_def D_grown (hr.mono (by decide)) gd rfl (pa_cons (pv 0) (pa_cons (pe_lst (pa_cons (pe_tup (pa_cons pe_int (pa_cons pe_int (pa_cons pe_int pa_nil)))) pa_nil)) (pa_cons (C8.pe_gc rfl mAB) pa_nil)))) (pg_tup rfl (pgs_cons (pg_name (i := 1) scone_place_steps.nd rfl (Or.inl rfl)) (pgs_cons (pg_name (i := 2) scone_place_steps.nd rfl (Or.inl rfl)) pgs_nil))))
  (pss_one (ps_ret (pe_tup (pa_cons (pe_lc (own := [("row", 3)]) (g := gName 3) rfl scone_place_steps.nd (pi_list (pv 1)) (blkOk_by (own := [("row", 3)]) (N := None_place_steps) (sc := defScope sone_place_steps) (by decide +kernel)) (fun _ _ _ _ _ => (pg_name (i := 3) scone_place_steps.nd rfl (Or.inl rfl))) (fun _ _ _ _ _ => pts_nil) (fun _ _ _ _ _ => (pe_def D_text_of (hr.mono (by decide)) gd rfl (pa_cons (pv 3) pa_nil)))) (pa_cons (pv 2) pa_nil)))))), ?_⟩
    have ok := BA.oks
    have G := goes_one ok
    refine ⟨_, rfl, by show 3 ≤ sizeLine; decide, fun t ht => ⟨by show 1 ≤ sizeLine; decide, fun l hl => ?_⟩⟩
    have e1 := (Ex.new (o := .tup (iv [0, 1, 2])) ht).trans (Ex.new (o := .lst [.ref t]) hl)
    have tl : t ≠ l := ne_of_none upd_same hl
    refine ⟨b, l, L, 3, 26, [.ref t], [[0, 1, 2]], rfl, BA.mono e1, upd_same, .cons ⟨t, rfl, by rw [upd_ne tl, upd_same]; rfl⟩ .nil, plain_gok, by decide, by decide, fun x hx => pow26 (ok.ok x hx), fun p pf pt H2 ys zs hp hf htt e2 h2 hf2 Ry hz2 Sz => ?_⟩
    refine ⟨p, _, rfl, SqT.of h2, rfl, _, _, rfl, ⟨_, _, rfl, rfl, ?_⟩⟩
    have e02 := e1.trans e2
    have inner : EvL (tLc (iList K (tVar 1)) (gName 3) tYes (tDef spTextOf (tCons (tVar 3) tNil)) [3]) [some (.ref b), some (.ref pf), some (.ref pt), none] H2 (textsV (oneG L).F) := by
      have e0 := given_iv ([] : List Nat) (oneG L).F (fun r => V.str (tab r))
      unfold textsV
      rw [← e0, show (oneG L).F.length = ys.length from Ry.len.symm]
      refine el_lcL (a := pf) (xs := ys) (fun _ => true) _ (ev_var rfl) (SqL.of hf2) (by rw [Ry.len]; exact Nat.le_trans (one_small ok) (by decide)) (fun y => rfl) (fun i x H3 e3 hx => et_yes) (fun i x H3 e3 hx _ => ?_)
      obtain ⟨r, hr, a, rfl, ha⟩ := Ry.get hx
      have eg : (oneG L).F.getD i [] = r := by rw [List.getD_eq_getElem?_getD, show (oneG L).F[i]? = some r from hr]; rfl
      rw [eg]
      obtain ⟨r1, r2⟩ := G.ok.ok r (List.mem_of_getElem? hr)
      exact ev_def (ea_cons (ev_var rfl) ea_nil) fun H4 e4 Q q => ⟨a, r, rfl, e4 _ _ (e3 _ _ ha), by omega, r2, q⟩
    refine s_retLP inner (ev_var rfl) fun q pl H3 hpl hq e3 h3 hq3 => ?_
    exact k q pl pt H3 zs (fresh_back e02 hq) (fresh_back e02 hpl) (fresh_back e1 htt) (e02.trans e3) hq3 h3 (e3 _ _ hz2) (Tolds.mono e3 Sz)
abbrev sone_place : Stmt := top 60
abbrev None_place : List Str := ["box", "found", "_"]
theorem scone_place : FnScope None_place ["box"] (defScope sone_place) := ⟨rfl, rfl, rfl, by decide +kernel, rfl, by decide +kernel, by decide +kernel⟩
def onesV (L : List Nt) : List V := textsV (oneS L)
def spOnePlace (C : Addr) : Sp := fun vs H Q _ => ∃ (b : Addr) (L : List Nt), vs = [.ref b] ∧ BoxAt C H b L ∧ GivesT (onesV L) H Q
theorem ok_one_place (F : Fun K "one_place" "one_place" sone_place f fd) (B : Blt mg) (B3 : Blt3 mg) (D_must_be_box : DefG P w K mg base "must_be_box" ["x"] 1 (spMustBox C)) (D_one_place_steps : DefG P w K mg base "one_place_steps" ["box"] 6 (spOneSteps C)) :
    FnG P w K mg base 7 f fd ["box"] (spOnePlace C) := by
  refine fnG F scone_place (fun vs H Q E h => ?_) (fun cdv A fr s H vs Q E hr gd h => ?_)
  · obtain ⟨b, L, rfl, _⟩ := h
    rfl
  · obtain ⟨b, L, rfl, BA, k⟩ := h
    refine ⟨_, (pss_cons (ps_expr (pe_def D_must_be_box (hr.mono (by decide)) gd rfl (pa_cons (pv 0) pa_nil)))
  (pss_cons (ps_asg (pe_def D_one_place_steps (hr.mono (by decide)) gd rfl (pa_cons (pv 0) pa_nil)) (pg_tup rfl (pgs_cons (pg_name (i := 1) scone_place.nd rfl (Or.inl rfl)) (pgs_cons (pg_name (i := 2) scone_place.nd rfl (Or.inl rfl)) pgs_nil))))
  (pss_one (ps_ret (pe_callTy call_tuple_of (by rfl) B.m_tuple (by decide +kernel) (pa_cons (pe_callB cr_sortedS (by rfl) B3.m_sorted (by decide +kernel) (pa_cons (pv 1) pa_nil)) pa_nil)))))), ?_⟩
    have ok := BA.oks
    have G := goes_one ok
    refine q_drop (ev_def (ea_cons (ev_var rfl) ea_nil) fun H1 e1 Q q => ⟨b, L, rfl, BA.mono e1, q⟩) fun H0 e0 => ?_
    refine ⟨_, rfl, b, L, rfl, BA.mono e0, fun p pf pt H2 zs hp hf ht e2 h2 hf2 hz2 Sz => ?_⟩
    refine ⟨p, _, rfl, SqT.of h2, rfl, _, _, rfl, ⟨_, _, rfl, rfl, ?_⟩⟩
    have eT : textsV (oneG L).F = ((oneG L).F.map tab).map V.str := by unfold textsV; rw [List.map_map]; rfl
    rw [eT] at hf2
    refine ⟨_, rfl, pf, (oneG L).F.map tab, rfl, SqL.of hf2, by rw [List.length_map]; exact Nat.lt_of_le_of_lt (one_small ok) (by decide), fun ys q pm so hq => ?_⟩
    have ey := sorted3 (F := (oneG L).F) (fun r hr => G.ok.ok r hr) pm so
    subst ey
    refine ⟨q, _, rfl, Or.inl ⟨SqL.of upd_same, fun l hl => ?_⟩⟩
    have e3 := e2.trans (Ex.new (o := .lst (((sortN (oneG L).F).map tab).map V.str)) hq)
    have e4 := e3.trans (Ex.new (o := .tup (((sortN (oneG L).F).map tab).map V.str)) hl)
    refine k l _ (fresh_back (e0.trans e3) hl) (e0.trans e4) ?_
    rw [upd_same, List.map_map]
    rfl
end
end Tv

namespace Tv
open PySem PySem.Spec PyProof.Rows L2 Evl
/-! ### what grown finds is closed -/
inductive Pw {α : Type} : List α → List (List α) → Prop where
  | nil : Pw [] []
  | cons {x : α} {xs : List α} {r : List α} {xss : List (List α)} (h : x ∈ xs) (t : Pw r xss) : Pw (x :: r) (xs :: xss)
theorem pw_ways {α : Type} {r : List α} {xss : List (List α)} (h : Pw r xss) : r ∈ waysA xss := by
  have g : ∀ {t : List α} {l : List (List α)}, Pw t l → ∀ (q : List α) (A : List (List α)), q ∈ A → q ++ t ∈ l.foldl growA A := by
    intro t l p
    induction p with
    | nil => exact fun q A hq => by simpa using hq
    | @cons x xs r xss hx _ ih =>
      intro q A hq
      rw [List.foldl_cons]
      have := ih (q ++ [x]) (growA A xs) (List.mem_flatMap.mpr ⟨q, hq, List.mem_map.mpr ⟨x, hx, rfl⟩⟩)
      rwa [List.append_assoc] at this
  have := g h [] [[]] (by simp)
  exact this
theorem pw_append {α : Type} : ∀ {a b : List α} {A B : List (List α)}, Pw a A → Pw b B → Pw (a ++ b) (A ++ B)
  | _, _, _, _, .nil, p => p
  | _, _, _, _, .cons h t, p => .cons h (pw_append t p)
theorem pw_rep {α : Type} {xs : List α} : ∀ {r : List α} {n : Nat}, r.length = n → (∀ x ∈ r, x ∈ xs) → Pw r (List.replicate n xs)
  | [], n, e, _ => by
    have : n = 0 := e.symm
    subst this
    exact .nil
  | x :: r, n, e, h => by
    have : n = r.length + 1 := e.symm
    subst this
    exact .cons (h x List.mem_cons_self) (pw_rep rfl fun y hy => h y (List.mem_cons_of_mem _ hy))
theorem newest_all {a c : Nat} {ix : List Nat} (l : ix.length = c) (lt : ∀ k ∈ ix, k < a + 1) (h : a ∈ ix) : ix ∈ newestN a c := by
  obtain ⟨pre, post, rfl, no⟩ := List.eq_append_cons_of_mem h
  have l2 : pre.length + (post.length + 1) = c := by simpa using l
  refine List.mem_flatMap.mpr ⟨pre.length, List.mem_range.mpr (by omega), pw_ways ?_⟩
  unfold lotsN
  rw [show pre ++ a :: post = (pre ++ [a]) ++ post by simp]
  refine pw_append (pw_append (pw_rep rfl fun x hx => List.mem_range.mpr ?_) (.cons (by simp) .nil)) (pw_rep (by omega) fun x hx => List.mem_range.mpr (lt x (by simp [hx])))
  have := lt x (by simp [hx])
  have ne : x ≠ a := fun e => no (e ▸ hx)
  omega
theorem rowOf_more {m : Nat} {x : Nt} {F E : List (List Nat)} {ix : List Nat} (lt : ∀ k ∈ ix, k < F.length) : rowOf m x (F ++ E) ix = rowOf m x F ix := by
  unfold rowOf
  congr 1
  refine List.map_congr_left fun k hk => ?_
  rw [List.getD_eq_getElem?_getD, List.getD_eq_getElem?_getD, List.getElem?_append_left (lt k hk)]
def Ext (g g' : Grw) : Prop := ∃ E, g'.F = g.F ++ E
theorem Ext.refl (g : Grw) : Ext g g := ⟨[], by simp⟩
theorem Ext.trans {a b c : Grw} (h : Ext a b) (k : Ext b c) : Ext a c := by
  obtain ⟨E, e⟩ := h
  obtain ⟨E2, e2⟩ := k
  exact ⟨E ++ E2, by rw [e2, e, List.append_assoc]⟩
theorem Ext.mem {g g' : Grw} (h : Ext g g') {r : List Nat} (hr : r ∈ g.F) : r ∈ g'.F := by
  obtain ⟨E, e⟩ := h
  rw [e]
  exact List.mem_append_left _ hr
theorem Ext.len {g g' : Grw} (h : Ext g g') : g.F.length ≤ g'.F.length := by
  obtain ⟨E, e⟩ := h
  rw [e, List.length_append]
  omega
theorem ext_step (m : Nat) (x : Nt) (g : Grw) (ix : List Nat) : Ext g (stepIx m x g ix) ∧ rowOf m x g.F ix ∈ (stepIx m x g ix).F := by
  unfold stepIx
  by_cases h : rowOf m x g.F ix ∈ g.F
  · rw [addRow_no h]
    exact ⟨Ext.refl g, h⟩
  · rw [addRow_yes h]
    exact ⟨⟨[_], rfl⟩, List.mem_append_right _ (by simp)⟩
theorem ext_steps (m : Nat) (x : Nt) : ∀ (I : List (List Nat)) (g : Grw), Ext g (I.foldl (stepIx m x) g)
  | [], g => Ext.refl g
  | ix :: I, g => (ext_step m x g ix).1.trans (ext_steps m x I _)
theorem done_steps (m : Nat) (x : Nt) : ∀ (I : List (List Nat)) (g : Grw), (∀ ix ∈ I, ∀ k ∈ ix, k < g.F.length) → ∀ ix ∈ I, rowOf m x g.F ix ∈ (I.foldl (stepIx m x) g).F
  | [], _, _, _, h => nomatch h
  | jx :: I, g, lt, ix, h => by
    obtain ⟨e1, h1⟩ := ext_step m x g jx
    rcases List.mem_cons.mp h with rfl | h
    · exact (ext_steps m x I _).mem h1
    · obtain ⟨E, eE⟩ := e1
      have := done_steps m x I (stepIx m x g jx) (fun y hy k hk => Nat.lt_of_lt_of_le (lt y (List.mem_cons_of_mem _ hy) k hk) (Ext.len ⟨E, eE⟩)) ix h
      rw [eE, rowOf_more (lt ix (List.mem_cons_of_mem _ h))] at this
      exact this
theorem ext_all (m a : Nat) : ∀ (L : List Nt) (g : Grw), Ext g (stepAll m L a g)
  | [], g => Ext.refl g
  | x :: L, g => (ext_steps m x (newestN a x.n) g).trans (ext_all m a L _)
theorem done_all {m a : Nat} : ∀ (L : List Nt) (g : Grw), a < g.F.length → ∀ x ∈ L, ∀ ix ∈ newestN a x.n, rowOf m x g.F ix ∈ (stepAll m L a g).F
  | [], _, _, _, h, _, _ => nomatch h
  | y :: L, g, lt, x, h, ix, hi => by
    have ex := ext_steps m y (newestN a y.n) g
    rcases List.mem_cons.mp h with rfl | h
    · refine (ext_all m a L _).mem (done_steps m x (newestN a x.n) g (fun jx hj k hk => ?_) ix hi)
      have := (newestN_in hj).2 k hk
      omega
    · have := done_all (m := m) L (stepPart m a g y) (Nat.lt_of_lt_of_le lt ex.len) x h ix hi
      obtain ⟨E, eE⟩ := ex
      have eE' : (stepPart m a g y).F = g.F ++ E := eE
      rw [eE', rowOf_more (fun k hk => by have := (newestN_in hi).2 k hk; omega)] at this
      exact this
def Done (m : Nat) (L : List Nt) (a : Nat) (F : List (List Nat)) : Prop := ∀ x ∈ L, ∀ ix : List Nat, ix.length = x.n → (∀ k ∈ ix, k < a) → rowOf m x F ix ∈ F
theorem done_next {m a : Nat} {L : List Nt} {g : Grw} (lt : a < g.F.length) (h : Done m L a g.F) : Done m L (a + 1) (stepAll m L a g).F := fun x hx ix l lk => by
  have ex := ext_all m a L g
  have row : rowOf m x (stepAll m L a g).F ix = rowOf m x g.F ix := by
    obtain ⟨E, eE⟩ := ex
    rw [eE]
    exact rowOf_more fun k hk => by have := lk k hk; omega
  rw [row]
  by_cases c : a ∈ ix
  · exact done_all L g lt x hx ix (newest_all l lk c)
  · refine ex.mem (h x hx ix l fun k hk => ?_)
    have := lk k hk
    have ne : k ≠ a := fun e => c (e ▸ hk)
    omega
theorem done_from {m most : Nat} {L : List Nt} : ∀ (k a : Nat) (g : Grw), most < a + k → a ≤ g.F.length → Done m L a g.F →
    Done m L (growFrom (stepAll m L) most k a g).F.length (growFrom (stepAll m L) most k a g).F ∨ most < (growFrom (stepAll m L) most k a g).F.length
  | 0, a, g, lt, le, _ => Or.inr (by unfold growFrom; omega)
  | k + 1, a, g, lt, le, d => by
    unfold growFrom
    split
    · rename_i c
      refine done_from k (a + 1) _ (by omega) ?_ (done_next c.1 d)
      have := (ext_all m a L g).len
      omega
    · rename_i c
      by_cases e : most < g.F.length
      · exact Or.inr e
      · have : a = g.F.length := by omega
        subst this
        exact Or.inl d
theorem ext_from {m most : Nat} {L : List Nt} : ∀ (k a : Nat) (g : Grw), Ext g (growFrom (stepAll m L) most k a g)
  | 0, _, g => Ext.refl g
  | k + 1, a, g => by
    unfold growFrom
    split
    · exact (ext_all m a L g).trans (ext_from k (a + 1) _)
    · exact Ext.refl g
theorem done_zero {m : Nat} {L : List Nt} {F : List (List Nat)} (ok : ∀ x ∈ L, x.Ok) : Done m L 0 F := fun x hx ix l lk => by
  have n1 := (ok x hx).tab.n1
  cases ix with
  | nil => rw [List.length_nil] at l; omega
  | cons k r => exact absurd (lk k List.mem_cons_self) (Nat.not_lt_zero _)
theorem pick_ix {F : List (List Nat)} : ∀ {rs : List (List Nat)}, (∀ r ∈ rs, r ∈ F) → ∃ ix : List Nat, ix.length = rs.length ∧ (∀ k ∈ ix, k < F.length) ∧ rs = ix.map fun k => F.getD k []
  | [], _ => ⟨[], rfl, (fun _ h => nomatch h), rfl⟩
  | r :: rs, h => by
    obtain ⟨ix, l, lt, e⟩ := pick_ix (rs := rs) fun y hy => h y (List.mem_cons_of_mem _ hy)
    obtain ⟨k, hk⟩ := List.mem_iff_getElem?.mp (h r List.mem_cons_self)
    refine ⟨k :: ix, by simp [l], fun j hj => ?_, ?_⟩
    · rcases List.mem_cons.mp hj with rfl | hj
      · exact (List.getElem?_eq_some_iff.mp hk).1
      · exact lt j hj
    · rw [List.map_cons, ← e, List.getD_eq_getElem?_getD, hk]
      rfl
theorem Done.closed {m : Nat} {L : List Nt} {F : List (List Nat)} (d : Done m L F.length F) {x : Nt} (hx : x ∈ L) {rs : List (List Nat)} (l : rs.length = x.n) (h : ∀ r ∈ rs, r ∈ F) : makes x.ds rs m ∈ F := by
  obtain ⟨ix, l2, lt, rfl⟩ := pick_ix h
  exact d x hx ix (by omega) lt
/-! ### of one place -/
theorem full3 {F : List (List Nat)} (G : Gok 3 F) (big : 26 < F.length) {r : List Nat} (l : r.length = 3) (d : ∀ a ∈ r, a < 3) : r ∈ F := by
  by_cases c : r ∈ F
  · exact c
  · have nd : (r :: F).Nodup := List.nodup_cons.mpr ⟨c, G.nd⟩
    have := (show Gok 3 (r :: F) from ⟨nd, fun q hq => by
      rcases List.mem_cons.mp hq with rfl | hq
      · exact ⟨l, d⟩
      · exact G.ok q hq⟩).small
    rw [List.length_cons] at this
    omega
theorem one_plain (L : List Nt) : [0, 1, 2] ∈ (oneG L).F := (ext_from _ _ _).mem (by simp)
theorem one_closed {L : List Nt} (ok : Oks L) {x : Nt} (hx : x ∈ L) {rs : List (List Nat)} (l : rs.length = x.n) (h : ∀ r ∈ rs, r ∈ (oneG L).F) : makes x.ds rs 3 ∈ (oneG L).F := by
  have G := goes_one ok
  rcases done_from (m := 3) (most := 26) (L := L) (26 + 1) 0 ⟨[[0, 1, 2]], []⟩ (by omega) (Nat.zero_le _) (done_zero ok.ok) with d | big
  · exact Done.closed d hx l h
  · obtain ⟨a, b⟩ := makes_ok (m := 3) (ok.ok x hx).tab l (fun r hr => G.ok.ok r (h r hr))
    exact full3 G.ok big a b
/-- what holds of the starts, and goes over, holds of all -/
theorem grow_ind {m most : Nat} {L : List Nt} (ok : ∀ x ∈ L, x.Ok) (P : List Nat → Prop) (hs : ∀ x ∈ L, ∀ rs : List (List Nat), rs.length = x.n → (∀ r ∈ rs, (r.length = m ∧ ∀ a ∈ r, a < 3) ∧ P r) → P (makes x.ds rs m)) :
    ∀ (k a : Nat) (g : Grw), Goes m 0 g → (∀ r ∈ g.F, P r) → ∀ r ∈ (growFrom (stepAll m L) most k a g).F, P r := by
  have one : ∀ {a : Nat} {x : Nt}, x ∈ L → ∀ (I : List (List Nat)) (g : Grw), (∀ ix ∈ I, ix ∈ newestN a x.n) → Goes m (a + 1) g → (∀ r ∈ g.F, P r) → ∀ r ∈ (I.foldl (stepIx m x) g).F, P r := by
    intro a x hx I
    induction I with
    | nil => exact fun g _ _ h => h
    | cons ix I ih =>
      intro g hI G h
      obtain ⟨l, lt⟩ := newestN_in (hI ix List.mem_cons_self)
      have lt2 : ∀ k ∈ ix, k < g.F.length := fun k hk => Nat.lt_of_lt_of_le (lt k hk) G.more
      refine ih _ (fun y hy => hI y (List.mem_cons_of_mem _ hy)) (G.step (ok x hx) l lt2) fun r hr => ?_
      unfold stepIx at hr
      by_cases c : rowOf m x g.F ix ∈ g.F
      · rw [addRow_no c] at hr
        exact h r hr
      · rw [addRow_yes c] at hr
        rcases List.mem_append.mp hr with hr | hr
        · exact h r hr
        · rw [List.mem_singleton.mp hr]
          refine hs x hx _ (by rw [List.length_map, l]) fun q hq => ?_
          obtain ⟨k, hk, rfl⟩ := List.mem_map.mp hq
          have mem : g.F.getD k [] ∈ g.F := by
            rw [List.getD_eq_getElem?_getD, List.getElem?_eq_getElem (lt2 k hk)]
            exact List.getElem_mem _
          exact ⟨G.ok.ok _ mem, h _ mem⟩
  have all_ : ∀ {a : Nat} (M : List Nt) (g : Grw), (∀ x ∈ M, x ∈ L) → Goes m (a + 1) g → (∀ r ∈ g.F, P r) → ∀ r ∈ (stepAll m M a g).F, P r := by
    intro a M
    induction M with
    | nil => exact fun g _ _ h => h
    | cons x M ih =>
      intro g hM G h
      exact ih _ (fun y hy => hM y (List.mem_cons_of_mem _ hy)) (goes_parts (ok x (hM x List.mem_cons_self)) _ (fun _ h => h) G) (one (hM x List.mem_cons_self) _ g (fun _ h => h) G h)
  intro k
  induction k with
  | zero => exact fun a g _ h => h
  | succ k ih =>
    intro a g G h
    unfold growFrom
    split
    · rename_i c
      have G2 : Goes m (a + 1) g := ⟨G.ok, c.1, G.told⟩
      exact ih (a + 1) _ ((goes_all L ok G2).low (Nat.zero_le _)) (all_ L g (fun _ h => h) G2 h)
    · exact h
theorem one_ind {L : List Nt} (ok : Oks L) (P : List Nat → Prop) (h0 : P [0, 1, 2]) (hs : ∀ x ∈ L, ∀ rs : List (List Nat), rs.length = x.n → (∀ r ∈ rs, (r.length = 3 ∧ ∀ a ∈ r, a < 3) ∧ P r) → P (makes x.ds rs 3)) :
    ∀ r ∈ (oneG L).F, P r := grow_ind ok.ok P hs _ _ _ ⟨plain_gok, Nat.zero_le _, Nat.zero_le _⟩ fun r hr => by
  rw [List.mem_singleton.mp hr]
  exact h0
theorem one_ok {L : List Nt} (ok : Oks L) {r : List Nat} (h : r ∈ (oneG L).F) : r.length = 3 ∧ ∀ a ∈ r, a < 3 := (goes_one ok).ok.ok r h
theorem one_tab {L : List Nt} (ok : Oks L) {r : List Nat} (h : r ∈ (oneG L).F) : IsTab r 1 := ⟨by decide, by decide, (one_ok ok h).1, (one_ok ok h).2⟩
/-- put into one another -/
theorem one_comp {L : List Nt} (ok : Oks L) {a b : List Nat} (ha : a ∈ (oneG L).F) (hb : b ∈ (oneG L).F) : makes a [b] 3 ∈ (oneG L).F := by
  have tb := one_tab ok hb
  refine one_ind ok (fun r => makes r [b] 3 ∈ (oneG L).F) ?_ (fun x hx rs l h => ?_) a ha
  · have e : makes [0, 1, 2] [b] 3 = b := by
      obtain ⟨bl, bd⟩ := one_ok ok hb
      have mem := tups3_mem bl bd
      have all_ : ∀ b ∈ tups 3, makes [0, 1, 2] [b] 3 = b := by decide +kernel
      exact all_ b mem
    show makes [0, 1, 2] [b] 3 ∈ (oneG L).F
    rw [e]
    exact hb
  · have e : makes (makes x.ds rs 3) [b] 3 = makes x.ds (rs.map fun r => makes r [b] 3) 3 := by
      unfold makes
      refine List.map_congr_left fun i hi => ?_
      have bi : b.getD i 0 < 3 := lt3_getD (one_ok ok hb).2 i
      show val ((List.range 3).map fun i => val x.ds (rs.map fun r => r.getD i 0)) [b.getD i 0] = _
      have v1 : ∀ (t : List Nat) (k : Nat), val t [k] = t.getD k 0 := fun t k => by unfold val num; simp
      rw [v1, List.getD_eq_getElem?_getD, List.getElem?_map, List.getElem?_range bi, List.map_map]
      show val x.ds (rs.map fun r => r.getD (b.getD i 0) 0) = _
      congr 1
      refine List.map_congr_left fun r _ => ?_
      show _ = ((List.range 3).map fun i => val r ([b].map fun r => r.getD i 0)).getD i 0
      rw [List.getD_eq_getElem?_getD (l := (List.range 3).map _), List.getElem?_map, List.getElem?_range (List.mem_range.mp hi)]
      show _ = val r [b.getD i 0]
      rw [v1]
    show makes (makes x.ds rs 3) [b] 3 ∈ (oneG L).F
    rw [e]
    refine one_closed ok hx (by rw [List.length_map]; exact l) fun q hq => ?_
    obtain ⟨r, hr, rfl⟩ := List.mem_map.mp hq
    exact (h r hr).2
end Tv

namespace Tv
open PySem PySem.Spec PyProof.Rows L2 Evl
section
variable {P : Program} {w : World} {K : PySem.W.Frag} {mg : Str → Option Value} {base : Heap} {f aL aW C : Addr} {fd : FuncData}
abbrev sBox_read : Stmt := inClass (top 40) 1
abbrev NBox_read : List Str := ["cls", "text", "rows"]
theorem scBox_read : FnScope NBox_read ["cls", "text"] (defScope sBox_read) := ⟨rfl, rfl, rfl, by decide +kernel, rfl, by decide +kernel, by decide +kernel⟩
theorem ok_read (F : Fun K "read" "Box.read" sBox_read f fd) (B : Blt mg) {CI : Addr} (mIR : mg "InvalidRows" = some (.ref CI)) (D_make : MakeG P w K mg base C 4 (spBoxed C)) : FnG P w K mg base 6 f fd ["cls", "text"] (spRead C) := by
  refine fnG F scBox_read (fun vs H Q E h => ?_) (fun cdv A fr s H vs Q E hr gd h => ?_)
  · obtain ⟨L, _, rfl, _⟩ := h
    rfl
  · obtain ⟨L, ok, rfl, k⟩ := h
    refine ⟨_, (pss_cons (ps_if (pt_not (pt_val (pe_callB call_isi (by rfl) B.m_isinstance (by decide +kernel) (pa_cons (pv 1) (pa_cons (pe_bltn (v := .ty "str") rfl B.m_str (by decide +kernel) rfl) pa_nil))))) (pss_one ps_never) pss_nil)
  (pss_cons (ps_set (i := 2) scBox_read.nd rfl (Or.inl rfl) (pe_ifExp (pt_cmpR op_ne (pv 1) pe_str (nomark _)) (pe_bm PySem.F.plainAttrs_str PySem.F.slot_str_split PySem.F.type_str_split mt_split (pv 1) (pa_cons pe_str pa_nil)) (pe_lst pa_nil)))
  (pss_one (ps_tryMake rfl rfl ⟨rfl, by decide, .inl mIR⟩ D_make (hr.mono (by decide)) gd (i := 0) (j := 2) rfl (by first | exact Or.inl rfl | exact Or.inr (Or.inl rfl) | exact Or.inr (Or.inr rfl)) rfl (by first | exact Or.inl rfl | exact Or.inr (Or.inl rfl) | exact Or.inr (Or.inr rfl)))))), ?_⟩
    refine q_pass (et_is (et_not (et_B (ev_isStr (ev_var rfl)))) rfl) fun H1 e1 => ?_
    obtain ⟨t1, t2⟩ := text_len ok
    refine q_asgL (xs := rowsV L) (el_if (et_test (ev_op (ev_var rfl) ev_c (rv_ne rfl))) (fun c => ?_) (fun c => ?_)) fun pr H2 hpr e2 h2 => ?_
    · have ne : L ≠ [] := fun e => by
        rw [e] at c
        have : (!decide (V.str (textOf []) = V.str (Str.ofString ""))) = false := by decide +kernel
        rw [this] at c
        cases c
      rw [rowsV_eq]
      exact el_split (ev_var rfl) (text_split ok.ok ne) (by omega)
    · have nil_ : L = [] := by
        cases L with
        | nil => rfl
        | cons x L =>
          have e := of_decide_eq_true ((Bool.not_eq_false' _).mp c)
          have e2 : textOf (x :: L) = Str.ofString "" := V.str.inj e
          have := t2 (by simp)
          rw [e2] at this
          exact absurd this (by decide)
      rw [nil_]
      exact el_lst ea_nil (by decide)
    refine s_retBox (C := C) (L := L) (eb_makeL ok (ea_starP (ev_var rfl) (Or.inr (SqL.of h2))) rfl) fun a H3 e3 BA => k a H3 ((e1.trans e2).trans e3) BA
end
end Tv

namespace Tv
open PySem PySem.Spec PyProof.Rows L2 Evl
section
variable {P : Program} {w : World} {K : PySem.W.Frag} {mg : Str → Option Value} {base : Heap} {f aL aW C : Addr} {fd : FuncData}
abbrev smakes_all : Stmt := top 55
abbrev Nmakes_all : List Str := ["box"]
theorem scmakes_all : FnScope Nmakes_all ["box"] (defScope smakes_all) := ⟨rfl, rfl, rfl, by decide +kernel, rfl, by decide +kernel, by decide +kernel⟩
def spMakesAll (C : Addr) : Sp := fun vs H Q _ => ∃ (a : Addr) (L : List Nt), vs = [.ref a] ∧ BoxAt C H a L ∧ Gives (.bl (decide (keptL L = []))) H Q
theorem ok_makes_all (F : Fun K "makes_all" "makes_all" smakes_all f fd) (B : Blt mg) (D_kept : DefG P w K mg base "kept" ["box"] 7 (spKept C)) : FnG P w K mg base 8 f fd ["box"] (spMakesAll C) := by
  refine fnG F scmakes_all (fun vs H Q E h => ?_) (fun cdv A fr s H vs Q E hr gd h => ?_)
  · obtain ⟨a, L, rfl, _⟩ := h
    rfl
  · obtain ⟨a, L, rfl, BA, k⟩ := h
    refine ⟨_, (pss_one (ps_ret (pe_cmpR op_eq (pe_callB call_len (by rfl) B.m_len (by decide +kernel) (pa_cons (pe_def D_kept (hr.mono (by decide)) gd rfl (pa_cons (pv 0) pa_nil)) pa_nil)) pe_int (nomark _)))), ?_⟩
    have e : decide (keptL L = []) = decide (V.int ((((keptL L).map V.str).length : Nat) : Int) = V.int 0) := by
      rw [List.length_map]
      refine decide_eq_decide.mpr ⟨fun h => by rw [h]; rfl, fun h => ?_⟩
      have := V.int.inj h
      exact List.eq_nil_of_length_eq_zero (by omega)
    rw [e] at k
    exact s_ret (ev_op (ev_lenU (xs := (keptL L).map V.str) (eu_def (ea_cons (ev_var rfl) ea_nil) fun H1 e1 Q q => ⟨a, L, rfl, BA.mono e1, q⟩)) ev_c (rv_eq rfl)) fun H1 e1 => k H1 e1
end
end Tv

namespace Tv
open PySem PySem.Spec PyProof.Rows L2 Evl
section
variable {P : Program} {w : World} {K : PySem.W.Frag} {mg : Str → Option Value} {base : Heap} {f aL aW : Addr} {fd : FuncData}
abbrev slaw_tuples : Stmt := top 73
abbrev Nlaw_tuples : List Str := ["size", "found", "k", "later", "some"]
theorem sclaw_tuples : FnScope Nlaw_tuples ["size"] (defScope slaw_tuples) := ⟨rfl, rfl, rfl, by decide +kernel, rfl, by decide +kernel, by decide +kernel⟩
theorem ok_tuples (F : Fun K "_law_tuples" "_law_tuples" slaw_tuples f fd) (B : Blt mg) : FnG P w K mg base 1 f fd ["size"] spAllArgs := by
  refine fnG F sclaw_tuples (fun vs H Q E h => ?_) (fun cdv A fr s H vs Q E hr gd h => ?_)
  · obtain ⟨n, _, rfl, _⟩ := h
    rfl
  · obtain ⟨n, n3, rfl, k⟩ := h
    refine ⟨_, (pss_cons (ps_set (i := 1) sclaw_tuples.nd rfl (Or.inl rfl) (pe_lst (pa_cons (pe_tup pa_nil) pa_nil)))
  (pss_cons (ps_for PassesOwn.never rfl (pi_range1 rfl B.m_range (pa_cons (pv 0) pa_nil)) (pg_name (i := 2) sclaw_tuples.nd rfl (Or.inl rfl)) (pss_cons (ps_set (i := 3) sclaw_tuples.nd rfl (Or.inl rfl) (pe_lst pa_nil))
  (pss_cons (ps_for PassesOwn.never rfl (pi_list (pv 1)) (pg_name (i := 4) sclaw_tuples.nd rfl (Or.inl rfl)) (pss_one (ps_set (i := 3) sclaw_tuples.nd rfl (Or.inl rfl) (pe_op op_cat (pv 3) (pe_lst (pa_cons (pe_op op_catA (pv 4) (pe_tup (pa_cons pe_int pa_nil))) (pa_cons (pe_op op_catA (pv 4) (pe_tup (pa_cons pe_int pa_nil))) (pa_cons (pe_op op_catA (pv 4) (pe_tup (pa_cons pe_int pa_nil))) pa_nil))))))))
  (pss_one (ps_set (i := 1) sclaw_tuples.nd rfl (Or.inl rfl) (pv 3))))))
  (pss_one (ps_ret (pv 1))))), ?_⟩
    refine ⟨by decide, fun t ht => ⟨by show 1 ≤ sizeLine; decide, fun l hl => ?_⟩⟩
    have tl : t ≠ l := ne_of_none upd_same hl
    refine ⟨_, rfl, (n : Int), rfl, by omega, by omega, for_range (lo := 0) (n := n)
      (fun i σ H2 => ∃ (l2 : Addr) (xs : List V) (v v1 v2 : Option V), σ = [some (.int (n : Int)), some (.ref l2), v, v1, v2] ∧ H l2 = none ∧ Ex H H2 ∧ H2 l2 = some (.lst xs) ∧ Rows H2 xs (tups i)) ?_ ?_ ?_⟩
    · refine ⟨l, [.ref t], none, none, none, rfl, ?_, ?_, upd_same, .cons ⟨t, rfl, by rw [upd_ne tl, upd_same]; rfl⟩ .nil⟩
      · exact fresh_back (Ex.new ht) hl
      · exact (Ex.new ht).trans (Ex.new hl)
    · rintro i σ H2 hi ⟨l2, xs, v, v1, v2, rfl, hl0, e2, hl2, R⟩
      have i3 : i ≤ 3 := by omega
      refine ⟨by decide, fun l3 hl3 => ⟨_, rfl, l2, rfl, ⟨xs, SqL.of (by rw [upd_ne (ne_of_none hl2 hl3)]; exact hl2)⟩, for_list (K := K) (a := l2) (xs := xs)
        (fun j σ H3 => ∃ (l4 : Addr) (ys : List V) (u : Option V), σ = [some (.int (n : Int)), some (.ref l2), some (.int (0 + (i : Int))), some (.ref l4), u] ∧ H2 l4 = none ∧ Ex H2 H3 ∧
          H3 l4 = some (.lst ys) ∧ Rows H3 ys (((tups i).take j).flatMap ext)) ?_ (fun j σ H3 _ ⟨_, _, _, _, _, e3, _⟩ => SqL.of (e3 _ _ hl2)) ?_ ?_⟩⟩
      · exact ⟨l3, [], v2, rfl, hl3, Ex.new hl3, upd_same, .nil⟩
      · rintro j x σ H3 hx ⟨l4, ys, u, rfl, hl4, e3, h4, R3⟩
        obtain ⟨r, hr', rx⟩ := R.get hx
        have rl : r.length ≤ 100 := tups_short i3 hr'
        have step : ∀ {H4 : Hp} (m : Nat) {Q : VK}, Ex H2 H4 → (∀ y H', Ex H4 H' → IsRow H' y (r ++ [m]) → Q y H') → ∀ q, H4 q = none → rCatA K x (.ref q) (upd H4 q (.tup [V.int (m : Int)])) Q := fun {H4} m {Q} e4 hQ q hq => by
          have ez := Ex.new (o := .tup [V.int (m : Int)]) hq
          have rx5 : IsRow (upd H4 q (.tup [V.int (m : Int)])) x r := by
            obtain ⟨a', e', h'⟩ := rx
            exact ⟨a', e', ez _ _ (e4 _ _ h')⟩
          exact catA_row rx5 rl upd_same fun y H5 e5 ry => hQ y H5 (ez.trans e5) ry
        refine ⟨_, rfl, _, rfl, (by show 1 ≤ sizeLine; decide), fun q0 hq0 => step 0 e3 (fun y0 H4 e4 r0 => ?_) q0 hq0⟩
        refine ⟨_, rfl, (by show 1 ≤ sizeLine; decide), fun q1 hq1 => step 1 (e3.trans e4) (fun y1 H5 e5 r1 => ?_) q1 hq1⟩
        refine ⟨_, rfl, (by show 1 ≤ sizeLine; decide), fun q2 hq2 => step 2 ((e3.trans e4).trans e5) (fun y2 H6 e6 r2 => ?_) q2 hq2⟩
        refine ⟨by show 3 ≤ sizeLine; decide, fun q3 hq3 => ?_⟩
        have e36 := (e4.trans e5).trans e6
        have n3' : l4 ≠ q3 := ne_of_none (e36 _ _ h4) hq3
        refine ⟨l4, q3, ys, [y0, y1, y2], rfl, rfl, by rw [upd_ne n3']; exact e36 _ _ h4, upd_same, ?_, fun p hp => ?_⟩
        · rw [R3.len]
          have s1 := (flat_small (n := i) (i := j) i3).2
          exact Nat.le_trans (by show _ + 3 ≤ 84; omega) (by decide : 84 ≤ sizeLine)
        · have e7 := (Ex.new (o := .lst [y0, y1, y2]) hq3).trans (Ex.new (o := .lst (ys ++ [y0, y1, y2])) hp)
          refine ⟨p, ys ++ [y0, y1, y2], some x, rfl, fresh_back ((e3.trans e36).trans (Ex.new hq3)) hp, (e3.trans e36).trans e7, upd_same, ?_⟩
          rw [flat_take hr']
          refine Rows.append (R3.mono (e36.trans e7)) (.cons ?_ (.cons ?_ (.cons ?_ .nil)))
          · obtain ⟨a, ha, hb⟩ := r0
            exact ⟨a, ha, e7 _ _ (e6 _ _ (e5 _ _ hb))⟩
          · obtain ⟨a, ha, hb⟩ := r1
            exact ⟨a, ha, e7 _ _ (e6 _ _ hb)⟩
          · obtain ⟨a, ha, hb⟩ := r2
            exact ⟨a, ha, e7 _ _ hb⟩
      · rintro σ H3 ⟨l4, ys, u, rfl, hl4, e3, h4, R3⟩
        rw [R.len, List.take_length] at R3
        exact ⟨_, rfl, l4, ys, _, _, _, rfl, fresh_back e2 hl4, e2.trans e3, h4, R3⟩
    · rintro σ H2 ⟨l2, xs, v, v1, v2, rfl, hl0, e2, hl2, R⟩
      exact ⟨_, rfl, k l2 H2 xs hl0 e2 hl2 R⟩
abbrev slaw_at : Stmt := top 74
abbrev Nlaw_at : List Str := ["sheet_now", "some", "index_now", "each"]
theorem sclaw_at : FnScope Nlaw_at ["sheet_now", "some"] (defScope slaw_at) := ⟨rfl, rfl, rfl, by decide +kernel, rfl, by decide +kernel, by decide +kernel⟩
def spValueL : Sp := fun vs H Q _ => ∃ (ds : List Nat) (n : Nat) (p : Addr) (as : List Nat), IsTab ds n ∧ vs = [.str (tab ds), .ref p] ∧ IsNums H p as ∧
  as.length = n ∧ (∀ a ∈ as, a < 3) ∧ Gives (.int (val ds as : Nat)) H Q
theorem ok_at (F : Fun K "_law_at" "_law_at" slaw_at f fd) (B : Blt mg) : FnG P w K mg base 1 f fd ["sheet_now", "some"] spValueL := by
  refine fnG F sclaw_at (fun vs H Q E h => ?_) (fun cdv A fr s H vs Q E hr gd h => ?_)
  · obtain ⟨ds, n, p, as, _, rfl, _⟩ := h
    rfl
  · obtain ⟨ds, n, p, as, T, rfl, hp | hp, hl, hd, k⟩ := h
    refine ⟨_, (pss_cons (ps_set (i := 2) sclaw_at.nd rfl (Or.inl rfl) pe_int)
  (pss_cons (ps_for PassesOwn.never rfl (pi_tup (pv 1)) (pg_name (i := 3) sclaw_at.nd rfl (Or.inl rfl)) (pss_one (ps_set (i := 2) sclaw_at.nd rfl (Or.inl rfl) (pe_op op_add (pe_op op_mul pe_int (pv 2)) (pv 3)))))
  (pss_one (ps_ret (pe_callTy call_int_str (by rfl) B.m_int (by decide +kernel) (pa_cons (pe_ix ix_str (pv 0) (pv 2) (fun _ _ => rfl)) pa_nil)))))), ?_⟩
    refine ⟨_, rfl, p, rfl, ⟨_, SqT.of hp⟩, for_tup (K := K) (a := p) (xs := iv as)
      (fun i σ H2 => H2 = H ∧ ∃ v : Option V, σ = [some (.str (tab ds)), some (.ref p), some (.int (num (as.take i) : Nat)), v]) ⟨rfl, none, rfl⟩ (fun i σ H2 _ e => by rw [e.1]; exact SqT.of hp) ?_ ?_⟩
    · rintro i x σ H2 hi ⟨rfl, v, rfl⟩
      obtain ⟨a, ha, rfl⟩ := iv_at hi
      refine ⟨_, rfl, _, _, rfl, rfl, Or.inl ⟨by decide, by decide⟩, _, rfl, _, _, rfl, rfl, rfl, some (.int (a : Int)), ?_⟩
      rw [num_take ha]
      show [some (V.str (tab ds)), some (V.ref p), some (V.int (3 * ((num (as.take i) : Nat) : Int) + (a : Int))), some (V.int (a : Int))] = _
      have e : (3 * ((num (as.take i) : Nat) : Int) + (a : Int)) = ((3 * num (as.take i) + a : Nat) : Int) := by omega
      rw [e]
    · rintro σ H2 ⟨rfl, v, rfl⟩
      rw [iv_len, List.take_length]
      obtain ⟨g1, g2⟩ := T.at hl hd
      refine ⟨_, rfl, _, rfl, tab ds, _, 48 + val ds as, rfl, rfl, T.size, ?_, ⟨#[48 + val ds as]⟩, _, rfl, int_digit _ g2, (by show 1 ≤ 640; decide), k H2 (Ex.refl H2)⟩
      rw [tab_cps]
      exact atI_nat (by rw [List.getElem?_map, g1]; rfl)
    refine ⟨_, (pss_cons (ps_set (i := 2) sclaw_at.nd rfl (Or.inl rfl) pe_int)
  (pss_cons (ps_for PassesOwn.never rfl (pi_list (pv 1)) (pg_name (i := 3) sclaw_at.nd rfl (Or.inl rfl)) (pss_one (ps_set (i := 2) sclaw_at.nd rfl (Or.inl rfl) (pe_op op_add (pe_op op_mul pe_int (pv 2)) (pv 3)))))
  (pss_one (ps_ret (pe_callTy call_int_str (by rfl) B.m_int (by decide +kernel) (pa_cons (pe_ix ix_str (pv 0) (pv 2) (fun _ _ => rfl)) pa_nil)))))), ?_⟩
    refine ⟨_, rfl, p, rfl, ⟨_, SqL.of hp⟩, for_list (K := K) (a := p) (xs := iv as)
      (fun i σ H2 => H2 = H ∧ ∃ v : Option V, σ = [some (.str (tab ds)), some (.ref p), some (.int (num (as.take i) : Nat)), v]) ⟨rfl, none, rfl⟩ (fun i σ H2 _ e => by rw [e.1]; exact SqL.of hp) ?_ ?_⟩
    · rintro i x σ H2 hi ⟨rfl, v, rfl⟩
      obtain ⟨a, ha, rfl⟩ := iv_at hi
      refine ⟨_, rfl, _, _, rfl, rfl, Or.inl ⟨by decide, by decide⟩, _, rfl, _, _, rfl, rfl, rfl, some (.int (a : Int)), ?_⟩
      rw [num_take ha]
      show [some (V.str (tab ds)), some (V.ref p), some (V.int (3 * ((num (as.take i) : Nat) : Int) + (a : Int))), some (V.int (a : Int))] = _
      have e : (3 * ((num (as.take i) : Nat) : Int) + (a : Int)) = ((3 * num (as.take i) + a : Nat) : Int) := by omega
      rw [e]
    · rintro σ H2 ⟨rfl, v, rfl⟩
      rw [iv_len, List.take_length]
      obtain ⟨g1, g2⟩ := T.at hl hd
      refine ⟨_, rfl, _, rfl, tab ds, _, 48 + val ds as, rfl, rfl, T.size, ?_, ⟨#[48 + val ds as]⟩, _, rfl, int_digit _ g2, (by show 1 ≤ 640; decide), k H2 (Ex.refl H2)⟩
      rw [tab_cps]
      exact atI_nat (by rw [List.getElem?_map, g1]; rfl)
abbrev slaw_places : Stmt := top 75
abbrev Nlaw_places : List Str := ["sheet_now"]
theorem sclaw_places : FnScope Nlaw_places ["sheet_now"] (defScope slaw_places) := ⟨rfl, rfl, rfl, by decide +kernel, rfl, by decide +kernel, by decide +kernel⟩
theorem ok_lplaces (F : Fun K "_law_places" "_law_places" slaw_places f fd) (B : Blt mg) : FnG P w K mg base 1 f fd ["sheet_now"] spPlaces := by
  refine fnG F sclaw_places (fun vs H Q E h => ?_) (fun cdv A fr s H vs Q E hr gd h => ?_)
  · obtain ⟨ds, n, _, rfl, _⟩ := h
    rfl
  · obtain ⟨ds, n, T, rfl, k⟩ := h
    refine ⟨_, (pss_one (ps_ret (pe_op op_add (pe_bm PySem.F.plainAttrs_list PySem.F.slot_list_index PySem.F.type_list_index mt_index (pe_lst (pa_cons pe_int (pa_cons pe_int (pa_cons pe_int pa_nil)))) (pa_cons (pe_callB call_len (by rfl) B.m_len (by decide +kernel) (pa_cons (pv 0) pa_nil)) pa_nil)) pe_int))), ?_⟩
    refine ⟨by show 3 ≤ sizeLine; decide, fun l hl => ⟨Or.inl ⟨rfl, _, SqL.of upd_same⟩, _, rfl, .str (tab ds), (tab ds).length, rfl, ⟨T.size, rfl⟩, ?_⟩⟩
    have fin : ∀ j : Nat, n = j + 1 → Q (.int ((j : Int) + 1)) (upd H l (.lst [.int 3, .int 9, .int 27])) := fun j e => by
      have e2 : ((j : Int) + 1) = (n : Int) := by omega
      rw [e2]
      exact k _ (Ex.new hl)
    rcases T.cases with ⟨e, q⟩ | ⟨e, q⟩ | ⟨e, q⟩
    · refine ⟨l, _, _, 0, .int 3, rfl, rfl, SqL.of upd_same, rfl, rfl, rfl, ?_, fun m z hm => absurd hm (Nat.not_lt_zero _), _, _, rfl, rfl, fin 0 e⟩
      rw [tab_len, q]; decide
    · refine ⟨l, _, _, 1, .int 9, rfl, rfl, SqL.of upd_same, rfl, rfl, rfl, ?_, fun m z hm hz => ?_, _, _, rfl, rfl, fin 1 e⟩
      · rw [tab_len, q]; decide
      · obtain rfl : m = 0 := by omega
        cases hz
        rw [tab_len, q]; decide
    · refine ⟨l, _, _, 2, .int 27, rfl, rfl, SqL.of upd_same, rfl, rfl, rfl, ?_, fun m z hm hz => ?_, _, _, rfl, rfl, fin 2 e⟩
      · rw [tab_len, q]; decide
      · have : m = 0 ∨ m = 1 := by omega
        rcases this with rfl | rfl
        · cases hz
          rw [tab_len, q]; decide
        · cases hz
          rw [tab_len, q]; decide
end
end Tv

namespace Tv
open PySem PySem.Spec PyProof.Rows L2 Evl
theorem makes_at {ds : List Nat} {rs : List (List Nat)} {m i : Nat} (h : i < m) : (makes ds rs m).getD i 0 = val ds (rs.map fun r => r.getD i 0) := by
  unfold makes
  rw [List.getD_eq_getElem?_getD, List.getElem?_map, List.getElem?_range h]
  rfl
/-- a row of values for m places, made from rows of m places -/
theorem makes_val {ds : List Nat} {rs : List (List Nat)} {m : Nat} {as : List Nat} (l : as.length = m) (d : ∀ a ∈ as, a < 3) : val (makes ds rs (3 ^ m)) as = val ds (rs.map fun r => val r as) := by
  show (makes ds rs (3 ^ m)).getD (num as) 0 = _
  rw [makes_at (num_lt m as l d)]
  rfl
end Tv

namespace Tv
open PySem PySem.Spec PyProof.Rows L2 Evl
section
variable {P : Program} {w : World} {K : PySem.W.Frag} {mg : Str → Option Value} {base : Heap} {f aL aW C : Addr} {fd : FuncData}
theorem ev_def2L {σ : L2.St} {H : Hp} {ta tb : TE} {sp : Sp} {v z : V} {xs : List V} (h1 : Ev ta σ H z) (h2 : EvL tb σ H xs)
    (hs : ∀ p H1, Ex H H1 → H1 p = some (.lst xs) → ∀ Q : VK, (∀ H2, Ex H1 H2 → Q v H2) → sp [z, .ref p] H1 Q E0) : Ev (tDef sp (tCons ta (tCons tb tNil))) σ H v :=
  fun H1 e Q q => h1 H1 e _ fun H2 e2 => h2 H2 (e.trans e2) _ fun p H3 _ e3 hp => hs p H3 ((e.trans e2).trans e3) hp Q fun H4 e4 => q H4 ((e2.trans e3).trans e4)
theorem textsV_len (F : List (List Nat)) : (textsV F).length = F.length := List.length_map ..
theorem textsV_at {F : List (List Nat)} {i : Nat} {z : V} (h : (textsV F)[i]? = some z) : ∃ r, F[i]? = some r ∧ z = .str (tab r) := by
  unfold textsV at h
  rw [List.getElem?_map] at h
  obtain ⟨r, hr, rfl⟩ := Option.map_eq_some_iff.mp h
  exact ⟨r, hr, rfl⟩
theorem tab_snoc (ds : List Nat) (d : Nat) : tab ds ++ ⟨#[48 + d]⟩ = tab (ds ++ [d]) := by
  unfold tab
  show (⟨_ ++ _⟩ : Str) = _
  simp
abbrev slaw_put : Stmt := top 76
abbrev Nlaw_put : List Str := ["sheet_now", "some", "found", "each", "other_sheet"]
theorem sclaw_put : FnScope Nlaw_put ["sheet_now", "some"] (defScope slaw_put) := ⟨rfl, rfl, rfl, by decide +kernel, rfl, by decide +kernel, by decide +kernel⟩
def spLPut : Sp := fun vs H Q _ => ∃ (ds : List Nat) (n m : Nat) (p : Addr) (rs : List (List Nat)), vs = [.str (tab ds), .ref p] ∧ IsTab ds n ∧ H p = some (.lst (textsV rs)) ∧ rs.length = n ∧ (∀ r ∈ rs, IsTab r m) ∧ Gives (.str (tab (makes ds rs (3 ^ m)))) H Q
theorem ok_lput (F : Fun K "_law_put" "_law_put" slaw_put f fd) (B : Blt mg) (D__law_places : DefG P w K mg base "_law_places" ["sheet_now"] 1 spPlaces) (D__law_at : DefG P w K mg base "_law_at" ["sheet_now", "some"] 1 spValueL)
    (D__law_tuples : DefG P w K mg base "_law_tuples" ["size"] 1 spAllArgs) : FnG P w K mg base 2 f fd ["sheet_now", "some"] spLPut := by
  refine fnG F sclaw_put (fun vs H Q E h => ?_) (fun cdv A fr s H vs Q E hr gd h => ?_)
  · obtain ⟨ds, n, m, p, rs, rfl, _⟩ := h
    rfl
  · obtain ⟨ds, n, m, p, rs, rfl, T, hp, rl, rT, k⟩ := h
    refine ⟨_, (pss_cons (ps_set (i := 2) sclaw_put.nd rfl (Or.inl rfl) pe_str)
  (pss_cons (ps_for PassesOwn.never rfl (pi_list (pe_def D__law_tuples (hr.mono (by decide)) gd rfl (pa_cons (pe_def D__law_places (hr.mono (by decide)) gd rfl (pa_cons (pe_ix ix_list (pv 1) pe_int (fun _ _ => rfl)) pa_nil)) pa_nil))) (pg_name (i := 3) sclaw_put.nd rfl (Or.inr rfl)) (pss_one (ps_set (i := 2) sclaw_put.nd rfl (Or.inl rfl) (pe_op op_add_str (pv 2) (pe_callTy call_str_int (by rfl) B.m_str (by decide +kernel) (pa_cons (pe_def D__law_at (hr.mono (by decide)) gd rfl (pa_cons (pv 0) (pa_cons (pe_lc (own := [("other_sheet", 4)]) (g := gName 4) rfl sclaw_put.nd (pi_list (pv 1)) (blkOk_by (own := [("other_sheet", 4)]) (N := Nlaw_put) (sc := defScope slaw_put) (by decide +kernel)) (fun _ _ _ _ _ => (pg_name (i := 4) sclaw_put.nd rfl (Or.inl rfl))) (fun _ _ _ _ _ => pts_nil) (fun _ _ _ _ _ => (pe_def D__law_at (hr.mono (by decide)) gd rfl (pa_cons (pv 4) (pa_cons (pv 3) pa_nil))))) pa_nil))) pa_nil))))))
  (pss_one (ps_ret (pv 2))))), ?_⟩
    have n1 := T.n1
    obtain ⟨r0, at0⟩ : ∃ r0, rs[0]? = some r0 := ⟨_, List.getElem?_eq_getElem (by omega : 0 < rs.length)⟩
    have T0 := rT r0 (List.mem_of_getElem? at0)
    have m3 := T0.n3
    refine q_asg (v := .str (tab [])) (ev_is ev_c (by decide +kernel)) fun H1 e1 => ?_
    have hp1 := e1 _ _ hp
    refine ⟨_, rfl, p, textsV rs, 0, .str (tab r0), rfl, rfl, SqL.of hp1, (by rw [show ((0 : Int)) = ((0 : Nat) : Int) from rfl]; exact atI_nat (by unfold textsV; rw [List.getElem?_map, at0]; rfl)), r0, m, T0, rfl, fun H2 e2 => ?_⟩
    refine ⟨m, Nat.le_succ_of_le m3, rfl, fun lt H5 xs hlt e5 hx R => ⟨lt, rfl, ⟨xs, SqL.of hx⟩, for_list (K := K) (a := lt) (xs := xs)
      (fun i σ H6 => ∃ w3 : Option V, σ = [some (.str (tab ds)), some (.ref p), some (.str (tab ((makes ds rs (3 ^ m)).take i))), w3, none] ∧ Ex H5 H6)
      ⟨_, rfl, Ex.refl _⟩ (fun i σ H6 _ ⟨_, _, e⟩ => SqL.of (e _ _ hx)) ?_ ?_⟩⟩
    · rintro i z σ H6 hi ⟨w3, rfl, e6⟩
      obtain ⟨r, at_r, a, rfl, ha⟩ := R.get hi
      have il := (List.getElem?_eq_some_iff.mp hi).1
      have xl : xs.length = (tups m).length := R.len
      have tl : (tups m).length = 3 ^ m := (tups_ok m m3).1
      have i3 : i < 3 ^ m := by omega
      obtain ⟨al, ad⟩ := tups_all m r (List.mem_of_getElem? at_r)
      have ni : num r = i := by
        have := num_tup m3 i3
        rw [tupI_of at_r] at this
        exact this
      have hp6 := e6 _ _ (e5 _ _ (e2 _ _ hp1))
      have ha6 := e6 _ _ ha
      have dv : val ds (rs.map fun t => val t r) < 3 := (T.at (by rw [List.length_map, rl]) (fun b hb => by
        obtain ⟨t, ht, rfl⟩ := List.mem_map.mp hb
        exact ((rT t ht).at al ad).2)).2
      have big : 3 ^ m ≤ 27 := Nat.le_trans (Nat.pow_le_pow_right (by decide) m3) (by decide)
      have ml : (makes ds rs (3 ^ m)).length = 3 ^ m := by unfold makes; rw [List.length_map, List.length_range]
      have step : tab ((makes ds rs (3 ^ m)).take i) ++ ⟨#[48 + val ds (rs.map fun t => val t r)]⟩ = tab ((makes ds rs (3 ^ m)).take (i + 1)) := by
        rw [tab_snoc, List.take_succ, List.getElem?_eq_getElem (by omega)]
        have e := makes_at (ds := ds) (rs := rs) i3
        rw [List.getD_eq_getElem?_getD, List.getElem?_eq_getElem (by omega)] at e
        have e2 : (rs.map fun t => val t r) = rs.map fun t => t.getD i 0 := by
          refine List.map_congr_left fun t _ => ?_
          show t.getD (num r) 0 = _
          rw [ni]
        rw [e2, ← e]
        rfl
      refine s_asg (v := .str (tab ((makes ds rs (3 ^ m)).take (i + 1)))) ?_ fun H7 e7 => ⟨_, rfl, e6.trans e7⟩
      rw [← step]
      refine ev_addS (ev_var rfl) (ev_strInt (ev_def2L (xs := iv (rs.map fun t => val t r)) (ev_var rfl) ?_ fun q H7 e7 hq Q q9 => ⟨ds, n, q, _, T, rfl, .inr hq, by rw [List.length_map, rl], fun b hb => by
        obtain ⟨t, ht, rfl⟩ := List.mem_map.mp hb
        exact ((rT t ht).at al ad).2, q9⟩) dv) (by rw [tab_len, List.length_take]; show _ + 1 ≤ sizeLine; exact Nat.le_trans (by omega : _ ≤ 28) (by decide))
      have e9 : iv (rs.map fun t => val t r) = given (textsV rs).length (fun _ => true) (fun j => V.int ((val (rs.getD j []) r : Nat) : Int)) := by
        rw [textsV_len, given_iv ([] : List Nat) rs (fun t => V.int ((val t r : Nat) : Int))]
        unfold iv
        rw [List.map_map]
        rfl
      rw [e9]
      refine el_lcL (a := p) (xs := textsV rs) (fun _ => true) _ (ev_var rfl) (SqL.of hp6) (by rw [textsV_len]; have := T.n3; omega) (fun y => rfl) (fun j z H7 e7 hz => et_yes) (fun j z H7 e7 hz _ => ?_)
      obtain ⟨t, ht, rfl⟩ := textsV_at hz
      have ej : rs.getD j [] = t := by rw [List.getD_eq_getElem?_getD, ht]; rfl
      rw [ej]
      exact ev_def (ea_cons (ev_var rfl) (ea_cons (ev_var rfl) ea_nil)) fun H8 e8 Q q => ⟨t, m, a, r, rT t (List.mem_of_getElem? ht), rfl, .inl (e8 _ _ (e7 _ _ ha6)), al, ad, q⟩
    · rintro σ H6 ⟨w3, rfl, e6⟩
      have xl : xs.length = (tups m).length := R.len
      have tl : (tups m).length = 3 ^ m := (tups_ok m m3).1
      have ml : (makes ds rs (3 ^ m)).length = 3 ^ m := by unfold makes; rw [List.length_map, List.length_range]
      refine s_ret (v := .str (tab (makes ds rs (3 ^ m)))) (ev_is (ev_var rfl) (by rw [List.take_of_length_le (by omega)])) fun H7 e7 => k H7 (((((e1.trans e2).trans e5).trans e6)).trans e7)
end
end Tv

namespace Tv
open PySem PySem.Spec PyProof.Rows L2 Evl
/-! ### steps told make what is found -/
def tabOf (L : List Nt) (x : Str) : Nt := (L.find? fun y => decide (y.nm = x)).getD ⟨x, [], 0⟩
def ranStep (L : List Nt) (F : List (List Nat)) (t : Str × List Nat) : List (List Nat) := F ++ [rowOf 3 (tabOf L t.1) F t.2]
def ranOf (L : List Nt) (T : List (Str × List Nat)) : List (List Nat) := T.foldl (ranStep L) [[0, 1, 2]]
def StepOk (L : List Nt) (n : Nat) (t : Str × List Nat) : Prop := ∃ x ∈ L, t.1 = x.nm ∧ t.2.length = x.n ∧ ∀ k ∈ t.2, k < n
theorem tabOf_in {L : List Nt} {x : Nt} (nd : (L.map (·.nm)).Nodup) (h : x ∈ L) : tabOf L x.nm = x := by
  unfold tabOf
  induction L with
  | nil => cases h
  | cons y L ih =>
    rw [List.map_cons, List.nodup_cons] at nd
    by_cases e : y.nm = x.nm
    · rw [List.find?_cons_of_pos (by simpa using e)]
      rcases List.mem_cons.mp h with rfl | h
      · rfl
      · exact absurd (e ▸ List.mem_map.mpr ⟨x, h, rfl⟩) nd.1
    · rw [List.find?_cons_of_neg (by simpa using e)]
      rcases List.mem_cons.mp h with rfl | h
      · exact absurd rfl e
      · exact ih nd.2 h
structure RanI (L : List Nt) (g : Grw) : Prop where
  ran : ranOf L g.T = g.F
  len : g.F.length = g.T.length + 1
  ok : ∀ i t, g.T[i]? = some t → StepOk L (i + 1) t
theorem RanI.step {L : List Nt} {g : Grw} (R : RanI L g) (nd : (L.map (·.nm)).Nodup) {x : Nt} (hx : x ∈ L) {ix : List Nat} (l : ix.length = x.n) (lt : ∀ k ∈ ix, k < g.F.length) : RanI L (stepIx 3 x g ix) := by
  unfold stepIx
  by_cases h : rowOf 3 x g.F ix ∈ g.F
  · rw [addRow_no h]
    exact R
  · rw [addRow_yes h]
    refine ⟨?_, by show (g.F ++ [_]).length = (g.T ++ [_]).length + 1; rw [List.length_append, List.length_append, R.len]; rfl, fun i t hi => ?_⟩
    · show (g.T ++ [(x.nm, ix)]).foldl (ranStep L) [[0, 1, 2]] = g.F ++ [rowOf 3 x g.F ix]
      rw [List.foldl_append]
      show ranStep L (ranOf L g.T) (x.nm, ix) = _
      rw [R.ran]
      unfold ranStep
      rw [tabOf_in nd hx]
    · have hi' : (g.T ++ [(x.nm, ix)])[i]? = some t := hi
      by_cases il : i < g.T.length
      · rw [List.getElem?_append_left il] at hi'
        exact R.ok i t hi'
      · rw [List.getElem?_append_right (by omega)] at hi'
        have i0 : i - g.T.length = 0 := by
          have := (List.getElem?_eq_some_iff.mp hi').1
          simp at this
          omega
        rw [i0] at hi'
        obtain rfl : t = (x.nm, ix) := (Option.some.inj hi').symm
        refine ⟨x, hx, rfl, l, fun k hk => ?_⟩
        have := lt k hk
        rw [R.len] at this
        omega
theorem ran_parts {a : Nat} {L : List Nt} (nd : (L.map (·.nm)).Nodup) {x : Nt} (xo : x.Ok) (hx : x ∈ L) : ∀ (I : List (List Nat)) {g : Grw}, (∀ ix ∈ I, ix ∈ newestN a x.n) → Goes 3 (a + 1) g → RanI L g → RanI L (I.foldl (stepIx 3 x) g)
  | [], _, _, _, R => R
  | ix :: I, g, h, G, R => by
    obtain ⟨l, lt⟩ := newestN_in (h ix List.mem_cons_self)
    have lt' : ∀ k ∈ ix, k < g.F.length := fun k hk => Nat.lt_of_lt_of_le (lt k hk) G.more
    exact ran_parts nd xo hx I (fun y hy => h y (List.mem_cons_of_mem _ hy)) (G.step xo l lt') (R.step nd hx l lt')
theorem ran_all {a : Nat} {L : List Nt} (nd : (L.map (·.nm)).Nodup) : ∀ (M : List Nt) {g : Grw}, (∀ x ∈ M, x.Ok ∧ x ∈ L) → Goes 3 (a + 1) g → RanI L g → RanI L (stepAll 3 M a g)
  | [], _, _, _, R => R
  | x :: M, g, h, G, R => ran_all nd M (fun y hy => h y (List.mem_cons_of_mem _ hy)) (goes_parts (h x List.mem_cons_self).1 _ (fun _ h => h) G) (ran_parts nd (h x List.mem_cons_self).1 (h x List.mem_cons_self).2 _ (fun _ h => h) G R)
theorem ran_from {most : Nat} {L : List Nt} (ok : ∀ x ∈ L, x.Ok) (nd : (L.map (·.nm)).Nodup) : ∀ (k a : Nat) {g : Grw}, Goes 3 0 g → RanI L g → RanI L (growFrom (stepAll 3 L) most k a g)
  | 0, _, _, _, R => R
  | k + 1, a, g, G, R => by
    unfold growFrom
    split
    · rename_i h
      have G1 : Goes 3 (a + 1) g := ⟨G.ok, h.1, G.told⟩
      exact ran_from ok nd k (a + 1) ((goes_all L ok G1).low (Nat.zero_le _)) (ran_all nd L (fun x hx => ⟨ok x hx, hx⟩) G1 R)
    · exact R
theorem one_ran {L : List Nt} (ok : Oks L) : RanI L (oneG L) :=
  ran_from ok.ok ok.apart _ _ ⟨plain_gok, Nat.zero_le _, Nat.zero_le _⟩ ⟨rfl, rfl, fun i t h => by simp at h⟩
theorem ran_cut {L : List Nt} : ∀ (T : List (Str × List Nat)) (k : Nat), ranOf L (T.take k) = (ranOf L T).take (k + 1) := by
  have len : ∀ (T : List (Str × List Nat)) (F : List (List Nat)), (T.foldl (ranStep L) F).length = F.length + T.length := by
    intro T
    induction T with
    | nil => exact fun F => rfl
    | cons t T ih =>
      intro F
      rw [List.foldl_cons, ih]
      unfold ranStep
      rw [List.length_append, List.length_cons]
      show F.length + 1 + T.length = F.length + (T.length + 1)
      omega
  have pre : ∀ (T : List (Str × List Nat)) (F : List (List Nat)), (T.foldl (ranStep L) F).take F.length = F := by
    intro T
    induction T with
    | nil => exact fun F => List.take_length
    | cons t T ih =>
      intro F
      rw [List.foldl_cons]
      have h := ih (ranStep L F t)
      have e : (ranStep L F t).length = F.length + 1 := by unfold ranStep; rw [List.length_append]; rfl
      rw [e] at h
      have := congrArg (List.take F.length) h
      rw [List.take_take, Nat.min_eq_left (by omega)] at this
      rw [this]
      unfold ranStep
      rw [List.take_append_of_le_length (Nat.le_refl _), List.take_length]
  intro T k
  by_cases hk : k ≤ T.length
  · have e : ranOf L T = (T.drop k).foldl (ranStep L) (ranOf L (T.take k)) := by
      unfold ranOf
      rw [← List.foldl_append, List.take_append_drop]
    have l : (ranOf L (T.take k)).length = k + 1 := by
      unfold ranOf
      rw [len, List.length_take]
      show 1 + _ = _
      omega
    rw [e, ← l, pre]
  · have l : (ranOf L T).length = T.length + 1 := by
      unfold ranOf
      rw [len]
      show 1 + _ = _
      omega
    rw [List.take_of_length_le (by omega), List.take_of_length_le (by omega)]
theorem given_filterW {α : Type} (d : α) (F : List α) (p : α → Bool) (g : α → V) : given F.length (fun i => p (F.getD i d)) (fun i => g (F.getD i d)) = (F.filter p).map g := by
  have e : F = (List.range F.length).map fun i => F.getD i d := by
    refine List.ext_getElem (by simp) fun i h1 h2 => ?_
    rw [List.getElem_map, List.getElem_range, List.getD_eq_getElem?_getD, List.getElem?_eq_getElem h1]
    rfl
  unfold given
  conv => rhs; rw [e]
  rw [List.filter_map, List.map_map]
  rfl
section
variable {P : Program} {w : World} {K : PySem.W.Frag} {mg : Str → Option Value} {base : Heap} {f aL aW C : Addr} {fd : FuncData}
abbrev sis_of_one_place : Stmt := top 18
abbrev Nis_of_one_place : List Str := ["x"]
theorem scis_of_one_place : FnScope Nis_of_one_place ["x"] (defScope sis_of_one_place) := ⟨rfl, rfl, rfl, by decide +kernel, rfl, by decide +kernel, by decide +kernel⟩
def spIsOne : Sp := fun vs H Q _ => ∃ (ds : List Nat) (n : Nat), IsTab ds n ∧ vs = [.str (tab ds)] ∧ Gives (.bl (decide (n = 1))) H Q
theorem ok_is_one (F : Fun K "is_of_one_place" "is_of_one_place" sis_of_one_place f fd) (B : Blt mg) (LL : Lens K mg aL) (D_is_table : DefG P w K mg base "is_table" ["x"] 1 spIsTable) : FnG P w K mg base 2 f fd ["x"] spIsOne := by
  refine fnG F scis_of_one_place (fun vs H Q E h => ?_) (fun cdv A fr s H vs Q E hr gd h => ?_)
  · obtain ⟨ds, n, _, rfl, _⟩ := h
    rfl
  · obtain ⟨ds, n, T, rfl, k⟩ := h
    refine ⟨_, (pss_one (ps_ret (pe_and (pe_def D_is_table (hr.mono (by decide)) gd rfl (pa_cons (pv 0) pa_nil)) (pe_one (pe_cmpR op_eq (pe_callB call_len (by rfl) B.m_len (by decide +kernel) (pa_cons (pv 0) pa_nil)) (pe_ix ix_tup (pe_glob (v := .ref aL) rfl LL.mL rfl) pe_int (fun _ _ => rfl)) (nomark _)))))), ?_⟩
    refine s_ret (v := .bl (decide (n = 1))) (ev_is (ev_andV (a := true) (ev_def (ea_cons (ev_var rfl) ea_nil) fun H1 _ Q q => ⟨ds, n, T, rfl, q⟩) fun _ => ev_op (ev_str_len (ev_var rfl) T.size) (ev_op ev_c ev_c (rv_ixT (LL.sL _) rfl)) (rv_eq rfl)) ?_) k
    rw [Bool.true_and, tab_len, T.len]
    congr 1
    refine decide_eq_decide.mpr ⟨fun h => ?_, fun h => by rw [h]; rfl⟩
    have h' : ((3 ^ n : Nat) : Int) = 3 := V.int.inj h
    have := T.n1
    have := T.n3
    have : n = 1 ∨ n = 2 ∨ n = 3 := by omega
    rcases this with rfl | rfl | rfl
    · rfl
    · exact absurd h' (by decide)
    · exact absurd h' (by decide)
theorem paired_take {α β : Type} {R : α → β → Prop} : ∀ {xs : List α} {ys : List β} (k : Nat), Paired R xs ys → Paired R (xs.take k) (ys.take k)
  | _, _, 0, _ => by rw [List.take_zero, List.take_zero]; exact .nil
  | _, _, k + 1, .nil => .nil
  | _, _, k + 1, .cons h t => by
    rw [List.take_succ_cons, List.take_succ_cons]
    exact .cons h (paired_take k t)
theorem ev_indexW {σ : L2.St} {H : Hp} {to te : TE} {p : Addr} {ys : List V} {j : Nat} {y z : V} (h : Ev to σ H (.ref p)) (hp : H p = some (.lst ys)) (hy : Ev te σ H y) (fy : flatV y = true) (fs : ys.all flatV = true) (at_j : ys[j]? = some z) (eq : eqV z y = true)
    (no : ∀ (m : Nat) (z' : V), m < j → ys[m]? = some z' → eqV z' y = false) : Ev (tBM K "list" (rIndex K) to (tCons te tNil)) σ H (.int (j : Nat)) := fun H1 e Q q => h H1 e _ fun H2 e2 =>
  ⟨Or.inl ⟨rfl, _, SqL.of (e2 _ _ (e _ _ hp))⟩, hy H2 (e.trans e2) _ fun H3 e3 => ⟨p, ys, y, j, z, rfl, rfl, SqL.of (e3 _ _ (e2 _ _ (e _ _ hp))), fy, fs, at_j, eq, no, q H3 (e2.trans e3)⟩⟩
theorem textsV_is (F : List (List Nat)) : textsV F = (F.map tab).map V.str := by
  unfold textsV
  rw [List.map_map]
  rfl
theorem inV_texts (r : List Nat) (F : List (List Nat)) : inV (.str (tab r)) (textsV F) = decide (r ∈ F) := by
  rw [textsV_is, inV_strs]
  refine decide_eq_decide.mpr ⟨fun h => ?_, fun h => List.mem_map.mpr ⟨r, h, rfl⟩⟩
  obtain ⟨q, hq, e⟩ := List.mem_map.mp h
  rw [← tab_inj e]
  exact hq
theorem textsV_flat (F : List (List Nat)) : (textsV F).all flatV = true := by rw [textsV_is]; exact strs_flat _
abbrev ssteps : Stmt := top 61
abbrev Nsteps : List Str := ["box", "table", "found", "told"]
theorem scsteps : FnScope Nsteps ["box", "table"] (defScope ssteps) := ⟨rfl, rfl, rfl, by decide +kernel, rfl, by decide +kernel, by decide +kernel⟩
def spSteps (C : Addr) : Sp := fun vs H Q _ => ∃ (b : Addr) (L : List Nt) (r : List Nat), vs = [.ref b, .str (tab r)] ∧ BoxAt C H b L ∧ IsTab r 1 ∧ (r ∉ (oneG L).F → Gives .non H Q) ∧
  ∀ k, (oneG L).F[k]? = some r → ∀ p H' zs, H p = none → Ex H H' → H' p = some (.tup zs) → Tolds H' zs ((oneG L).T.take k) → Q (.ref p) H'
theorem ok_steps (F : Fun K "steps" "steps" ssteps f fd) (B : Blt mg) (B3 : Blt3 mg) (D_must_be_box : DefG P w K mg base "must_be_box" ["x"] 1 (spMustBox C)) (D_is_of_one_place : DefG P w K mg base "is_of_one_place" ["x"] 2 spIsOne)
    (D_one_place_steps : DefG P w K mg base "one_place_steps" ["box"] 6 (spOneSteps C)) : FnG P w K mg base 7 f fd ["box", "table"] (spSteps C) := by
  refine fnG F scsteps (fun vs H Q E h => ?_) (fun cdv A fr s H vs Q E hr gd h => ?_)
  · obtain ⟨b, L, r, rfl, _⟩ := h
    rfl
  · obtain ⟨b, L, r, rfl, BA, T, k0, k⟩ := h
    refine ⟨_, (pss_cons (ps_expr (pe_def D_must_be_box (hr.mono (by decide)) gd rfl (pa_cons (pv 0) pa_nil)))
  (pss_cons (ps_if (pt_not (pt_val (pe_def D_is_of_one_place (hr.mono (by decide)) gd rfl (pa_cons (pv 1) pa_nil)))) (pss_one ps_never) pss_nil)
  (pss_cons (ps_asg (pe_def D_one_place_steps (hr.mono (by decide)) gd rfl (pa_cons (pv 0) pa_nil)) (pg_tup rfl (pgs_cons (pg_name (i := 2) scsteps.nd rfl (Or.inl rfl)) (pgs_cons (pg_name (i := 3) scsteps.nd rfl (Or.inl rfl)) pgs_nil))))
  (pss_cons (ps_if (pt_cmpR op_notIn_seq (pv 1) (pv 2) (by rfl)) (pss_one (ps_ret pe_non)) pss_nil)
  (pss_one (ps_ret (pe_callTy call_tuple_of (by rfl) B.m_tuple (by decide +kernel) (pa_cons (pe_slice sl_list (pv 3) po_none (po_some (pe_bm PySem.F.plainAttrs_list PySem.F.slot_list_index PySem.F.type_list_index mt_index (pv 2) (pa_cons (pv 1) pa_nil)))) pa_nil)))))))), ?_⟩
    refine q_drop (ev_def (ea_cons (ev_var rfl) ea_nil) fun H1 e1 Q q => ⟨b, L, rfl, BA.mono e1, q⟩) fun H0 e0 => ?_
    refine q_pass (et_is (et_not (et_B (ev_def (ea_cons (ev_var rfl) ea_nil) fun H1 _ Q q => ⟨r, 1, T, rfl, q⟩))) rfl) fun H1 e1 => ?_
    have e01 := e0.trans e1
    refine ⟨_, rfl, b, L, rfl, BA.mono e01, fun p pf pt H2 zs hp hf ht e2 h2 hf2 ht2 S => ⟨p, _, rfl, SqT.of h2, rfl, _, _, rfl, ⟨_, _, rfl, rfl, ?_⟩⟩⟩
    have e02 := e01.trans e2
    dsimp only
    have nd := (goes_one BA.oks).ok.nd
    refine q_when (b := !decide (r ∈ (oneG L).F)) (et_is (et_test (ev_op (ev_var rfl) (ev_var rfl) (rv_niL (SqL.of hf2) rfl (textsV_flat _)))) (by rw [inV_texts])) (fun c H3 e3 => ?_) (fun c H3 e3 => ?_)
    · have nr : r ∉ (oneG L).F := fun h => by rw [decide_eq_true h] at c; cases c
      exact s_ret ev_c fun H4 e4 => k0 nr H4 ((e02.trans e3).trans e4)
    · have hr : r ∈ (oneG L).F := by
        cases h : decide (r ∈ (oneG L).F) with
        | true => exact of_decide_eq_true h
        | false => rw [h] at c; cases c
      obtain ⟨j, hj⟩ := List.mem_iff_getElem?.mp hr
      refine s_retU (xs := zs.take j) ?_ fun q H4 hq e4 h4 => k j hj q H4 (zs.take j) (fresh_back (e02.trans e3) hq) ((e02.trans e3).trans e4) h4 (paired_take j (Tolds.mono (e3.trans e4) S))
      rw [← cut_take]
      refine eu_tupleN (el_sl (ev_var rfl) eo_none (eo_some (ev_indexW (j := j) (z := .str (tab r)) (ev_var rfl) (e3 _ _ hf2) (ev_var rfl) rfl (textsV_flat _) (by unfold textsV; rw [List.getElem?_map, hj]; rfl) (by show (tab r == tab r) = true; exact beq_self_eq_true _) fun m z' hm hz => ?_)) (SqL.of (e3 _ _ ht2)))
      unfold textsV at hz
      rw [List.getElem?_map] at hz
      obtain ⟨r', hr', rfl⟩ := Option.map_eq_some_iff.mp hz
      show (tab r' == tab r) = false
      refine beq_eq_false_iff_ne.mpr fun e => ?_
      obtain rfl := tab_inj e
      obtain ⟨la, ea⟩ := List.getElem?_eq_some_iff.mp hr'
      obtain ⟨lb, eb⟩ := List.getElem?_eq_some_iff.mp hj
      exact (List.pairwise_iff_getElem.mp nd) m j la lb hm (by rw [ea, eb])
def ontoP (x : Nt) : Bool := ontoB x.ds && decide ((1 : Int) < ((countV x.ds x.n).length : Nat))
def ontoN (L : List Nt) : List V := (L.filter ontoP).map fun x => V.str x.nm
abbrev sonto_names : Stmt := top 65
abbrev Nonto_names : List Str := ["box", "name", "table"]
theorem sconto_names : FnScope Nonto_names ["box"] (defScope sonto_names) := ⟨rfl, rfl, rfl, by decide +kernel, rfl, by decide +kernel, by decide +kernel⟩
def spOntoN (C : Addr) : Sp := fun vs H Q _ => ∃ (b : Addr) (L : List Nt), vs = [.ref b] ∧ BoxAt C H b L ∧ GivesT (ontoN L) H Q
theorem ok_onto_names (F : Fun K "onto_names" "onto_names" sonto_names f fd) (B : Blt mg) (B3 : Blt3 mg) (BC : BoxC K mg C) (D_must_be_box : DefG P w K mg base "must_be_box" ["x"] 1 (spMustBox C)) (D_names : PropG P w K mg base C "names" 2 (spGet C namesV))
    (D_tables : PropG P w K mg base C "tables" 1 (spGet C tablesV)) (D_is_onto : DefG P w K mg base "is_onto" ["table"] 3 spOnto) (D_counting : DefG P w K mg base "counting" ["table"] 4 spCounting) : FnG P w K mg base 5 f fd ["box"] (spOntoN C) := by
  refine fnG F sconto_names (fun vs H Q E h => ?_) (fun cdv A fr s H vs Q E hr gd h => ?_)
  · obtain ⟨b, L, rfl, _⟩ := h
    rfl
  · obtain ⟨b, L, rfl, BA, k⟩ := h
    refine ⟨_, (pss_cons (ps_expr (pe_def D_must_be_box (hr.mono (by decide)) gd rfl (pa_cons (pv 0) pa_nil)))
  (pss_one (ps_ret (pe_callTy call_tuple_of (by rfl) B.m_tuple (by decide +kernel) (pa_cons (pe_lc (own := [("name", 1), ("table", 2)]) (g := gTup K 2 (gCons (gName 1) (gCons (gName 2) gNil))) rfl sconto_names.nd (pi_zipTT rfl B3.m_zip (pa_cons (pe_propX D_names BC.cl (hr.mono (by decide)) gd (pv 0)) (pa_cons (pe_propX D_tables BC.cl (hr.mono (by decide)) gd (pv 0)) pa_nil))) (blkOk_by (own := [("name", 1), ("table", 2)]) (N := Nonto_names) (sc := defScope sonto_names) (by decide +kernel)) (fun _ _ _ _ _ => (pg_tup rfl (pgs_cons (pg_name (i := 1) sconto_names.nd rfl (Or.inl rfl)) (pgs_cons (pg_name (i := 2) sconto_names.nd rfl (Or.inl rfl)) pgs_nil)))) (fun _ _ _ _ _ => (pts_one (PW.pt (pw_and (pt_val (pe_def D_is_onto (hr.mono (by decide)) gd rfl (pa_cons (pv 2) pa_nil))) (pw_and1 (pt_cmpR op_gt (pe_callB (show CallR _ _ (fun xs H Q => ∃ x n, xs = [x] ∧ LenV K x H n ∧ Q (.int (n : Nat)) H) from call_len) (by rfl) B.m_len (by decide +kernel) (pa_cons (pe_def D_counting (hr.mono (by decide)) gd rfl (pa_cons (pv 2) pa_nil)) pa_nil)) pe_int (nomark _))))))) (fun _ _ _ _ _ => (pv 1))) pa_nil))))), ?_⟩
    refine q_drop (ev_def (ea_cons (ev_var rfl) ea_nil) fun H1 e1 Q q => ⟨b, L, rfl, BA.mono e1, q⟩) fun H0 e0 => ?_
    refine s_retU (xs := ontoN L) (eu_tupleN (fun H1 e1 Q q => ?_)) fun p H1 hp e1 h1 => k p H1 (fresh_back e0 hp) (e0.trans e1) h1
    have B1 := BA.mono (e0.trans e1)
    refine eu_get (ev_var rfl) B1 H1 (Ex.refl _) _ fun pn H5 hn e5 h5 => ?_
    refine eu_get (ev_var rfl) (B1.mono e5) H5 (Ex.refl _) _ fun pb H6 hb e6 h6 => ?_
    have h6n := e6 _ _ h5
    have nl : (namesV L).length = L.length := List.length_map ..
    have gl : given L.length (fun i => ontoP (L.getD i default)) (fun i => V.str (L.getD i default).nm) = ontoN L := given_filterW default L ontoP fun x => V.str x.nm
    refine ⟨pn, pb, namesV L, tablesV L, rfl, SqT.of h6n, SqT.of h6, fun pp hp => lc_zipTT (K := K) (by rw [nl, tablesV_len]) (Cw H6 (fun i => ontoP (L.getD i default)) (fun i => V.str (L.getD i default).nm) pp) ⟨hp, Ex.new hp, upd_same⟩
      (fun i H7 pc => ⟨SqT.of (pc.2.1 _ _ h6n), SqT.of (pc.2.1 _ _ h6)⟩) ?_ ?_⟩
    · rintro i x y T H7 hx hy ⟨p1, p2, p3⟩ hT
      obtain ⟨z, hz, rfl⟩ := tablesV_at hy
      have ex : x = .str z.nm := by
        unfold namesV at hx
        rw [List.getElem?_map, hz] at hx
        exact (Option.some.inj hx).symm
      subst ex
      have zo := BA.oks.ok z (List.mem_of_getElem? hz)
      have eT := Ex.new (o := .tup [V.str z.nm, V.str (tab z.ds)]) hT
      have ed : L.getD i default = z := ntD_at hz
      refine ⟨T, _, rfl, SqT.of upd_same, rfl, _, _, rfl, ⟨_, _, rfl, rfl, rfl, ?_⟩⟩
      refine cw_turn (i := i) ⟨p1, p2.trans eT, eT _ _ p3⟩ (by have := (List.getElem?_eq_some_iff.mp hz).1; have := BA.oks.few; omega) ?_ (fun _ => by rw [ed]; exact ev_var rfl)
      rw [ed]
      exact et_and (et_B (ev_def (ea_cons (ev_var rfl) ea_nil) fun H8 _ Q q => ⟨z.ds, z.n, zo.tab, rfl, q⟩)) fun _ => et_test (ev_op (ev_lenU (xs := countV z.ds z.n) (eu_def (ea_cons (ev_var rfl) ea_nil) fun H8 _ Q q => ⟨z.ds, z.n, zo.tab, rfl, q⟩)) ev_c rv_I0)
    · rintro H7 ⟨p1, p2, p3⟩
      rw [nl, gl] at p3
      exact q pp H7 (fresh_back (e5.trans e6) p1) ((e5.trans e6).trans p2) p3
end
end Tv

namespace Tv
open PySem PySem.Spec PyProof.Rows L2 Evl
/-! ### a box's own words -/
def rowsT (L : List Nt) : List Str := L.map (·.row)
theorem rowsT_V (L : List Nt) : (rowsT L).map V.str = rowsV L := by
  unfold rowsT rowsV
  rw [List.map_map]
  rfl
def reprT (L : List Nt) : Str := Str.ofString "Box of " ++ (toString (L.length : Int) : Str) ++ Str.ofString " tables"
/-- what is no box, at the class -/
structure NotC (K : PySem.W.Frag) (C : Addr) : Prop where
  non : PySem.W.kitOne K (.type "NoneType") (.ref C) = some false
  str : PySem.W.kitOne K (.type "str") (.ref C) = some false
  int : PySem.W.kitOne K (.type "int") (.ref C) = some false
  tup : PySem.W.kitOne K (.type "tuple") (.ref C) = some false
  lst : PySem.W.kitOne K (.type "list") (.ref C) = some false
  ne : PySem.W.findIn K (.ref C) (Str.ofString "__ne__") = some (some (.builtin "object.__ne__"))
theorem kit_no {K : PySem.W.Frag} {C : Addr} {T : String} {l : List Value} (c : PySem.W.isClsIn K C = true) (ty : PySem.W.typeIn K (.ref C) = some (.type "type")) (e : fastBuiltinMro T = some l) (n : l.contains (.ref C) = false) : PySem.W.kitOne K (.type T) (.ref C) = some false := by
  have q : PySem.W.subIn K (.type T) (.ref C) = some false := by
    show (fastBuiltinMro T).map (·.contains (.ref C)) = some false
    rw [e]
    exact congrArg some n
  have c' : (PySem.W.clsIn K C).isSome = true := c
  unfold PySem.W.kitOne
  rw [if_neg (by simp)]
  show (if ((PySem.W.clsIn K C).isSome && PySem.W.typeIn K (.ref C) == some (.type "type")) = true then PySem.W.subIn K (.type T) (.ref C) else none) = some false
  rw [c', ty]
  simpa using q
theorem notC_of {K : PySem.W.Frag} {C : Addr} (c : PySem.W.isClsIn K C = true) (ty : PySem.W.typeIn K (.ref C) = some (.type "type")) (ne : PySem.W.findIn K (.ref C) (Str.ofString "__ne__") = some (some (.builtin "object.__ne__"))) : NotC K C :=
  ⟨kit_no c ty (l := [.type "NoneType", .type "object"]) (by decide +kernel) (by simp), kit_no c ty (l := [.type "str", .type "object"]) (by decide +kernel) (by simp), kit_no c ty (l := [.type "int", .type "object"]) (by decide +kernel) (by simp),
    kit_no c ty (l := [.type "tuple", .type "object"]) (by decide +kernel) (by simp), kit_no c ty (l := [.type "list", .type "object"]) (by decide +kernel) (by simp), ne⟩
theorem ev_joinPT {K : PySem.W.Frag} {σ : L2.St} {H : Hp} {te to : TE} {a : Str} {p : Addr} {ys : List Str} (h1 : Ev to σ H (.str a)) (h2 : Ev te σ H (.ref p)) (hp : H p = some (.tup (ys.map V.str))) (z : (ys.map (·.length)).sum + ys.length * a.length ≤ 16777216) :
    Ev (tM1 (rJoin K) to te) σ H (.str (Txt.join a ys)) := fun H1 e Q q => h1 H1 e _ fun H2 e2 => ⟨⟨_, rfl⟩, h2 H2 (e.trans e2) _ fun H3 e3 => ⟨a, p, ys, rfl, rfl, Or.inr (st_of (e3 _ _ (e2 _ _ (e _ _ hp)))), z, q H3 (e2.trans e3)⟩⟩
theorem ev_fmtI {σ : L2.St} {H : Hp} {te : TE} {i : Int} (h : Ev te σ H (.int i)) (z : i.natAbs.log2 < 1920) : Ev (tFmt te) σ H (.str (toString i)) := fun H1 e Q q => h H1 e _ fun H2 e2 => Or.inr ⟨i, rfl, z, q H2 e2⟩
theorem ev_js3 {σ : L2.St} {H : Hp} {t1 t2 t3 : TE} {x1 x2 x3 : Str} (h1 : Ev t1 σ H (.str x1)) (h2 : Ev t2 σ H (.str x2)) (h3 : Ev t3 σ H (.str x3)) (z : (Str.empty ++ x1 ++ x2 ++ x3).length ≤ sizeLine) :
    Ev (fun σ H Q => tJs [t1, t2, t3] Str.empty σ H fun out H1 => Q (.str out) H1) σ H (.str (Str.empty ++ x1 ++ x2 ++ x3)) := fun H1 e Q q => h1 H1 e _ fun H2 e2 => ⟨x1, rfl, by
      rw [strs_len, strs_len] at z
      omega, h2 H2 (e.trans e2) _ fun H3 e3 => ⟨x2, rfl, by
      rw [strs_len] at z
      omega, h3 H3 ((e.trans e2).trans e3) _ fun H4 e4 => ⟨x3, rfl, z, q H4 ((e2.trans e3).trans e4)⟩⟩⟩
theorem s_retF {K : PySem.W.Frag} {σ : L2.St} {H : Hp} {te : TE} {D : Ends} {xs : List V} (h : EvL te σ H xs) (k : ∀ (p : Addr) (o : Obj) (H1 : Hp), H p = none → Ex H H1 → o.cls = .type "tuple" → o.dict = none → H1 p = some (.frz o (.tup xs)) → D.rt (.ref p) H1) :
    tRet (tCB (rTupF K) (tCons te tNil)) D σ H := h H (Ex.refl H) _ fun pl H1 hpl e1 h1 => ⟨pl, xs, rfl, SqL.of h1, fun l o hl c1 c2 => k l o _ (fresh_back e1 hl) (e1.trans (Ex.new hl)) c1 c2 upd_same⟩
theorem ev_lenT8 {K : PySem.W.Frag} {σ : L2.St} {H : Hp} {te : TE} {p : Addr} {xs : List V} (h : Ev te σ H (.ref p)) (hx : SqT K H p xs) :
    Ev (tCB (fun xs H Q => ∃ x n, xs = [x] ∧ LenV K x H n ∧ Q (.int (n : Nat)) H) (tCons te tNil)) σ H (.int (xs.length : Nat)) :=
  fun H1 e Q q => h H1 e _ fun H2 e2 => ⟨.ref p, xs.length, rfl, Or.inr ⟨xs, ex_t (e.trans e2) hx, rfl⟩, q H2 e2⟩
theorem row_lay {x : Nt} (h : x.Ok) : PyData.canLay0 (.str x.row) = true := by
  show PySem.PyData.strOk x.row = true
  unfold PySem.PyData.strOk
  rw [← Array.all_toList, List.all_eq_true]
  intro c hc
  have e : x.row.cps.toList = x.nm.cps.toList ++ [32] ++ (tab x.ds).cps.toList := by
    show (x.nm.cps ++ (Str.ofString " ").cps ++ (tab x.ds).cps).toList = _
    rw [Array.toList_append, Array.toList_append]
    rfl
  rw [e] at hc
  refine decide_eq_true ?_
  rcases List.mem_append.mp hc with q | q
  · rcases List.mem_append.mp q with q | q
    · have := (h.name.lets c q).2
      omega
    · rw [List.mem_singleton.mp q]
      decide
  · rw [tab_cps] at q
    obtain ⟨d, hd, rfl⟩ := List.mem_map.mp q
    have := h.tab.dig d hd
    omega
theorem rows_shaped8 {L : List Nt} (ok : Oks L) : SeqAt.shaped (.tuple (dT (rowsT L))) = true := (dT_shaped fun s hs => by
  obtain ⟨x, hx, rfl⟩ := List.mem_map.mp hs
  exact row_lay (ok.ok x hx)).2
section
variable {P : Program} {w : World} {K : PySem.W.Frag} {mg : Str → Option Value} {base : Heap} {f aL aW C : Addr} {fd : FuncData}
abbrev sBox_text : Stmt := inClass (top 40) 3
abbrev NBox_text : List Str := ["self"]
theorem scBox_text : FnScope NBox_text ["self"] (defScope sBox_text) := ⟨rfl, rfl, rfl, by decide +kernel, rfl, by decide +kernel, by decide +kernel⟩
def spTextG (C : Addr) : Sp := fun vs H Q _ => ∃ (a : Addr) (L : List Nt), vs = [.ref a] ∧ BoxAt C H a L ∧ Gives (.str (textOf L)) H Q
theorem ok_text (F : Fun K "text" "Box.text" sBox_text f fd) (BC : BoxC K mg C) : FnG P w K mg base 1 f fd ["self"] (spTextG C) := by
  refine fnG F scBox_text (fun vs H Q E h => ?_) (fun cdv A fr s H vs Q E hr gd h => ?_)
  · obtain ⟨a, L, rfl, _⟩ := h
    rfl
  · obtain ⟨a, L, rfl, BA, k⟩ := h
    obtain ⟨dx, p, ha, hp⟩ := BA.ob
    refine ⟨_, (pss_one (ps_ret (show PE _ _ (tM1 (rJoin K) _ _) from pe_join pe_str (pe_fld (pv 0) rfl)))), ?_⟩
    have s := rows_sum BA.oks.ok
    have f := BA.oks.few
    have e1 : (Str.ofString "\n").length = 1 := rfl
    exact s_ret (ev_joinPT (a := Str.ofString "\n") (ys := rowsT L) ev_c (ev_fld (ev_var rfl) ha BC.cl BC.nR rfl) (by rw [rowsT_V]; exact hp) (by
      unfold rowsT
      rw [List.length_map, e1]
      omega)) k
def spNamesF (C : Addr) : Sp := fun vs H Q _ => ∃ (a : Addr) (L : List Nt), vs = [.ref a] ∧ BoxAt C H a L ∧ ∀ (p : Addr) (o : Obj) (H' : Hp), H p = none → Ex H H' → o.cls = .type "tuple" → o.dict = none → H' p = some (.frz o (.tup (namesV L))) → Q (.ref p) H'
theorem ev_inF {neg : Bool} {σ : L2.St} {H : Hp} {ta te : TE} {x : V} {a : Addr} {L : List Nt} (h1 : Ev ta σ H x) (h : Ev te σ H (.ref a)) (BA : BoxAt C H a L) (hx : flatV x = true) (hf : (namesV L).all flatV = true) :
    Ev (tOp (rIn K neg) ta (tPropG C (spNamesF C) te)) σ H (.bl (if neg then !inV x (namesV L) else inV x (namesV L))) := fun H1 e Q q => h1 H1 e _ fun H2 e2 => h H2 (e.trans e2) _ fun H3 e3 => by
  have B3 := BA.mono ((e.trans e2).trans e3)
  obtain ⟨dx, p, ha, hp⟩ := B3.ob
  exact ⟨a, dx, _, rfl, ha, a, L, rfl, B3, fun p o H4 hp e4 c1 c2 h4 => ⟨p, namesV L, rfl, Or.inr (Or.inl (Or.inr ⟨o, h4⟩)), hx, hf, q H4 ((e2.trans e3).trans e4)⟩⟩
theorem ok_namesF (F : Fun K "names" "Box.names" sBox_names f fd) (B : Blt mg) (BC : BoxC K mg C) (D_name_of : DefG P w K mg base "name_of" ["row"] 1 spNameOf) : FnG P w K mg base 2 f fd ["self"] (spNamesF C) := by
  refine fnG F scBox_names (fun vs H Q E h => ?_) (fun cdv A fr s H vs Q E hr gd h => ?_)
  · obtain ⟨a, L, rfl, _⟩ := h
    rfl
  · obtain ⟨a, L, rfl, BA, k⟩ := h
    obtain ⟨dx, p, ha, hp⟩ := BA.ob
    refine ⟨_, (pss_one (ps_ret (pe_callTy call_tupF (by rfl) B.m_tuple (by decide +kernel) (pa_cons (pe_lc (own := [("row", 1)]) (g := gName 1) rfl scBox_names.nd (pi_tup (pe_fld (pv 0) rfl)) (blkOk_by (own := [("row", 1)]) (N := NBox_names) (sc := defScope sBox_names) (by decide +kernel)) (fun _ _ _ _ _ => (pg_name (i := 1) scBox_names.nd rfl (Or.inl rfl))) (fun _ _ _ _ _ => pts_nil) (fun _ _ _ _ _ => (pe_def D_name_of (hr.mono (by decide)) gd rfl (pa_cons (pv 1) pa_nil)))) pa_nil)))), ?_⟩
    have few := BA.oks.few
    have fin : namesV L = given (rowsV L).length (fun _ => true) (fun i => nth (namesV L) i) := by
      have := given_all (namesV L) id
      rw [List.map_id] at this
      rw [show (rowsV L).length = (namesV L).length by unfold rowsV namesV; rw [List.length_map, List.length_map]]
      exact this.symm
    have lst : EvL (tLc (iTup K (tFld K (tVar 0) (Str.ofString "_rows"))) (gName 1) tYes (tDef spNameOf (tCons (tVar 1) tNil)) [1]) [some (.ref a), none] H (namesV L) := by
      rw [fin]
      refine el_lcT (a := p) (xs := rowsV L) (fun _ => true) _ (ev_fld (ev_var rfl) ha BC.cl BC.nR rfl) (st_of hp) (by unfold rowsV; rw [List.length_map]; omega) (fun y => rfl) (fun i x H1 e hx => et_yes) (fun i z H1 e hz _ => ?_)
      obtain ⟨x, hx, rfl⟩ := rowsV_at hz
      have en : nth (namesV L) i = .str x.nm := nth_of (by unfold namesV; rw [List.getElem?_map, hx]; rfl)
      rw [en]
      exact ev_def (ea_cons (ev_var rfl) ea_nil) fun H2 _ Q q => ⟨x, BA.oks.ok x (List.mem_of_getElem? hx), rfl, q⟩
    exact s_retF lst fun p o H1 hp e1 c1 c2 h1 => k p o H1 hp e1 c1 c2 h1
abbrev sBox__index_of : Stmt := inClass (top 40) 12
abbrev NBox__index_of : List Str := ["self", "name"]
theorem scBox__index_of : FnScope NBox__index_of ["self", "name"] (defScope sBox__index_of) := ⟨rfl, rfl, rfl, by decide +kernel, rfl, by decide +kernel, by decide +kernel⟩
def spIndexOf (C : Addr) : Sp := fun vs H Q _ => ∃ (a : Addr) (L : List Nt) (i : Nat) (x : Nt), vs = [.ref a, .str x.nm] ∧ BoxAt C H a L ∧ L[i]? = some x ∧ Gives (.int (i : Int)) H Q
theorem ok_index_of (F : Fun K "_index_of" "Box._index_of" sBox__index_of f fd) (B : Blt mg) (BC : BoxC K mg C) (D_names : PropG P w K mg base C "names" 2 (spNamesF C)) : FnG P w K mg base 4 f fd ["self", "name"] (spIndexOf C) := by
  refine fnG F scBox__index_of (fun vs H Q E h => ?_) (fun cdv A fr s H vs Q E hr gd h => ?_)
  · obtain ⟨a, L, i, x, rfl, _⟩ := h
    rfl
  · obtain ⟨a, L, i, x, rfl, BA, hx, k⟩ := h
    refine ⟨_, (pss_cons (ps_if (PW.pt (pw_or (pt_not (pt_val (pe_callB call_isi (by rfl) B.m_isinstance (by decide +kernel) (pa_cons (pv 1) (pa_cons (pe_bltn (v := .ty "str") rfl B.m_str (by decide +kernel) rfl) pa_nil))))) (pw_or1 (pt_cmpR op_notIn_seq (pv 1) (pe_propX D_names BC.cl (hr.mono (by decide)) gd (pv 0)) (by rfl))))) (pss_one ps_never) pss_nil)
  (pss_one (ps_ret (pe_idxF (pe_propX D_names BC.cl (hr.mono (by decide)) gd (pv 0)) (pa_cons (pv 1) pa_nil))))), ?_⟩
    have nv : (namesV L)[i]? = some (.str x.nm) := by unfold namesV; rw [List.getElem?_map, hx]; rfl
    have nT : namesV L = (L.map (·.nm)).map V.str := by unfold namesV; rw [List.map_map]; rfl
    have mem : x.nm ∈ L.map (·.nm) := List.mem_map.mpr ⟨x, List.mem_of_getElem? hx, rfl⟩
    obtain ⟨dx, p0, ha, hp0⟩ := BA.ob
    refine q_pass (et_is (et_or (b := false) (et_not (et_B (ev_isStr (ev_var rfl)))) fun _ => et_test (ev_is (ev_inF (neg := true) (ev_var rfl) (ev_var rfl) BA rfl (by rw [nT]; exact strs_flat _)) (show V.bl (!inV (.str x.nm) (namesV L)) = V.bl false by
      rw [nT, inV_strs, decide_eq_true mem]
      rfl))) rfl) fun H1 e1 => ?_
    refine s_ret (v := .int (i : Int)) (fun H2 e2 Q' q => ⟨_, rfl, a, dx, _, rfl, e2 _ _ (e1 _ _ ha), a, L, rfl, BA.mono (e1.trans e2), fun p o H3 hp e3 c1 c2 h3 => ⟨⟨p, o, _, rfl, h3, c1, c2⟩, _, rfl, ?_⟩⟩) fun H2 e2 => k H2 (e1.trans e2)
    refine ⟨p, namesV L, .str x.nm, i, .str x.nm, rfl, rfl, Or.inl (Or.inr ⟨o, h3⟩), rfl, by rw [nT]; exact strs_flat _, nv, by show (x.nm == x.nm) = true; exact beq_self_eq_true _, fun m z hm hz => ?_, q H3 e3⟩
    unfold namesV at hz
    rw [List.getElem?_map] at hz
    obtain ⟨y, hy, rfl⟩ := Option.map_eq_some_iff.mp hz
    have ne : y.nm ≠ x.nm := fun z => by
      have a : (L.map (·.nm))[m]? = some x.nm := by rw [List.getElem?_map, hy]; exact congrArg some z
      have b : (L.map (·.nm))[i]? = some x.nm := by rw [List.getElem?_map, hx]; rfl
      obtain ⟨la, a⟩ := List.getElem?_eq_some_iff.mp a
      obtain ⟨lb, b⟩ := List.getElem?_eq_some_iff.mp b
      exact (List.pairwise_iff_getElem.mp BA.oks.apart) m i la lb hm (by rw [a, b])
    show (y.nm == x.nm) = false
    exact beq_eq_false_iff_ne.mpr ne
abbrev sBox_table_of : Stmt := inClass (top 40) 6
abbrev NBox_table_of : List Str := ["self", "name"]
theorem scBox_table_of : FnScope NBox_table_of ["self", "name"] (defScope sBox_table_of) := ⟨rfl, rfl, rfl, by decide +kernel, rfl, by decide +kernel, by decide +kernel⟩
def spTableOf (C : Addr) : Sp := fun vs H Q _ => ∃ (a : Addr) (L : List Nt) (i : Nat) (x : Nt), vs = [.ref a, .str x.nm] ∧ BoxAt C H a L ∧ L[i]? = some x ∧ Gives (.str (tab x.ds)) H Q
theorem ok_table_of (F : Fun K "table_of" "Box.table_of" sBox_table_of f fd) (BC : BoxC K mg C) (D_tables : PropG P w K mg base C "tables" 1 (spGet C tablesV)) (D_index_of : MethG P w K mg base C "_index_of" 4 (spIndexOf C)) : FnG P w K mg base 5 f fd ["self", "name"] (spTableOf C) := by
  refine fnG F scBox_table_of (fun vs H Q E h => ?_) (fun cdv A fr s H vs Q E hr gd h => ?_)
  · obtain ⟨a, L, i, x, rfl, _⟩ := h
    rfl
  · obtain ⟨a, L, i, x, rfl, BA, hx, k⟩ := h
    refine ⟨_, (pss_one (ps_ret (pe_ix ix_tup (pe_propX D_tables BC.cl (hr.mono (by decide)) gd (pv 0)) (pe_methX D_index_of BC.cl (hr.mono (by decide)) gd (pv 0) (pa_cons (pv 1) pa_nil)) (fun _ _ => rfl)))), ?_⟩
    have tv : (tablesV L)[i]? = some (.str (tab x.ds)) := by unfold tablesV; rw [List.getElem?_map, hx]; rfl
    obtain ⟨dx, p0, ha, hp0⟩ := BA.ob
    refine s_ret (v := .str (tab x.ds)) (fun H2 e2 Q' q => eu_get (ev_var rfl) (BA.mono e2) H2 (Ex.refl _) _ fun p H3 hp e3 h3 => ?_) k
    have e23 := e2.trans e3
    refine ⟨_, rfl, a, dx, _, rfl, e23 _ _ ha, rfl, _, rfl, a, L, i, x, rfl, BA.mono e23, hx, fun H4 e4 => ?_⟩
    exact ⟨p, _, (i : Int), _, rfl, rfl, SqT.of (e4 _ _ h3), atI_nat tv, q H4 (e3.trans e4)⟩
end
end Tv

namespace Tv
open PySem PySem.Spec PyProof.Rows L2 Evl
section
variable {P : Program} {w : World} {K : PySem.W.Frag} {mg : Str → Option Value} {base : Heap} {f aL aW C : Addr} {fd : FuncData}
section
variable {σ : L2.St} {H : Hp} {te : TE} {t : TA}
theorem ea_star {p : Addr} {xs ys : List V} (h : Ev te σ H (.ref p)) (hp : SqT K H p xs ∨ SqL K H p xs) (ht : EvA t σ H ys) : EvA (StX.tStar K te t) σ H (xs ++ ys) := fun H1 e Q q => h H1 e _ fun H2 e2 =>
  ⟨p, xs, rfl, hp.imp (ex_t (e.trans e2)) (ex_l (e.trans e2)), ht H2 (e.trans e2) _ fun H3 e3 => q H3 (e2.trans e3)⟩
end
abbrev sBox_plus : Stmt := inClass (top 40) 8
abbrev NBox_plus : List Str := ["self", "row"]
theorem scBox_plus : FnScope NBox_plus ["self", "row"] (defScope sBox_plus) := ⟨rfl, rfl, rfl, by decide +kernel, rfl, by decide +kernel, by decide +kernel⟩
def spPlus (C : Addr) : Sp := fun vs H Q _ => ∃ (a : Addr) (L : List Nt) (x : Nt), vs = [.ref a, .str x.row] ∧ BoxAt C H a L ∧ Oks (L ++ [x]) ∧ ∀ b H', Ex H H' → BoxAt C H' b (L ++ [x]) → Q (.ref b) H'
theorem ok_plus (F : Fun K "plus" "Box.plus" sBox_plus f fd) (BC : BoxC K mg C) (D_make : MakeG P w K mg base C 4 (spBoxed C)) : FnG P w K mg base 6 f fd ["self", "row"] (spPlus C) := by
  refine fnG F scBox_plus (fun vs H Q E h => ?_) (fun cdv A fr s H vs Q E hr gd h => ?_)
  · obtain ⟨a, L, x, rfl, _⟩ := h
    rfl
  · obtain ⟨a, L, x, rfl, BA, ok, k⟩ := h
    obtain ⟨dx, p, ha, hp⟩ := BA.ob
    refine ⟨_, (pss_one (ps_ret (pe_makeXP D_make (hr.mono (by decide)) gd rfl BC.mg (StX.pa_star (pe_fld (pv 0) rfl) (pa_cons (pv 1) pa_nil))))), ?_⟩
    have ea : EvA (StX.tStar K (tFld K (tVar 0) "_rows") (tCons (tVar 1) tNil)) [some (.ref a), some (.str x.row)] H (rowsV (L ++ [x])) := by
      have := ea_star (K := K) (xs := rowsV L) (ys := [V.str x.row]) (ev_fld (σ := [some (.ref a), some (.str x.row)]) (te := tVar 0) (ev_var rfl) ha BC.cl BC.nR rfl) (Or.inl (SqT.of hp)) (ea_cons (ev_var (i := 1) rfl) ea_nil)
      have e : rowsV (L ++ [x]) = rowsV L ++ [V.str x.row] := by
        unfold rowsV
        rw [List.map_append]
        rfl
      rw [e]
      exact this
    exact s_retBox (C := C) (L := L ++ [x]) (eb_make ok ea) fun b H1 e1 B => k b H1 e1 B
section
variable {σ : L2.St} {H : Hp} {te tn : TE}
theorem ev_tableOf {b : Addr} {L : List Nt} {i : Nat} {x : Nt} (h : Ev te σ H (.ref b)) (BA : BoxAt C H b L) (hn : Ev tn σ H (.str x.nm)) (hx : L[i]? = some x) :
    Ev (tMethG C "table_of" (spTableOf C) te (tCons tn tNil)) σ H (.str (tab x.ds)) := fun H1 e Q q => h H1 e _ fun H2 e2 => by
  have B2 := BA.mono (e.trans e2)
  obtain ⟨dx, p, ha, hp⟩ := B2.ob
  exact ⟨b, dx, _, rfl, ha, rfl, hn H2 (e.trans e2) _ fun H3 e3 => ⟨b, L, i, x, rfl, B2.mono e3, hx, fun H4 e4 => q H4 (e2.trans (e3.trans e4))⟩⟩
theorem eb_plus {b : Addr} {L : List Nt} {x : Nt} (h : Ev te σ H (.ref b)) (BA : BoxAt C H b L) (hn : Ev tn σ H (.str x.row)) (ok : Oks (L ++ [x])) :
    EvBox C (tMethG C "plus" (spPlus C) te (tCons tn tNil)) σ H (L ++ [x]) := fun H1 e Q q => h H1 e _ fun H2 e2 => by
  have B2 := BA.mono (e.trans e2)
  obtain ⟨dx, p, ha, hp⟩ := B2.ob
  exact ⟨b, dx, _, rfl, ha, rfl, hn H2 (e.trans e2) _ fun H3 e3 => ⟨b, L, x, rfl, B2.mono e3, ok, fun a H4 e4 B4 => q a H4 (e2.trans (e3.trans e4)) B4⟩⟩
theorem eu_tup70 {p : Addr} {xs : List V} (h : Ev te σ H (.ref p)) (hx : H p = some (.lst xs)) :
    EvU (tCB (fun xs H Q => ∃ p ys, xs = [.ref p] ∧ ((SqL K H p ys ∧ ∀ l, H l = none → Q (.ref l) (upd H l (.tup ys))) ∨ (SqT K H p ys ∧ Q (.ref p) H))) (tCons te tNil)) σ H xs := fun H1 e Q q =>
  h H1 e _ fun H2 e2 => ⟨p, xs, rfl, Or.inl ⟨SqL.of (e2 _ _ (e _ _ hx)), fun l hl => q l _ (fresh_back e2 hl) (e2.trans (Ex.new hl)) upd_same⟩⟩
theorem s_ret2 {ta tb : TE} {D : Ends} {xs ys : List V} (h1 : EvU ta σ H xs) (h2 : EvU tb σ H ys) (k : ∀ p c q H1, Ex H H1 → H1 p = some (.tup [.ref c, .ref q]) → H1 c = some (.tup xs) → H1 q = some (.tup ys) → D.rt (.ref p) H1) :
    tRet (tTup (tCons ta (tCons tb tNil))) D σ H := h1 H (Ex.refl H) _ fun c H4 hc e4 h4 => h2 H4 e4 _ fun q H5 hq e5 h5 => ⟨by show 2 ≤ sizeLine; decide, fun r hr => by
    have e6 := Ex.new (o := .tup [V.ref c, .ref q]) hr
    exact k r c q _ ((e4.trans e5).trans e6) upd_same (e6 _ _ (e5 _ _ h4)) (e6 _ _ h5)⟩
end
/-! ### steps judged and made -/
abbrev sis_step : Stmt := top 62
abbrev Nis_step : List Str := ["box", "x", "many", "name", "indexes", "k"]
theorem scis_step : FnScope Nis_step ["box", "x", "many"] (defScope sis_step) := ⟨rfl, rfl, rfl, by decide +kernel, rfl, by decide +kernel, by decide +kernel⟩
def spIsStep (C : Addr) : Sp := fun vs H Q _ => ∃ (b a q : Addr) (L : List Nt) (t : Str × List Nat) (n : Nat), vs = [.ref b, .ref a, .int (n : Int)] ∧ BoxAt C H b L ∧ H a = some (.tup [.str t.1, .ref q]) ∧ H q = some (.tup (iv t.2)) ∧ StepOk L n t ∧ Gives (.bl true) H Q
theorem ok_is_step (F : Fun K "is_step" "is_step" sis_step f fd) (B : Blt mg) (BC : BoxC K mg C) (D_namesF : PropG P w K mg base C "names" 2 (spNamesF C)) (D_table_of : MethG P w K mg base C "table_of" 5 (spTableOf C)) (D_places : DefG P w K mg base "places" ["table"] 3 spPlaces)
    (D_is_index : DefG P w K mg base "is_index" ["x", "count"] 2 spIsIndex) : FnG P w K mg base 6 f fd ["box", "x", "many"] (spIsStep C) := by
  refine fnG F scis_step (fun vs H Q E h => ?_) (fun cdv A fr s H vs Q E hr gd h => ?_)
  · obtain ⟨b, a, q, L, t, n, rfl, _⟩ := h
    rfl
  · obtain ⟨b, a, q, L, t, n, rfl, BA, ha, hq, ok, k⟩ := h
    refine ⟨_, (pss_cons (ps_if (PW.pt (pw_or (pt_not (pt_val (pe_callB call_isi (by rfl) B.m_isinstance (by decide +kernel) (pa_cons (pv 1) (pa_cons (pe_bltn (v := .ty "tuple") rfl B.m_tuple (by decide +kernel) rfl) pa_nil))))) (pw_or1 (pt_cmpR op_ne (pe_callB call_len (by rfl) B.m_len (by decide +kernel) (pa_cons (pv 1) pa_nil)) pe_int (nomark _))))) (pss_one (ps_ret pe_bl)) pss_nil)
  (pss_cons (ps_asg (pv 1) (pg_tup rfl (pgs_cons (pg_name (i := 3) scis_step.nd rfl (Or.inl rfl)) (pgs_cons (pg_name (i := 4) scis_step.nd rfl (Or.inl rfl)) pgs_nil))))
  (pss_cons (ps_if (PW.pt (pw_or (pt_not (pt_val (pe_callB call_isi (by rfl) B.m_isinstance (by decide +kernel) (pa_cons (pv 3) (pa_cons (pe_bltn (v := .ty "str") rfl B.m_str (by decide +kernel) rfl) pa_nil))))) (pw_or (pt_cmpR op_notIn_seq (pv 3) (pe_propX D_namesF BC.cl (hr.mono (by decide)) gd (pv 0)) (by rfl)) (pw_or1 (pt_not (pt_val (pe_callB call_isi (by rfl) B.m_isinstance (by decide +kernel) (pa_cons (pv 4) (pa_cons (pe_bltn (v := .ty "tuple") rfl B.m_tuple (by decide +kernel) rfl) pa_nil))))))))) (pss_one (ps_ret pe_bl)) pss_nil)
  (pss_one (ps_ret (pe_and (pe_cmpR op_eq (pe_callB call_len (by rfl) B.m_len (by decide +kernel) (pa_cons (pv 4) pa_nil)) (pe_def D_places (hr.mono (by decide)) gd rfl (pa_cons (pe_methX D_table_of BC.cl (hr.mono (by decide)) gd (pv 0) (pa_cons (pv 3) pa_nil)) pa_nil)) (nomark _)) (pe_one (pe_callB (cr_all rfl) (by rfl) B.m_all (by decide +kernel) (pa_cons (pe_lc (own := [("k", 5)]) (g := gName 5) rfl scis_step.nd (pi_tup (pv 4)) (blkOk_by (own := [("k", 5)]) (N := Nis_step) (sc := defScope sis_step) (by decide +kernel)) (fun _ _ _ _ _ => (pg_name (i := 5) scis_step.nd rfl (Or.inl rfl))) (fun _ _ _ _ _ => pts_nil) (fun _ _ _ _ _ => (pe_def D_is_index (hr.mono (by decide)) gd rfl (pa_cons (pv 5) (pa_cons (pv 2) pa_nil))))) pa_nil))))))))), ?_⟩
    obtain ⟨x, hx, e1_, xl, xk⟩ := ok
    obtain ⟨i, hxi⟩ := List.mem_iff_getElem?.mp hx
    obtain ⟨tn, ti⟩ := t
    obtain rfl : tn = x.nm := e1_
    have xl : ti.length = x.n := xl
    have xk : ∀ k ∈ ti, k < n := xk
    have xo := BA.oks.ok x hx
    have nT : namesV L = (L.map (·.nm)).map V.str := by unfold namesV; rw [List.map_map]; rfl
    refine q_pass (et_is (et_or (et_not (et_B (ev_isTup (ev_var rfl) (.inl ha)))) fun _ => et_test (ev_op (ev_lenTup (ev_var rfl) (.inl ha)) ev_c (rv_ne rfl))) (by simp)) fun H1 e1 => ?_
    refine ⟨_, rfl, a, _, rfl, SqT.of (e1 _ _ ha), rfl, _, _, rfl, ⟨_, _, rfl, rfl, ?_⟩⟩
    dsimp only
    have hq1 := e1 _ _ hq
    have B1 := BA.mono e1
    refine q_pass (et_is (et_or (b := false) (et_not (et_B (ev_isStr (ev_var rfl)))) fun _ => et_or (b := false) (et_test (ev_is (ev_inF (neg := true) (ev_var rfl) (ev_var rfl) B1 rfl (by rw [nT]; exact strs_flat _)) (show V.bl (!inV (.str x.nm) (namesV L)) = V.bl false by
      rw [nT, inV_strs, decide_eq_true (List.mem_map.mpr ⟨x, hx, rfl⟩)]
      rfl))) fun _ => et_not (et_B (ev_isTup (ev_var rfl) (.inl hq1)))) rfl) fun H2 e2 => ?_
    have hq2 := e2 _ _ hq1
    have B2 := B1.mono e2
    refine s_ret (v := .bl (true && true)) (ev_andV (a := true) (ev_is (ev_op (ev_lenTup (ev_var rfl) (.inl hq2)) (ev_def (v := .int (x.n : Int)) (ea_cons (ev_tableOf (ev_var rfl) B2 (ev_var rfl) hxi) ea_nil) fun H3 _ Q q => ⟨x.ds, x.n, xo.tab, rfl, q⟩) (rv_eq rfl)) ?_) fun _ => ev_is (ev_allN (bs := List.replicate (iv ti).length true) ?_) (by rw [all_trues])) fun H3 e3 => k H3 ((e1.trans e2).trans e3)
    · rw [iv_len, xl, decide_eq_true rfl]
    · rw [trues]
      refine el_lcT (a := q) (xs := iv ti) (fun _ => true) (fun _ => .bl true) (ev_var rfl) (SqT.of hq2) (by rw [iv_len, xl]; have := xo.tab.n3; omega) (fun y => rfl) (fun i x H1 e hx => et_yes) (fun j y H3 e3 hy _ => ?_)
      obtain ⟨k, hk, rfl⟩ := iv_at hy
      exact ev_def (ea_cons (ev_var rfl) (ea_cons (ev_var rfl) ea_nil)) fun H4 _ Q q => ⟨k, n, xk k (List.mem_of_getElem? hk), rfl, q⟩
abbrev smade : Stmt := top 63
abbrev Nmade : List Str := ["box", "steps", "found", "at", "step", "name", "indexes", "k"]
theorem scmade : FnScope Nmade ["box", "steps"] (defScope smade) := ⟨rfl, rfl, rfl, by decide +kernel, rfl, by decide +kernel, by decide +kernel⟩
def spMade70 (C : Addr) : Sp := fun vs H Q _ => ∃ (b p : Addr) (L : List Nt) (zs : List V) (T : List (Str × List Nat)), vs = [.ref b, .ref p] ∧ BoxAt C H b L ∧ H p = some (.tup zs) ∧ Tolds H zs T ∧ T.length ≤ 100 ∧
  (∀ i t, T[i]? = some t → StepOk L (i + 1) t) ∧ (∀ r ∈ ranOf L T, IsTab r 1) ∧ GivesT (textsV (ranOf L T)) H Q
theorem ok_made70 (F : Fun K "made" "made" smade f fd) (B : Blt mg) (BC : BoxC K mg C) (mPL : ∃ u, mg "PLAIN" = some u ∧ RelV (.str (Str.ofString "012")) u) (BE : mg "enumerate" = none) (D_must_be_box : DefG P w K mg base "must_be_box" ["x"] 1 (spMustBox C)) (D_is_step : DefG P w K mg base "is_step" ["box", "x", "many"] 6 (spIsStep C))
    (D_table_of : MethG P w K mg base C "table_of" 5 (spTableOf C)) (D_put_together : DefG P w K mg base "put_together" ["table", "tables"] 4 spPut) : FnG P w K mg base 7 f fd ["box", "steps"] (spMade70 C) := by
  refine fnG F scmade (fun vs H Q E h => ?_) (fun cdv A fr s H vs Q E hr gd h => ?_)
  · obtain ⟨b, p, L, zs, T, rfl, _⟩ := h
    rfl
  · obtain ⟨b, p, L, zs, T, rfl, BA, hp, TS, T100, sok, rok, k⟩ := h
    refine ⟨_, (pss_cons (ps_expr (pe_def D_must_be_box (hr.mono (by decide)) gd rfl (pa_cons (pv 0) pa_nil)))
  (pss_cons (ps_if (pt_not (pt_val (pe_callB call_isi (by rfl) B.m_isinstance (by decide +kernel) (pa_cons (pv 1) (pa_cons (pe_bltn (v := .ty "tuple") rfl B.m_tuple (by decide +kernel) rfl) pa_nil))))) (pss_one ps_never) pss_nil)
  (pss_cons (ps_set (i := 2) scmade.nd rfl (Or.inr rfl) (pe_lst (pa_cons (C8.pe_gc rfl mPL) pa_nil)))
  (pss_cons (ps_for PassesOwn.never rfl (pi_enumT rfl BE (pa_cons (pv 1) pa_nil)) (pg_tup rfl (pgs_cons (pg_name (i := 3) scmade.nd rfl (Or.inl rfl)) (pgs_cons (pg_name (i := 4) scmade.nd rfl (Or.inl rfl)) pgs_nil))) (pss_cons (ps_if (pt_not (pt_val (pe_def D_is_step (hr.mono (by decide)) gd rfl (pa_cons (pv 0) (pa_cons (pv 4) (pa_cons (pe_callB call_len (by rfl) B.m_len (by decide +kernel) (pa_cons (pv 2) pa_nil)) pa_nil)))))) (pss_one ps_never) pss_nil)
  (pss_cons (ps_asg (pv 4) (pg_tup rfl (pgs_cons (pg_name (i := 5) scmade.nd rfl (Or.inl rfl)) (pgs_cons (pg_name (i := 6) scmade.nd rfl (Or.inl rfl)) pgs_nil))))
  (pss_one (ps_expr (pe_bm PySem.F.plainAttrs_list PySem.F.slot_list_append PySem.F.type_list_append mt_append (pv 2) (pa_cons (pe_def D_put_together (hr.mono (by decide)) gd rfl (pa_cons (pe_methX D_table_of BC.cl (hr.mono (by decide)) gd (pv 0) (pa_cons (pv 5) pa_nil)) (pa_cons (pe_callTy call_tuple_of (by rfl) B.m_tuple (by decide +kernel) (pa_cons (pe_lc (own := [("k", 7)]) (g := gName 7) rfl scmade.nd (pi_tup (pv 6)) (blkOk_by (own := [("k", 7)]) (N := Nmade) (sc := defScope smade) (by decide +kernel)) (fun _ _ _ _ _ => (pg_name (i := 7) scmade.nd rfl (Or.inl rfl))) (fun _ _ _ _ _ => pts_nil) (fun _ _ _ _ _ => (pe_ix (show IxR _ (rIxL K) from ix_list) (pv 2) (pv 7) (fun _ _ => rfl)))) pa_nil)) pa_nil))) pa_nil)))))))
  (pss_one (ps_ret (pe_callTy call_tuple_of (by rfl) B.m_tuple (by decide +kernel) (pa_cons (pv 2) pa_nil)))))))), ?_⟩
    refine q_drop (ev_def (ea_cons (ev_var rfl) ea_nil) fun H1 e1 Q q => ⟨b, L, rfl, BA.mono e1, q⟩) fun H0 e0 => ?_
    refine q_pass (et_is (et_not (et_B (ev_isTup (ev_var rfl) (.inl (e0 _ _ hp))))) rfl) fun H1 e1 => ?_
    refine q_asgL (el_lst (ea_cons ev_c ea_nil) (by decide)) fun pf H4 hpf e4 f4 => ?_
    have e04 := (e0.trans e1).trans e4
    have pf0 : H pf = none := fresh_back (e0.trans e1) hpf
    have f4 : H4 pf = some (.lst (textsV ((ranOf L T).take 1))) := by
      rw [f4, ← ran_cut T 0]
      rfl
    have zl : zs.length = T.length := Paired.length TS
    have np : p ≠ pf := fun z => by rw [z, pf0] at hp; cases hp
    have hp4 := e04 _ _ hp
    have B4 := BA.mono e04
    obtain ⟨dx, pb, hb, hpb⟩ := BA.ob
    have nb : b ≠ pf := fun z => by rw [z, pf0] at hb; cases hb
    have npb : pb ≠ pf := fun z => by rw [z, pf0] at hpb; cases hpb
    refine ⟨_, rfl, p, zs, rfl, SqT.of hp4, for_enumT (K := K) (a := p) (xs := zs)
      (fun i σ H5 => ∃ v3 v4 v5 v6 : Option V, σ = [some (.ref b), some (.ref p), some (.ref pf), v3, v4, v5, v6, none] ∧ H5 pf = some (.lst (textsV ((ranOf L T).take (i + 1)))) ∧ Save pf H4 H5)
      ⟨none, none, none, none, rfl, f4, Save.of (Ex.refl _)⟩ (fun i σ H5 ⟨_, _, _, _, _, _, s5⟩ => SqT.of (s5 _ _ np hp4)) ?_ ?_⟩
    · rintro i z Tn σ H5 hi ⟨v3, v4, v5, v6, rfl, f5, s5⟩ hTn
      obtain ⟨t, ht, a, q, rfl, ha, hq⟩ := paired_get TS hi
      have st := sok i t ht
      obtain ⟨x, hx, tx, tl, tk⟩ := st
      have st := sok i t ht
      obtain ⟨ix, hix⟩ := List.mem_iff_getElem?.mp hx
      have xo := BA.oks.ok x hx
      have na : a ≠ pf := fun z => by rw [z, pf0] at ha; cases ha
      have nq : q ≠ pf := fun z => by rw [z, pf0] at hq; cases hq
      refine ⟨Tn, _, rfl, SqT.of upd_same, rfl, _, _, rfl, ⟨_, _, rfl, rfl, ?_⟩⟩
      have eT := Ex.new (o := .tup [V.int (i : Nat), V.ref a]) hTn
      have s6 : Save pf H4 (upd H5 Tn (.tup [V.int (i : Nat), V.ref a])) := s5.trans (Save.of eT)
      have f6 := eT _ _ f5
      generalize upd H5 Tn (.tup [V.int (i : Nat), V.ref a]) = H6 at s6 f6
      have ha6 := s6 _ _ na (e04 _ _ ha)
      have hq6 := s6 _ _ nq (e04 _ _ hq)
      have B6 : BoxAt C H6 b L := ⟨BA.oks, dx, pb, s6 _ _ nb (e04 _ _ hb), s6 _ _ npb (e04 _ _ hpb)⟩
      have il := (List.getElem?_eq_some_iff.mp ht).1
      have next : (ranOf L T).take (i + 1 + 1) = (ranOf L T).take (i + 1) ++ [rowOf 3 x ((ranOf L T).take (i + 1)) t.2] := by
        rw [← ran_cut T (i + 1), ← ran_cut T i, List.take_add_one, ht]
        show (T.take i ++ [t]).foldl (ranStep L) [[0, 1, 2]] = _
        rw [List.foldl_append]
        show ranStep L (ranOf L (T.take i)) t = _
        unfold ranStep
        rw [tx, tabOf_in BA.oks.apart hx]
      have rl : (ranOf L T).length = T.length + 1 := by
        have := congrArg List.length (ran_cut (L := L) T T.length)
        rw [List.take_length] at this
        have l2 : ∀ (T : List (Str × List Nat)) (F : List (List Nat)), (T.foldl (ranStep L) F).length = F.length + T.length := by
          intro T
          induction T with
          | nil => exact fun F => rfl
          | cons t T ih =>
            intro F
            rw [List.foldl_cons, ih]
            unfold ranStep
            rw [List.length_append, List.length_cons]
            show F.length + 1 + T.length = F.length + (T.length + 1)
            omega
        unfold ranOf
        rw [l2]
        show 1 + _ = _
        omega
      have cutl : ((ranOf L T).take (i + 1)).length = i + 1 := by rw [List.length_take]; omega
      have cutok : ∀ r ∈ (ranOf L T).take (i + 1), IsTab r 1 := fun r hr => rok r (List.mem_of_mem_take hr)
      rw [next]
      generalize (ranOf L T).take (i + 1) = G at f6 cutl cutok
      have gk : ∀ k ∈ t.2, IsTab (G.getD k []) 1 ∧ G[k]? = some (G.getD k []) := fun k hk => by
        have lt := tk k hk
        have e : G[k]? = some (G.getD k []) := by
          rw [List.getD_eq_getElem?_getD, List.getElem?_eq_getElem (by omega)]
          rfl
        exact ⟨cutok _ (List.mem_of_getElem? e), e⟩
      refine q_pass (et_is (et_not (et_B (ev_def (v := .bl true) (ea_cons (ev_var rfl) (ea_cons (ev_var rfl) (ea_cons (ev_is (ev_lenLs (xs := textsV G) (ev_var rfl) (SqL.of f6)) (show V.int ((textsV G).length : Nat) = V.int ((i + 1 : Nat) : Int) by rw [textsV_len, cutl])) ea_nil))) fun H7 e7 Q q' =>
        ⟨b, a, q, L, t, i + 1, rfl, B6.mono e7, e7 _ _ ha6, e7 _ _ hq6, st, q'⟩))) rfl) fun H7 e7 => ?_
      refine ⟨_, rfl, a, _, rfl, SqT.of (e7 _ _ ha6), rfl, _, _, rfl, ⟨_, _, rfl, rfl, ?_⟩⟩
      dsimp only
      have f7 := e7 _ _ f6
      have B7 := B6.mono e7
      have hq7 := e7 _ _ hq6
      refine s_app (xs := textsV G) (v := .str (tab (rowOf 3 x G t.2))) f7 (ev_var rfl) (ev_def2U (z := .str (tab x.ds)) (xs := textsV (t.2.map fun k => G.getD k [])) (ev_tableOf (ev_var rfl) B7 (by rw [← tx]; exact ev_var rfl) hix) (eu_tupleN ?_) fun pr H8 e8 hpr Q q8 => ⟨x.ds, x.n, 1, pr, t.2.map fun k => G.getD k [], xo.tab, rfl, hpr, by rw [List.length_map, tl], fun r hr => ?_, q8⟩)
        (by rw [textsV_len, cutl]; exact Nat.lt_of_le_of_lt (by omega : _ ≤ 101) (by decide)) fun H8 e8 => ⟨_, _, _, _, rfl, ?_, fun c o nc hc => ?_⟩
      · have eg : textsV (t.2.map fun k => G.getD k []) = given (iv t.2).length (fun _ => true) (fun j => V.str (tab (G.getD (t.2.getD j 0) []))) := by
          rw [iv_len, given_iv 0 t.2 fun k => V.str (tab (G.getD k []))]
          unfold textsV
          rw [List.map_map]
          rfl
        rw [eg]
        refine el_lcT (a := q) (xs := iv t.2) (fun _ => true) _ (ev_var rfl) (SqT.of hq7) (by rw [iv_len, tl]; have := xo.tab.n3; omega) (fun y => rfl) (fun j y H6 e6 hy => et_yes) (fun j y H8 e8 hy _ => ?_)
        obtain ⟨k, hk, rfl⟩ := iv_at hy
        have ek : t.2.getD j 0 = k := by rw [List.getD_eq_getElem?_getD, hk]; rfl
        rw [ek]
        exact ev_op (ev_var rfl) (ev_var rfl) (rv_ixL (i := (k : Int)) (SqL.of (e8 _ _ f7)) (atI_nat (by unfold textsV; rw [List.getElem?_map, (gk k (List.mem_of_getElem? hk)).2]; rfl)))
      · obtain ⟨k, hk, rfl⟩ := List.mem_map.mp hr
        exact (gk k hk).1
      · rw [upd_same]
        unfold textsV
        rw [List.map_append]
        rfl
      · rw [upd_ne nc]
        exact e8 _ _ (e7 _ _ (s6 c o nc hc))
    · rintro σ H5 ⟨v3, v4, v5, v6, rfl, f5, s5⟩
      rw [zl, ← ran_cut, List.take_length] at f5
      refine s_retU (eu_tup70 (ev_var rfl) f5) fun r H6 hr e6 h6 => ?_
      have e56 : Ex H H6 := fun c o hc => e6 _ _ (s5 c o (fun z => by rw [z, pf0] at hc; cases hc) (e04 _ _ hc))
      refine k r H6 ?_ e56 h6
      cases hc : H r with
      | none => rfl
      | some o => rw [s5 r o (fun z => by rw [z, pf0] at hc; cases hc) (e04 _ _ hc)] at hr; cases hr
abbrev sbrings : Stmt := top 64
abbrev Nbrings : List Str := ["box", "row", "more", "found", "table"]
theorem scbrings : FnScope Nbrings ["box", "row"] (defScope sbrings) := ⟨rfl, rfl, rfl, by decide +kernel, rfl, by decide +kernel, by decide +kernel⟩
def spBrings (C : Addr) : Sp := fun vs H Q _ => ∃ (b : Addr) (L : List Nt) (x : Nt), vs = [.ref b, .str x.row] ∧ BoxAt C H b L ∧ Oks (L ++ [x]) ∧ GivesT (((oneS (L ++ [x])).filter fun r => !decide (r ∈ oneS L)).map fun r => V.str (tab r)) H Q
theorem ok_brings (F : Fun K "brings" "brings" sbrings f fd) (B : Blt mg) (BC : BoxC K mg C) (D_must_be_box : DefG P w K mg base "must_be_box" ["x"] 1 (spMustBox C)) (D_plus : MethG P w K mg base C "plus" 6 (spPlus C)) (D_one_place : DefG P w K mg base "one_place" ["box"] 7 (spOnePlace C)) :
    FnG P w K mg base 8 f fd ["box", "row"] (spBrings C) := by
  refine fnG F scbrings (fun vs H Q E h => ?_) (fun cdv A fr s H vs Q E hr gd h => ?_)
  · obtain ⟨b, L, x, rfl, _⟩ := h
    rfl
  · obtain ⟨b, L, x, rfl, BA, ok, k⟩ := h
    refine ⟨_, (pss_cons (ps_expr (pe_def D_must_be_box (hr.mono (by decide)) gd rfl (pa_cons (pv 0) pa_nil)))
  (pss_cons (ps_set (i := 2) scbrings.nd rfl (Or.inl rfl) (pe_def D_one_place (hr.mono (by decide)) gd rfl (pa_cons (pe_methX D_plus BC.cl (hr.mono (by decide)) gd (pv 0) (pa_cons (pv 1) pa_nil)) pa_nil)))
  (pss_cons (ps_set (i := 3) scbrings.nd rfl (Or.inr rfl) (pe_def D_one_place (hr.mono (by decide)) gd rfl (pa_cons (pv 0) pa_nil)))
  (pss_one (ps_ret (pe_callTy call_tuple_of (by rfl) B.m_tuple (by decide +kernel) (pa_cons (pe_lc (own := [("table", 4)]) (g := gName 4) rfl scbrings.nd (pi_tup (pv 2)) (blkOk_by (own := [("table", 4)]) (N := Nbrings) (sc := defScope sbrings) (by decide +kernel)) (fun _ _ _ _ _ => (pg_name (i := 4) scbrings.nd rfl (Or.inl rfl))) (fun _ _ _ _ _ => (pts_one (pt_cmpR (show OpR _ _ (rIn K true) from op_notIn_seq) (pv 4) (pv 3) (by rfl)))) (fun _ _ _ _ _ => (pv 4))) pa_nil))))))), ?_⟩
    refine q_drop (ev_def (ea_cons (ev_var rfl) ea_nil) fun H1 e1 Q q => ⟨b, L, rfl, BA.mono e1, q⟩) fun H0 e0 => ?_
    refine q_asgU (xs := onesV (L ++ [x])) (eu_defBox (L := L ++ [x]) (eb_plus (ev_var rfl) (BA.mono e0) (ev_var rfl) ok) fun a H1 e1 B1 Q q => ⟨a, _, rfl, B1, q⟩) fun pm H1 hm e1 h1 => ?_
    refine q_asgU (xs := onesV L) (eu_def (ea_cons (ev_var rfl) ea_nil) fun H2 e2 Q q => ⟨b, L, rfl, BA.mono ((e0.trans e1).trans e2), q⟩) fun po H2 ho e2 h2 => ?_
    have e02 := (e0.trans e1).trans e2
    have hm2 := e2 _ _ h1
    refine s_retU (xs := ((oneS (L ++ [x])).filter fun r => !decide (r ∈ oneS L)).map fun r => V.str (tab r)) (eu_tupleN ?_) fun p H3 hp e3 h3 => k p H3 (fresh_back e02 hp) (e02.trans e3) h3
    rw [← given_filterW [] (oneS (L ++ [x])) (fun r => !decide (r ∈ oneS L)) fun r => V.str (tab r), ← textsV_len]
    refine el_lcT (a := pm) (xs := textsV (oneS (L ++ [x]))) _ _ (ev_var rfl) (SqT.of hm2) (by rw [textsV_len, oneS_len]; exact Nat.le_trans (one_small ok) (by decide)) (fun y => rfl) (fun i y H3 e3 hy => ?_) (fun i y H3 e3 hy _ => ?_)
    · unfold textsV at hy
      rw [List.getElem?_map] at hy
      obtain ⟨r, hr, rfl⟩ := Option.map_eq_some_iff.mp hy
      have er : (oneS (L ++ [x])).getD i [] = r := by rw [List.getD_eq_getElem?_getD, hr]; rfl
      rw [er, ← inV_texts]
      exact et_test (ev_op (ev_var rfl) (ev_var rfl) (rv_niT (SqT.of (e3 _ _ h2)) rfl (textsV_flat _)))
    · unfold textsV at hy
      rw [List.getElem?_map] at hy
      obtain ⟨r, hr, rfl⟩ := Option.map_eq_some_iff.mp hy
      have er : (oneS (L ++ [x])).getD i [] = r := by rw [List.getD_eq_getElem?_getD, hr]; rfl
      rw [er]
      exact ev_var rfl
abbrev scertify_box : Stmt := top 67
abbrev Ncertify_box : List Str := ["box", "words", "_", "told"]
theorem sccertify_box : FnScope Ncertify_box ["box"] (defScope scertify_box) := ⟨rfl, rfl, rfl, by decide +kernel, rfl, by decide +kernel, by decide +kernel⟩
def spCertify (C : Addr) : Sp := fun vs H Q _ => ∃ (b : Addr) (L : List Nt) (x : Str), vs = [.ref b] ∧ BoxAt C H b L ∧ keptL L = [] ∧ (ontoN L)[0]? = some (.str x) ∧ ∀ p c q H' zs, H' p = some (.tup [.ref c, .ref q]) → Ex H H' → H' c = some (.tup [.str (Str.ofString "all"), .str (textOf L), .str x]) → H' q = some (.tup zs) → Tolds H' zs (oneG L).T → Q (.ref p) H'
theorem ok_certify (F : Fun K "certify_box" "certify_box" scertify_box f fd) (B : Blt mg) (BC : BoxC K mg C) (D_kept : DefG P w K mg base "kept" ["box"] 7 (spKept C)) (D_one_place_steps : DefG P w K mg base "one_place_steps" ["box"] 6 (spOneSteps C))
    (D_text : PropG P w K mg base C "text" 1 (spTextG C)) (D_onto_names : DefG P w K mg base "onto_names" ["box"] 5 (spOntoN C)) : FnG P w K mg base 8 f fd ["box"] (spCertify C) := by
  refine fnG F sccertify_box (fun vs H Q E h => ?_) (fun cdv A fr s H vs Q E hr gd h => ?_)
  · obtain ⟨b, L, x, rfl, _⟩ := h
    rfl
  · obtain ⟨b, L, x, rfl, BA, k0, hx, k⟩ := h
    refine ⟨_, (pss_cons (ps_set (i := 1) sccertify_box.nd rfl (Or.inl rfl) (pe_def D_kept (hr.mono (by decide)) gd rfl (pa_cons (pv 0) pa_nil)))
  (pss_cons (ps_if (pt_cmpR op_gt (pe_callB call_len (by rfl) B.m_len (by decide +kernel) (pa_cons (pv 1) pa_nil)) pe_int (nomark _)) (pss_one (ps_ret (pe_tup (pa_cons (pe_tup (pa_cons pe_str (pa_cons (pe_propX D_text BC.cl (hr.mono (by decide)) gd (pv 0)) (pa_cons (pe_ix ix_tup (pv 1) pe_int (fun _ _ => rfl)) pa_nil)))) (pa_cons (pe_tup pa_nil) pa_nil))))) pss_nil)
  (pss_cons (ps_asg (pe_def D_one_place_steps (hr.mono (by decide)) gd rfl (pa_cons (pv 0) pa_nil)) (pg_tup rfl (pgs_cons (pg_name (i := 2) sccertify_box.nd rfl (Or.inl rfl)) (pgs_cons (pg_name (i := 3) sccertify_box.nd rfl (Or.inl rfl)) pgs_nil))))
  (pss_one (ps_ret (pe_tup (pa_cons (pe_tup (pa_cons pe_str (pa_cons (pe_propX D_text BC.cl (hr.mono (by decide)) gd (pv 0)) (pa_cons (pe_ix ix_tup (pe_def D_onto_names (hr.mono (by decide)) gd rfl (pa_cons (pv 0) pa_nil)) pe_int (fun _ _ => rfl)) pa_nil)))) (pa_cons (pe_callTy call_tuple_of (by rfl) B.m_tuple (by decide +kernel) (pa_cons (pv 3) pa_nil)) pa_nil)))))))), ?_⟩
    refine q_asgU (xs := (keptL L).map V.str) (eu_def (ea_cons (ev_var rfl) ea_nil) fun H1 e1 Q q => ⟨b, L, rfl, BA.mono e1, q⟩) fun pk H1 hk e1 h1 => ?_
    refine q_pass (et_is (et_test (ev_op (ev_lenTup (ev_var rfl) (.inl h1)) ev_c rv_I0)) (by rw [k0]; rfl)) fun H2 e2 => ?_
    have e02 := e1.trans e2
    refine ⟨_, rfl, b, L, rfl, BA.mono e02, fun p pf pt H3 zs hp hf ht e3 h3 hf3 ht3 S => ⟨p, _, rfl, SqT.of h3, rfl, _, _, rfl, ⟨_, _, rfl, rfl, ?_⟩⟩⟩
    have e03 := e02.trans e3
    dsimp only
    have B3 := BA.mono e03
    have ex : Ev (tOp (rIxT K) (tDef (spOntoN C) (tCons (tVar 0) tNil)) (tC (.int 0))) [some (.ref b), some (.ref pk), some (.ref pf), some (.ref pt)] H3 (.str x) := fun H4 e4 Q q =>
      ⟨_, rfl, b, L, rfl, B3.mono e4, fun p H5 hp e5 h5 => ⟨p, ontoN L, (0 : Int), _, rfl, rfl, SqT.of h5, atI_nat (j := 0) hx, q H5 e5⟩⟩
    have et : Ev (tPropG C (spTextG C) (tVar 0)) [some (.ref b), some (.ref pk), some (.ref pf), some (.ref pt)] H3 (.str (textOf L)) := fun H4 e4 Q q => by
      obtain ⟨dx, pb, hb, hpb⟩ := (B3.mono e4).ob
      exact ⟨_, rfl, b, dx, _, rfl, hb, b, L, rfl, B3.mono e4, q⟩
    exact s_ret2 (eu_tup (ea_cons ev_c (ea_cons et (ea_cons ex ea_nil))) (by show 3 ≤ 100000; decide)) (eu_tup70 (xs := zs) (ev_var rfl) ht3) fun r c q H4 e4 hr hc hq => k r c q _ zs hr (e03.trans e4) hc hq (Tolds.mono e4 S)
end
end Tv

namespace Tv
open PySem PySem.Spec PyProof.Rows L2 Evl
def kvL (L : List Nt) : List (Key × V) := L.map fun x => (Sum.inr x.nm, V.str (tab x.ds))
theorem merge_apart : ∀ (kvs acc : List (Key × V)), ((acc ++ kvs).map (·.1)).Nodup → mergeK acc kvs = acc ++ kvs
  | [], acc, _ => by rw [List.append_nil]; rfl
  | kv :: r, acc, h => by
    have no : (acc.any fun z => decide (z.1 = kv.1)) = false := by
      rw [List.any_eq_false]
      intro z hz e
      have e' := of_decide_eq_true e
      rw [List.map_append, List.nodup_append] at h
      exact h.2.2 z.1 (List.mem_map_of_mem hz) kv.1 (List.mem_map_of_mem List.mem_cons_self) e'
    have e1 : putK acc kv.1 kv.2 = acc ++ [kv] := by
      unfold putK
      rw [no]
      rfl
    show mergeK (putK acc kv.1 kv.2) r = _
    rw [e1, merge_apart r (acc ++ [kv]) (by rw [List.append_assoc]; exact h), List.append_assoc]
    rfl
theorem kvL_apart {L : List Nt} (h : (L.map (·.nm)).Nodup) : mergeK [] (kvL L) = kvL L := by
  refine merge_apart _ [] ?_
  rw [List.nil_append]
  unfold kvL
  rw [List.map_map]
  have e : ((fun z : Key × V => z.1) ∘ fun x : Nt => ((Sum.inr x.nm : Key), V.str (tab x.ds))) = fun x => Sum.inr x.nm := rfl
  rw [e]
  have : (L.map fun x => (Sum.inr x.nm : Key)) = (L.map (·.nm)).map Sum.inr := by rw [List.map_map]; rfl
  rw [this]
  exact h.map Sum.inr fun a b ne e => ne (Sum.inr.inj e)
theorem kvL_get {L : List Nt} {x : Nt} (nd : (L.map (·.nm)).Nodup) (h : x ∈ L) : valV (kvL L) (Sum.inr x.nm) = some (V.str (tab x.ds)) := by
  induction L with
  | nil => cases h
  | cons y L ih =>
    rw [List.map_cons, List.nodup_cons] at nd
    unfold kvL
    rw [List.map_cons]
    by_cases e : y.nm = x.nm
    · rw [valV_pos (by show (Sum.inr y.nm : Key) = Sum.inr x.nm; rw [e])]
      rcases List.mem_cons.mp h with rfl | h
      · rfl
      · exact absurd (e ▸ List.mem_map.mpr ⟨x, h, rfl⟩) nd.1
    · rw [valV_neg (by intro z; exact e (Sum.inr.inj z))]
      rcases List.mem_cons.mp h with rfl | h
      · exact absurd rfl e
      · exact ih nd.2 h
theorem lists_kv {K : PySem.W.Frag} {H : Hp} : ∀ {L : List Nt} {ys : List V}, ListsV H ys (L.map fun x => [V.str x.nm, V.str (tab x.ds)]) → ∃ ps : List Addr, ys = ps.map V.ref ∧ Paired (fun p kv => SqL K H p [kV kv.1, kv.2]) ps (kvL L)
  | [], _, .nil => ⟨[], rfl, .nil⟩
  | x :: L, _, .cons h t => by
    obtain ⟨a, rfl, ha⟩ := h
    obtain ⟨ps, rfl, R⟩ := lists_kv (L := L) t
    exact ⟨a :: ps, rfl, .cons (SqL.of ha) R⟩
theorem range_getD {α β : Type} (d : α) (L : List α) (g : α → β) : (List.range L.length).map (fun i => g (L.getD i d)) = L.map g := by
  refine List.ext_getElem? fun i => ?_
  rw [List.getElem?_map, List.getElem?_map]
  by_cases lt : i < L.length
  · rw [List.getElem?_range lt, List.getElem?_eq_getElem lt]
    simp [List.getD_eq_getElem?_getD, lt]
  · rw [List.getElem?_eq_none (by rw [List.length_range]; omega), List.getElem?_eq_none (by omega)]
    rfl
theorem row_split {x : Nt} (h : x.Ok) : Txt.split x.row (Str.ofString " ") = [x.nm, tab x.ds] := by
  have e : x.row = Txt.join (Str.ofString " ") [x.nm, tab x.ds] := rfl
  rw [e]
  refine TL.split_join (s := 32) (S := []) rfl (by decide +kernel) (by simp) fun p hp => ?_
  rcases List.mem_cons.mp hp with rfl | hp
  · exact h.name.noBlank
  · obtain rfl := List.mem_singleton.mp hp
    intro m
    have m2 : 32 ∈ (tab x.ds).cps.toList := m
    rw [tab_cps] at m2
    obtain ⟨d, _, hd⟩ := List.mem_map.mp m2
    omega
section
variable {P : Program} {w : World} {K : PySem.W.Frag} {mg : Str → Option Value} {base : Heap} {f aL aW C : Addr} {fd : FuncData}
abbrev sall_tables : Stmt := top 33
abbrev Nall_tables : List Str := ["row", "x"]
theorem scall_tables : FnScope Nall_tables [] (defScope sall_tables) := ⟨rfl, rfl, rfl, by decide +kernel, rfl, by decide +kernel, by decide +kernel⟩
def spAllTables : Sp := fun vs H Q _ => vs = [] ∧ GivesT ((tups 3).map fun r => V.str (tab r)) H Q
theorem ok_all_tables (F : Fun K "all_tables" "all_tables" sall_tables f fd) (B : Blt mg) (D_all_arguments : DefG P w K mg base "all_arguments" ["count"] 2 spAllArgs) :
    FnG P w K mg base 3 f fd [] spAllTables := by
  refine fnG F scall_tables (fun vs H Q E h => ?_) (fun cdv A fr s H vs Q E hr gd h => ?_)
  · obtain ⟨rfl, _⟩ := h
    rfl
  · obtain ⟨rfl, k⟩ := h
    refine ⟨_, (pss_one (ps_ret (pe_callTy call_tuple_of (by rfl) B.m_tuple (by decide +kernel) (pa_cons (pe_lc (own := [("row", 0)]) (g := gName 0) rfl scall_tables.nd (pi_list (pe_def D_all_arguments (hr.mono (by decide)) gd rfl (pa_cons pe_int pa_nil))) (blkOk_by (own := [("row", 0)]) (N := Nall_tables) (sc := defScope sall_tables) (by decide +kernel)) (fun _ _ _ _ _ => (pg_name (i := 0) scall_tables.nd rfl (Or.inl rfl))) (fun _ _ _ _ _ => pts_nil) (fun _ _ _ _ _ => (show PE _ _ (tM1 (rJoin K) _ _) from pe_join pe_str (pe_lc (own := [("x", 1)]) (g := gName 1) rfl scall_tables.nd (show PI _ _ _ (iTup K _) from (pi_tup (pv 0))) (blkOk_by (own := [("x", 1)]) (by rfl)) (fun _ _ _ _ _ => (pg_name (i := 1) scall_tables.nd rfl (Or.inl rfl))) (fun _ _ _ _ _ => pts_nil) (fun _ _ _ _ _ => (pe_callTy call_str_int (by rfl) B.m_str (by decide +kernel) (pa_cons (pv 1) pa_nil))))))) pa_nil)))), ?_⟩
    refine s_retU (xs := (tups 3).map fun r => V.str (tab r)) (eu_tupleN fun H1 e Q1 q => ?_) k
    refine ⟨3, by decide, rfl, fun p H2 xs hp e2 hx R => ⟨p, rfl, ⟨xs, SqL.of hx⟩, fun D hD => lc_list (K := K) (xs := xs)
      (Cw H2 (fun _ => true) (fun i => .str (tab ((tups 3).getD i []))) D) ⟨hD, Ex.new hD, upd_same⟩ (fun i H' _ pc => sq_of (pc.2.1 _ _ hx)) (fun i x H' hi pc => ⟨rfl, ?_⟩) (fun H' pc => ?_)⟩⟩
    · obtain ⟨r, hr', ra, rfl, hra⟩ := R.get hi
      have rl := tups_short (by decide) hr'
      have r3 : ∀ a ∈ r, a < 3 := by
        obtain ⟨lt, e3⟩ := List.getElem?_eq_some_iff.mp hr'
        have h1 := ((tups_ok 3 (by decide)).2 i lt).2.2
        rw [List.getD_eq_getElem?_getD, hr'] at h1
        intro a ha
        exact of_decide_eq_true (List.all_eq_true.mp h1 a ha)
      have il : i < 27 := by
        have := (List.getElem?_eq_some_iff.mp hr').1
        exact this
      refine cw_turn pc (by omega) et_yes fun _ => ?_
      have er : (tups 3).getD i [] = r := by rw [List.getD_eq_getElem?_getD, hr']; rfl
      rw [er]
      refine ev_joinTab ev_c ?_ (by omega)
      have eg : (r.map fun d => (⟨#[48 + d]⟩ : Str)).map V.str = given (iv r).length (fun _ => true) (fun i => .str ⟨#[48 + r.getD i 0]⟩) := by
        rw [iv_len, given_iv 0 r (fun d => V.str ⟨#[48 + d]⟩), List.map_map]
        rfl
      rw [eg]
      refine el_lcT (a := ra) (xs := iv r) (fun _ => true) (fun i => .str ⟨#[48 + r.getD i 0]⟩) (ev_var rfl) (st_of hra) (by rw [iv_len]; omega) (fun y => rfl)
        (fun i x H1 e hx => et_yes) (fun i x H1 e hx _ => ?_)
      obtain ⟨a, ha, rfl⟩ := iv_at hx
      have ea : r.getD i 0 = a := by rw [List.getD_eq_getElem?_getD, ha]; rfl
      rw [ea]
      exact ev_strInt (ev_var rfl) (r3 a (List.mem_of_getElem? ha))
    · have h3 := pc.2.2
      rw [R.len, given_iv [] (tups 3) (fun r => V.str (tab r))] at h3
      exact q D H' (fresh_back e2 pc.1) (e2.trans pc.2.1) h3
theorem el_splitB {σ : L2.St} {H : Hp} {te : TE} {x b : Str} {ys : List Str} (h : Ev te σ H (.str x)) (e1 : Txt.split x b = ys) (nb : (b.length == 0) = false) (z : x.length ≤ 1000) :
    EvL (tBM K "str" (fun x xs H Q => ∃ a b, x = .str a ∧ xs = [.str b] ∧ (b.length == 0) = false ∧ a.length + 2 ≤ sizeLine ∧ rNewStrs (Txt.split a b) H Q) te (tCons (tC (.str b)) tNil)) σ H (ys.map V.str) := fun H1 e Q q =>
  h H1 e _ fun H2 e2 => ⟨rfl, x, b, rfl, rfl, nb, Nat.le_trans (by omega : x.length + 2 ≤ 1002) (by decide), fun p hp => by
    rw [e1]
    exact q p _ (fresh_back e2 hp) (e2.trans (Ex.new hp)) upd_same⟩
theorem ev_dno {σ : L2.St} {H : Hp} {td ty : TE} {a : Addr} {kvs : List (Key × V)} {x : Str} {v : V} (h : Ev ty σ H (.str x)) (hd : Ev td σ H (.ref a)) (ha : H a = some (.dK kvs)) (hv : valV kvs (Sum.inr x) = some v) : Ev (tDNotIn ty td) σ H (.bl false) := fun H1 e Q q =>
  h H1 e _ fun H2 e2 => hd H2 (e.trans e2) _ fun H3 e3 => ⟨a, some v, rfl, by
    have g := DGet.k (H := H3) (a := a) (k := Sum.inr x) (e3 _ _ (e2 _ _ (e _ _ ha)))
    rw [hv] at g
    exact g, q H3 (e2.trans e3)⟩
theorem rowsV_len (L : List Nt) : (rowsV L).length = L.length := List.length_map ..
abbrev slaw_is_whole : Stmt := top 72
abbrev Nlaw_is_whole : List Str := ["thing", "least", "most"]
theorem sclaw_is_whole : FnScope Nlaw_is_whole ["thing", "least", "most"] (defScope slaw_is_whole) := ⟨rfl, rfl, rfl, by decide +kernel, rfl, by decide +kernel, by decide +kernel⟩
def spWhole : Sp := fun vs H Q _ => ∃ a m : Nat, a ≤ m ∧ vs = [.int (a : Int), .int 0, .int (m : Int)] ∧ Gives (.bl true) H Q
theorem ok_whole (F : Fun K "_law_is_whole" "_law_is_whole" slaw_is_whole f fd) (B : Blt mg) : FnG P w K mg base 1 f fd ["thing", "least", "most"] spWhole := by
  refine fnG F sclaw_is_whole (fun vs H Q E h => ?_) (fun cdv A fr s H vs Q E hr gd h => ?_)
  · obtain ⟨a, m, _, rfl, _⟩ := h
    rfl
  · obtain ⟨a, m, am, rfl, k⟩ := h
    refine ⟨_, (pss_one (ps_ret (pe_and (pe_callB call_isi (by rfl) B.m_isinstance (by decide +kernel) (pa_cons (pv 0) (pa_cons (pe_bltn (v := .ty "int") rfl B.m_int (by decide +kernel) rfl) pa_nil))) (pe_and (pe_not (pe_callB call_isi (by rfl) B.m_isinstance (by decide +kernel) (pa_cons (pv 0) (pa_cons (pe_bltn (v := .ty "bool") rfl B.m_bool (by decide +kernel) rfl) pa_nil)))) (pe_one (pe_chain op_le op_le (pv 1) (pv 0) (pv 2))))))), ?_⟩
    refine s_ret (v := .bl (true && ((!false) && true))) (ev_andV (ev_isi (nm := "int") (c := "int") (ev_var rfl) (.base (.int _)) (by decide +kernel)) fun _ => ev_andV (ev_notV (ev_isi (nm := "int") (c := "bool") (ev_var rfl) (.base (.int _)) (by decide +kernel))) fun _ =>
      ev_chain (ev_var rfl) (ev_var rfl) (z := .int (m : Int)) ?_ (ev_var rfl) ?_) k
    · refine fun H4 e4 Q q => ⟨_, _, rfl, rfl, ?_⟩
      show Q (.bl (decide ((0 : Int) ≤ (a : Int)))) H4
      rw [decide_eq_true (by omega)]
      exact q H4 (Ex.refl _)
    · refine fun H4 e4 Q q => ⟨_, _, rfl, rfl, ?_⟩
      show Q (.bl (decide ((a : Int) ≤ (m : Int)))) H4
      rw [decide_eq_true (by omega)]
      exact q H4 (Ex.refl _)
abbrev slaw_ran : Stmt := top 77
abbrev Nlaw_ran : List Str := ["rows_now", "thing", "known", "found", "step", "sheet_now", "row_now", "k"]
theorem sclaw_ran : FnScope Nlaw_ran ["rows_now", "thing"] (defScope slaw_ran) := ⟨rfl, rfl, rfl, by decide +kernel, rfl, by decide +kernel, by decide +kernel⟩
def spLRan (K : PySem.W.Frag) : Sp := fun vs H Q _ => ∃ (l p : Addr) (L : List Nt) (zs : List V) (T : List (Str × List Nat)), vs = [.ref l, .ref p] ∧ SqL K H l (rowsV L) ∧ Oks L ∧ H p = some (.tup zs) ∧ Tolds H zs T ∧ T.length ≤ 100 ∧
  (∀ i t, T[i]? = some t → StepOk L (i + 1) t) ∧ (∀ r ∈ ranOf L T, IsTab r 1) ∧ (∀ q H', H q = none → Ex H H' → H' q = some (.lst (textsV (ranOf L T))) → Q (.ref q) H')
theorem ok_lran (F : Fun K "_law_ran" "_law_ran" slaw_ran f fd) (B : Blt mg) (B6 : Blt6 mg) (D__law_is_whole : DefG P w K mg base "_law_is_whole" ["thing", "least", "most"] 1 spWhole) (D__law_places : DefG P w K mg base "_law_places" ["sheet_now"] 1 spPlaces)
    (D__law_put : DefG P w K mg base "_law_put" ["sheet_now", "some"] 2 spLPut) : FnG P w K mg base 3 f fd ["rows_now", "thing"] (spLRan K) := by
  refine fnG F sclaw_ran (fun vs H Q E h => ?_) (fun cdv A fr s H vs Q E hr gd h => ?_)
  · obtain ⟨l, p, L, zs, T, rfl, _⟩ := h
    rfl
  · obtain ⟨l, p, L, zs, T, rfl, hl, ok, hp, TS, T100, sok, rok, k⟩ := h
    refine ⟨_, (pss_cons (ps_if (pt_not (pt_val (pe_callB call_isi (by rfl) B.m_isinstance (by decide +kernel) (pa_cons (pv 1) (pa_cons (pe_bltn (v := .ty "tuple") rfl B.m_tuple (by decide +kernel) rfl) pa_nil))))) (pss_one (ps_ret (pe_lst pa_nil))) pss_nil)
  (pss_cons (ps_asg (pe_tup (pa_cons (pe_callTy (call_dictL rfl) (by rfl) B6.m_dict (by decide +kernel) (pa_cons (pe_lc (own := [("row_now", 6)]) (g := gName 6) rfl sclaw_ran.nd (pi_list (pv 0)) (blkOk_by (own := [("row_now", 6)]) (N := Nlaw_ran) (sc := defScope slaw_ran) (by decide +kernel)) (fun _ _ _ _ _ => (pg_name (i := 6) sclaw_ran.nd rfl (Or.inl rfl))) (fun _ _ _ _ _ => pts_nil) (fun _ _ _ _ _ => (show PE _ _ (tBM K _ _ _ _) from (pe_bm PySem.F.plainAttrs_str PySem.F.slot_str_split PySem.F.type_str_split mt_split (pv 6) (pa_cons pe_str pa_nil))))) pa_nil)) (pa_cons (pe_lst (pa_cons pe_str pa_nil)) pa_nil))) (pg_tup rfl (pgs_cons (pg_name (i := 2) sclaw_ran.nd rfl (Or.inl rfl)) (pgs_cons (pg_name (i := 3) sclaw_ran.nd rfl (Or.inr rfl)) pgs_nil))))
  (pss_cons (ps_for PassesOwn.never rfl (pi_tup (pv 1)) (pg_name (i := 4) sclaw_ran.nd rfl (Or.inl rfl)) (pss_cons (ps_if (PW.pt (pw_or (pt_not (pt_val (pe_callB call_isi (by rfl) B.m_isinstance (by decide +kernel) (pa_cons (pv 4) (pa_cons (pe_bltn (v := .ty "tuple") rfl B.m_tuple (by decide +kernel) rfl) pa_nil))))) (pw_or (pt_cmpR op_ne (pe_callB call_len (by rfl) B.m_len (by decide +kernel) (pa_cons (pv 4) pa_nil)) pe_int (nomark _)) (pw_or (pt_not (pt_val (pe_callB call_isi (by rfl) B.m_isinstance (by decide +kernel) (pa_cons (pe_ix ix_tup (pv 4) pe_int (fun _ _ => rfl)) (pa_cons (pe_bltn (v := .ty "str") rfl B.m_str (by decide +kernel) rfl) pa_nil))))) (pw_or1 (pt_cmp (pc_dnotin (hu_of hr) (pe_ix ix_tup (pv 4) pe_int (fun _ _ => rfl)) (pv 2)))))))) (pss_one (ps_ret (pe_lst pa_nil))) pss_nil)
  (pss_cons (ps_set (i := 5) sclaw_ran.nd rfl (Or.inl rfl) (pe_dget (hu_of hr) (pv 2) (pe_ix ix_tup (pv 4) pe_int (fun _ _ => rfl)) (fun _ _ => rfl)))
  (pss_cons (ps_if (PW.pt (pw_or (pt_not (pt_val (pe_callB call_isi (by rfl) B.m_isinstance (by decide +kernel) (pa_cons (pe_ix ix_tup (pv 4) pe_int (fun _ _ => rfl)) (pa_cons (pe_bltn (v := .ty "tuple") rfl B.m_tuple (by decide +kernel) rfl) pa_nil))))) (pw_or1 (pt_cmpR op_ne (pe_callB call_len (by rfl) B.m_len (by decide +kernel) (pa_cons (pe_ix ix_tup (pv 4) pe_int (fun _ _ => rfl)) pa_nil)) (pe_def D__law_places (hr.mono (by decide)) gd rfl (pa_cons (pv 5) pa_nil)) (nomark _))))) (pss_one (ps_ret (pe_lst pa_nil))) pss_nil)
  (pss_cons (ps_if (pt_not (pt_val (pe_callB (cr_all rfl) (by rfl) B.m_all (by decide +kernel) (pa_cons (pe_lc (own := [("k", 7)]) (g := gName 7) rfl sclaw_ran.nd (pi_tup (pe_ix ix_tup (pv 4) pe_int (fun _ _ => rfl))) (blkOk_by (own := [("k", 7)]) (N := Nlaw_ran) (sc := defScope slaw_ran) (by decide +kernel)) (fun _ _ _ _ _ => (pg_name (i := 7) sclaw_ran.nd rfl (Or.inl rfl))) (fun _ _ _ _ _ => pts_nil) (fun _ _ _ _ _ => (pe_def D__law_is_whole (hr.mono (by decide)) gd rfl (pa_cons (pv 7) (pa_cons pe_int (pa_cons (pe_op op_sub (pe_callB (show CallR _ _ (fun xs H Q => ∃ x n, xs = [x] ∧ LenV K x H n ∧ Q (.int (n : Nat)) H) from call_len) (by rfl) B.m_len (by decide +kernel) (pa_cons (pv 3) pa_nil)) pe_int) pa_nil)))))) pa_nil)))) (pss_one (ps_ret (pe_lst pa_nil))) pss_nil)
  (pss_one (ps_expr (pe_bm PySem.F.plainAttrs_list PySem.F.slot_list_append PySem.F.type_list_append mt_append (pv 3) (pa_cons (pe_def D__law_put (hr.mono (by decide)) gd rfl (pa_cons (pv 5) (pa_cons (pe_lc (own := [("k", 7)]) (g := gName 7) rfl sclaw_ran.nd (pi_tup (pe_ix ix_tup (pv 4) pe_int (fun _ _ => rfl))) (blkOk_by (own := [("k", 7)]) (N := Nlaw_ran) (sc := defScope slaw_ran) (by decide +kernel)) (fun _ _ _ _ _ => (pg_name (i := 7) sclaw_ran.nd rfl (Or.inl rfl))) (fun _ _ _ _ _ => pts_nil) (fun _ _ _ _ _ => (pe_ix (show IxR _ (rIxL K) from ix_list) (pv 3) (pv 7) (fun _ _ => rfl)))) pa_nil))) pa_nil)))))))))
  (pss_one (ps_ret (pv 3)))))), ?_⟩
    have split_ : ∀ H0 : Hp, SqL K H0 l (rowsV L) → EvLots (tLc (iList K (tVar 0)) (gName 6) tYes (tBM K "str" (fun x xs H Q => ∃ a b, x = .str a ∧ xs = [.str b] ∧ (b.length == 0) = false ∧ a.length + 2 ≤ sizeLine ∧ rNewStrs (Txt.split a b) H Q) (tVar 6) (tCons (tC (.str (Str.ofString " "))) tNil)) [6])
        [some (.ref l), some (.ref p), none, none, none, none, none, none] H0 (L.map fun x => [V.str x.nm, V.str (tab x.ds)]) := fun H0 hl => by
      rw [← range_getD default L fun x => [V.str x.nm, V.str (tab x.ds)], ← rowsV_len]
      refine elo_lcL (a := l) (xs := rowsV L) _ (ev_var rfl) hl (by rw [rowsV_len]; have := ok.few; omega) (fun y => rfl) (fun i z H1 e1 hz => ?_)
      obtain ⟨x, hx, rfl⟩ := rowsV_at hz
      show EvL _ _ _ [V.str (L.getD i default).nm, V.str (tab (L.getD i default).ds)]
      rw [ntD_at hx]
      have xo := ok.ok x (List.mem_of_getElem? hx)
      exact el_splitB (ys := [x.nm, tab x.ds]) (ev_var rfl) (row_split xo) rfl (Nat.le_trans (row_len xo) (by decide))
    refine q_pass (et_is (et_not (et_B (ev_isTup (ev_var rfl) (.inl hp)))) rfl) fun H00 e00 => ?_
    replace hl : SqL K H00 l (rowsV L) := ex_l e00 hl
    replace hp := e00 _ _ hp
    replace TS := Tolds.mono e00 TS
    have kk := k
    replace k : ∀ q H', H00 q = none → Ex H00 H' → H' q = some (.lst (textsV (ranOf L T))) → Q (.ref q) H' := fun q H' hq e h => kk q H' (fresh_back e00 hq) (e00.trans e) h
    clear kk
    dsimp only [tSeq, tAsg, tTup, tCons, tCB, L2.start]
    refine split_ H00 hl H00 (Ex.refl _) _ fun pl H1 ys hpl e1 h1 RL => ?_
    obtain ⟨ps, rfl, R2⟩ := lists_kv (K := K) RL
    refine ⟨pl, ps, kvL L, rfl, SqL.of h1, R2, fun pd hpd => ?_⟩
    rw [kvL_apart ok.apart]
    have e2 := Ex.new (o := .dK (kvL L)) hpd
    have d2 : upd H1 pd (.dK (kvL L)) pd = some (.dK (kvL L)) := upd_same
    generalize upd H1 pd (.dK (kvL L)) = H2 at e2 d2
    refine ⟨by show 1 ≤ sizeLine; decide, fun pf hpf => ⟨by show 2 ≤ sizeLine; decide, fun T0 hT0 => ⟨T0, _, rfl, SqT.of upd_same, rfl, _, _, rfl, ⟨_, _, rfl, rfl, ?_⟩⟩⟩⟩
    have e3 := Ex.new (o := .lst [V.str (Str.ofString "012")]) hpf
    have e4 := Ex.new (o := .tup [V.ref pd, .ref pf]) hT0
    have f4 : upd (upd H2 pf (.lst [V.str (Str.ofString "012")])) T0 (.tup [V.ref pd, .ref pf]) pf = some (.lst (textsV ((ranOf L T).take 1))) := by
      have z := e4 _ _ (upd_same (H := H2) (a := pf) (o := .lst [V.str (Str.ofString "012")]))
      rw [z, ← ran_cut T 0]
      rfl
    have d4 := e4 _ _ (e3 _ _ d2)
    have e04 := (e1.trans e2).trans (e3.trans e4)
    have pf0 : H00 pf = none := fresh_back (e1.trans e2) hpf
    generalize upd (upd H2 pf (.lst [V.str (Str.ofString "012")])) T0 (.tup [V.ref pd, .ref pf]) = H4 at e4 f4 d4 e04
    have zl : zs.length = T.length := Paired.length TS
    have np : p ≠ pf := fun z => by rw [z, pf0] at hp; cases hp
    have nd : pd ≠ pf := fun z => by rw [z] at d2; rw [d2] at hpf; cases hpf
    refine q_forT (a := p) (xs := zs) (ev_var rfl) (SqT.of (e04 _ _ hp)) (fun i σ H5 => ∃ v4 v5 : Option V, σ = [some (.ref l), some (.ref p), some (.ref pd), some (.ref pf), v4, v5, none, none] ∧ H5 pf = some (.lst (textsV ((ranOf L T).take (i + 1)))) ∧ Save pf H4 H5)
      (fun H5 e5 => ⟨none, none, rfl, e5 _ _ f4, Save.of e5⟩) (fun i σ H5 _ ⟨_, _, _, _, s5⟩ => SqT.of (s5 _ _ np (e04 _ _ hp))) ?_ ?_
    · rintro i z σ H5 hi ⟨v4, v5, rfl, f5, s5⟩
      obtain ⟨t, ht, a, q, rfl, ha, hq⟩ := paired_get TS hi
      obtain ⟨x, hx, tx, tl, tk⟩ := sok i t ht
      have xo := ok.ok x hx
      have na : a ≠ pf := fun z => by rw [z, pf0] at ha; cases ha
      have nq : q ≠ pf := fun z => by rw [z, pf0] at hq; cases hq
      have ha5 := s5 _ _ na (e04 _ _ ha)
      have hq5 := s5 _ _ nq (e04 _ _ hq)
      have d5 := s5 _ _ nd d4
      have il := (List.getElem?_eq_some_iff.mp ht).1
      have next : (ranOf L T).take (i + 1 + 1) = (ranOf L T).take (i + 1) ++ [rowOf 3 x ((ranOf L T).take (i + 1)) t.2] := by
        rw [← ran_cut T (i + 1), ← ran_cut T i, List.take_add_one, ht]
        show (T.take i ++ [t]).foldl (ranStep L) [[0, 1, 2]] = _
        rw [List.foldl_append]
        show ranStep L (ranOf L (T.take i)) t = _
        unfold ranStep
        rw [tx, tabOf_in ok.apart hx]
      have rl : (ranOf L T).length = T.length + 1 := by
        have := congrArg List.length (ran_cut (L := L) T T.length)
        rw [List.take_length] at this
        have l2 : ∀ (T : List (Str × List Nat)) (F : List (List Nat)), (T.foldl (ranStep L) F).length = F.length + T.length := by
          intro T
          induction T with
          | nil => exact fun F => rfl
          | cons t T ih =>
            intro F
            rw [List.foldl_cons, ih]
            unfold ranStep
            rw [List.length_append, List.length_cons]
            show F.length + 1 + T.length = F.length + (T.length + 1)
            omega
        unfold ranOf
        rw [l2]
        show 1 + _ = _
        omega
      have cutl : ((ranOf L T).take (i + 1)).length = i + 1 := by rw [List.length_take]; omega
      have cutok : ∀ r ∈ (ranOf L T).take (i + 1), IsTab r 1 := fun r hr => rok r (List.mem_of_mem_take hr)
      rw [next]
      generalize (ranOf L T).take (i + 1) = G at f5 cutl cutok
      have gk : ∀ k ∈ t.2, IsTab (G.getD k []) 1 ∧ G[k]? = some (G.getD k []) := fun k hk => by
        have lt := tk k hk
        have e : G[k]? = some (G.getD k []) := by
          rw [List.getD_eq_getElem?_getD, List.getElem?_eq_getElem (by omega)]
          rfl
        exact ⟨cutok _ (List.mem_of_getElem? e), e⟩
      obtain ⟨tn, ti⟩ := t
      obtain rfl : tn = x.nm := tx
      have tl : ti.length = x.n := tl
      have tk : ∀ k ∈ ti, k < i + 1 := tk
      have kv := kvL_get ok.apart hx
      dsimp only [gName]
      refine q_pass (et_is (et_or (et_not (et_B (ev_isTup (ev_var rfl) (.inl ha5)))) fun _ => et_or (et_test (ev_op (ev_lenTup (ev_var rfl) (.inl ha5)) ev_c (rv_ne rfl))) fun _ => et_or (et_not (et_B (ev_isStr (x := x.nm) (ev_op (ev_var rfl) ev_c (rv_ixT (SqT.of ha5) rfl))))) fun _ =>
        et_B (ev_dno (ev_op (ev_var rfl) ev_c (rv_ixT (SqT.of ha5) rfl)) (ev_var rfl) d5 kv)) (by simp)) fun H6 e6 => ?_
      have ha6 := e6 _ _ ha5
      have hq6 := e6 _ _ hq5
      have d6 := e6 _ _ d5
      refine q_asg (v := .str (tab x.ds)) (fun H7 e7 Q q7 => ⟨_, rfl, _, rfl, a, _, (0 : Int), V.str x.nm, rfl, rfl, SqT.of (e7 _ _ ha6), rfl, pd, _, rfl, ?_, q7 H7 (Ex.refl _)⟩) fun H7 e7 => ?_
      · have g := DGet.k (H := H7) (a := pd) (k := Sum.inr x.nm) (e7 _ _ d6)
        rw [kv] at g
        exact g
      have ha7 := e7 _ _ ha6
      have hq7 := e7 _ _ hq6
      refine q_pass (et_is (et_or (et_not (et_B (ev_isTup (p := q) (xs := iv ti) (ev_op (ev_var rfl) ev_c (rv_ixT (SqT.of ha7) rfl)) (.inl hq7)))) fun _ => et_test (ev_op (ev_lenTup (p := q) (xs := iv ti) (ev_op (ev_var rfl) ev_c (rv_ixT (SqT.of ha7) rfl)) (.inl hq7)) (ev_def (v := .int (x.n : Int)) (ea_cons (ev_var rfl) ea_nil) fun H8 _ Q q => ⟨x.ds, x.n, xo.tab, rfl, q⟩) (rv_ne rfl))) (by rw [iv_len, tl, decide_eq_true rfl]; rfl)) fun H8 e8 => ?_
      have ha8 := e8 _ _ ha7
      have hq8 := e8 _ _ hq7
      have f8 := e8 _ _ (e7 _ _ (e6 _ _ f5))
      refine q_pass (et_is (et_not (et_B (ev_allN (bs := List.replicate (iv ti).length true) ?_))) (by rw [all_trues]; rfl)) fun H9 e9 => ?_
      · rw [trues]
        refine el_lcT (a := q) (xs := iv ti) (fun _ => true) (fun _ => .bl true) (ev_op (ev_var rfl) ev_c (rv_ixT (SqT.of ha8) rfl)) (SqT.of hq8) (by rw [iv_len, tl]; have := xo.tab.n3; omega) (fun y => rfl) (fun i x H1 e hx => et_yes) (fun j y H9 e9 hy _ => ?_)
        obtain ⟨k, hk, rfl⟩ := iv_at hy
        have kl := tk k (List.mem_of_getElem? hk)
        exact ev_def (ea_cons (ev_var rfl) (ea_cons ev_c (ea_cons (ev_is (ev_op (ev_lenLs (xs := textsV G) (ev_var rfl) (SqL.of (e9 _ _ f8))) ev_c rv_I0) (show V.int (((textsV G).length : Nat) - 1) = V.int ((i : Nat) : Int) by rw [textsV_len, cutl]; congr 1; omega)) ea_nil))) fun H10 _ Q q => ⟨k, i, by omega, rfl, q⟩
      have ha9 := e9 _ _ ha8
      have hq9 := e9 _ _ hq8
      have f9 := e9 _ _ f8
      refine s_app (xs := textsV G) (v := .str (tab (rowOf 3 x G ti))) f9 (ev_var rfl) (ev_def2L (z := .str (tab x.ds)) (xs := textsV (ti.map fun k => G.getD k [])) (ev_var rfl) ?_ fun pr H10 e10 hpr Q q10 => ⟨x.ds, x.n, 1, pr, _, rfl, xo.tab, hpr, by rw [List.length_map, tl], fun r hr => ?_, q10⟩)
        (by rw [textsV_len, cutl]; exact Nat.lt_of_le_of_lt (by omega : _ ≤ 101) (by decide)) fun H10 e10 => ⟨_, _, rfl, ?_, fun b o nb hb => ?_⟩
      · have eg : textsV (ti.map fun k => G.getD k []) = given (iv ti).length (fun _ => true) (fun j => V.str (tab (G.getD (ti.getD j 0) []))) := by
          rw [iv_len, given_iv 0 ti fun k => V.str (tab (G.getD k []))]
          unfold textsV
          rw [List.map_map]
          rfl
        rw [eg]
        refine el_lcT (a := q) (xs := iv ti) (fun _ => true) _ (ev_op (ev_var rfl) ev_c (rv_ixT (SqT.of ha9) rfl)) (SqT.of hq9) (by rw [iv_len, tl]; have := xo.tab.n3; omega) (fun y => rfl) (fun j y H6 e6 hy => et_yes) (fun j y H6 e6 hy _ => ?_)
        obtain ⟨k, hk, rfl⟩ := iv_at hy
        have ek : ti.getD j 0 = k := by rw [List.getD_eq_getElem?_getD, hk]; rfl
        rw [ek]
        exact ev_op (ev_var rfl) (ev_var rfl) (rv_ixL (i := (k : Int)) (SqL.of (e6 _ _ f9)) (atI_nat (by unfold textsV; rw [List.getElem?_map, (gk k (List.mem_of_getElem? hk)).2]; rfl)))
      · obtain ⟨k, hk, rfl⟩ := List.mem_map.mp hr
        exact (gk k hk).1
      · rw [upd_same]
        unfold textsV
        rw [List.map_append]
        rfl
      · rw [upd_ne nb]
        exact e10 _ _ (e9 _ _ (e8 _ _ (e7 _ _ (e6 _ _ (s5 b o nb hb)))))
    · rintro σ H5 ⟨v4, v5, rfl, f5, s5⟩
      rw [zl, ← ran_cut, List.take_length] at f5
      refine s_ret (ev_var rfl) fun H6 e6 => k pf H6 pf0 (fun b o hb => ?_) (e6 _ _ f5)
      have nb : b ≠ pf := fun z => by rw [z, pf0] at hb; cases hb
      exact e6 _ _ (s5 b o nb (e04 _ _ hb))
end
end Tv

namespace Tv
open PySem PySem.Spec PyProof.Rows L2 Evl
section
variable {P : Program} {w : World} {K : PySem.W.Frag} {mg : Str → Option Value} {base : Heap} {f aL aW C : Addr} {fd : FuncData}
def topD : List Nat := [0, 1, 2, 1, 1, 2, 2, 2, 2]
def downD : List Nat := [2, 1, 0]
def firstD : List Nat := [0, 0, 0, 1, 1, 1, 2, 2, 2]
def secondD : List Nat := [0, 1, 2, 0, 1, 2, 0, 1, 2]
def oneAt (k : Nat) : List Nat := (List.range 3).map fun i => if i = k then 2 else 0
def spike (k d : Nat) : List Nat := (List.range 9).map fun i => if i = k then d else 0
def fndK (ds : List Nat) (k : Nat) : List Nat := (List.range 9).map fun i => if i < k then ds.getD i 0 else 0
instance tabDec (ds : List Nat) (n : Nat) : Decidable (IsTab ds n) := decidable_of_iff (1 ≤ n ∧ n ≤ 3 ∧ ds.length = 3 ^ n ∧ ∀ d ∈ ds, d < 3) ⟨fun h => ⟨h.1, h.2.1, h.2.2.1, h.2.2.2⟩, fun h => ⟨h.n1, h.n3, h.len, h.dig⟩⟩
theorem spikes : ∀ k < 9, ∀ d < 3, putT downD [putT topD [putT topD [putT downD [putT (oneAt (k / 3)) [firstD] 2] 2, putT downD [putT (oneAt (k % 3)) [secondD] 2] 2] 2, putT downD [putT [d, d, d] [firstD] 2] 2] 2] 2 = spike k d := by decide +kernel
theorem spike_tab : ∀ k < 9, ∀ d < 3, IsTab (spike k d) 2 := by decide +kernel
theorem oneAt_tab : ∀ k < 3, IsTab (oneAt k) 1 := by decide +kernel
theorem ddd_tab : ∀ d < 3, IsTab [d, d, d] 1 := by decide +kernel
theorem top_tab : IsTab topD 2 := by decide +kernel
theorem down_tab : IsTab downD 1 := by decide +kernel
theorem first_tab : IsTab firstD 2 := by decide +kernel
theorem second_tab : IsTab secondD 2 := by decide +kernel
theorem top_zero : ∀ a < 3, topD.getD (num [a, 0]) 0 = a ∧ topD.getD (num [0, a]) 0 = a := by decide +kernel
theorem at_map9 {g : Nat → Nat} {i : Nat} (h : i < 9) : ((List.range 9).map g).getD i 0 = g i := by
  rw [List.getD_eq_getElem?_getD, List.getElem?_map, List.getElem?_range h]
  rfl
theorem top_step {ds : List Nat} (T : IsTab ds 2) {k : Nat} (hk : k < 9) : putT topD [fndK ds k, spike k (ds.getD k 0)] 2 = fndK ds (k + 1) := by
  unfold putT
  show (List.range 9).map _ = (List.range 9).map _
  refine List.map_congr_left fun i hi => ?_
  have i9 := List.mem_range.mp hi
  have dl : ds.getD i 0 < 3 := getD_lt3 T.dig _
  show topD.getD (num [(fndK ds k).getD i 0, (spike k (ds.getD k 0)).getD i 0]) 0 = _
  unfold fndK spike
  rw [at_map9 i9, at_map9 i9]
  by_cases h1 : i < k
  · rw [if_pos h1, if_neg (by omega : ¬ i = k), if_pos (by omega : i < k + 1)]
    exact (top_zero _ dl).1
  · by_cases h2 : i = k
    · subst h2
      rw [if_neg h1, if_pos rfl, if_pos (by omega : i < i + 1)]
      exact (top_zero _ dl).2
    · rw [if_neg h1, if_neg h2, if_neg (by omega : ¬ i < k + 1)]
      rfl
theorem fnd_tab {ds : List Nat} (T : IsTab ds 2) (k : Nat) : IsTab (fndK ds k) 2 := ⟨by decide, by decide, by unfold fndK; simp, fun d hd => by
  unfold fndK at hd
  obtain ⟨i, _, rfl⟩ := List.mem_map.mp hd
  have := getD_lt3 T.dig i
  split <;> omega⟩
theorem fnd_start (ds : List Nat) : putT [0, 0, 0] [firstD] 2 = fndK ds 0 := rfl
theorem fnd_end {ds : List Nat} (T : IsTab ds 2) : fndK ds 9 = ds := by
  have l : ds.length = 9 := T.len
  have e : fndK ds 9 = (List.range ds.length).map fun i => id (ds.getD i 0) := by
    rw [l]
    unfold fndK
    exact List.map_congr_left fun i hi => if_pos (List.mem_range.mp hi)
  rw [e, range_getD 0 ds id, List.map_id]
section
variable {σ : L2.St} {H : Hp}
theorem ev_dg {td ty : TE} {p : Addr} {kvs : List (Key × V)} {x : Str} {v : V} (hd : Ev td σ H (.ref p)) (hp : H p = some (.dK kvs)) (h : Ev ty σ H (.str x)) (hv : valV kvs (Sum.inr x) = some v) : Ev (tDGet td ty) σ H v := fun H1 e Q q =>
  hd H1 e _ fun H2 e2 => h H2 (e.trans e2) _ fun H3 e3 => ⟨p, v, rfl, by
    have g := DGet.k (H := H3) (a := p) (k := Sum.inr x) (e3 _ _ (e2 _ _ (e _ _ hp)))
    rw [hv] at g
    exact g, q H3 (e2.trans e3)⟩
theorem ev_put1 {td ta : TE} {ds r : List Nat} {m : Nat} (h1 : Ev td σ H (.str (tab ds))) (T : IsTab ds 1) (h2 : Ev ta σ H (.str (tab r))) (R : IsTab r m) : Ev (tDef spPut (tCons td (tCons (tTup (tCons ta tNil)) tNil))) σ H (.str (tab (putT ds [r] m))) :=
  ev_def2U (xs := [V.str (tab r)]) h1 (eu_tup (ea_cons h2 ea_nil) (by show 1 ≤ 100000; decide)) fun p H1 e hp Q q => ⟨ds, 1, m, p, [r], T, rfl, hp, rfl, fun t ht => by rw [List.mem_singleton.mp ht]; exact R, q⟩
theorem ev_put2 {td ta tb : TE} {ds r s : List Nat} {m : Nat} (h1 : Ev td σ H (.str (tab ds))) (T : IsTab ds 2) (h2 : Ev ta σ H (.str (tab r))) (R : IsTab r m) (h3 : Ev tb σ H (.str (tab s))) (S : IsTab s m) : Ev (tDef spPut (tCons td (tCons (tTup (tCons ta (tCons tb tNil))) tNil))) σ H (.str (tab (putT ds [r, s] m))) :=
  ev_def2U (xs := [V.str (tab r), V.str (tab s)]) h1 (eu_tup (ea_cons h2 (ea_cons h3 ea_nil)) (by show 2 ≤ 100000; decide)) fun p H1 e hp Q q => ⟨ds, 2, m, p, [r, s], T, rfl, hp, rfl, fun t ht => by
    rcases List.mem_cons.mp ht with rfl | ht
    · exact R
    · rw [List.mem_singleton.mp ht]; exact S, q⟩
theorem q_asgU70 {te : TE} {xs : List V} {D : Ends} {tz : TS} {g : TG} (h : EvU te σ H xs) (k : ∀ p H1, Ex H H1 → H1 p = some (.tup xs) → g (.ref p) σ H1 (tz D)) : tSeq (tAsg te g) tz D σ H :=
  h H (Ex.refl H) _ fun p H1 _ e hp => k p H1 e hp
theorem s_asg70 {te : TE} {v : V} {D : Ends} {i : Nat} (h : Ev te σ H v) (k : ∀ H1, Ex H H1 → D.nx (List.set σ i (some v)) H1) : tAsg te (gName i) D σ H := h H (Ex.refl H) _ k
theorem ev_intI {te : TE} {i : Int} (h : Ev te σ H (.int i)) : Ev (tCB (fun xs H Q => (∃ i, xs = [V.int i] ∧ Q (V.int i) H) ∨ ∃ k, xs = [V.bl k] ∧ Q (V.int (if k = true then 1 else 0)) H) (tCons te tNil)) σ H (.int i) := fun H1 e Q q => h H1 e _ fun H2 e2 => Or.inl ⟨_, rfl, q H2 e2⟩
end
theorem ones_are : Str.ofString "200" = tab (oneAt 0) ∧ Str.ofString "020" = tab (oneAt 1) ∧ Str.ofString "002" = tab (oneAt 2) := by decide +kernel
theorem names_are : Str.ofString "000" = tab [0, 0, 0] ∧ Str.ofString "210" = tab downD ∧ Str.ofString "000111222" = tab firstD ∧ Str.ofString "012012012" = tab secondD := by decide +kernel
theorem rep_ddd : ∀ d < 3, repS ⟨#[48 + d]⟩ 3 = tab [d, d, d] := by decide +kernel
theorem one_at {j : Nat} (h : j < 3) : ([V.str (Str.ofString "200"), V.str (Str.ofString "020"), V.str (Str.ofString "002")])[j]? = some (V.str (tab (oneAt j))) := by
  have : j = 0 ∨ j = 1 ∨ j = 2 := by omega
  rcases this with rfl | rfl | rfl
  · rw [← ones_are.1]; rfl
  · rw [← ones_are.2.1]; rfl
  · rw [← ones_are.2.2]; rfl
abbrev slaw_at_two : Stmt := top 78
abbrev Nlaw_at_two : List Str := ["singles", "big", "sheet_now", "first", "second", "down", "found", "k", "here", "turned_here", "least", "each"]
theorem sclaw_at_two : FnScope Nlaw_at_two ["singles", "big", "sheet_now"] (defScope slaw_at_two) := ⟨rfl, rfl, rfl, by decide +kernel, rfl, by decide +kernel, by decide +kernel⟩
def spAtTwo : Sp := fun vs H Q _ => ∃ (p : Addr) (kvs : List (Key × V)) (ds : List Nat), vs = [.ref p, .str (tab topD), .str (tab ds)] ∧ H p = some (.dK kvs) ∧ (∀ r : List Nat, IsTab r 1 → valV kvs (Sum.inr (tab r)) = some (V.str (tab r))) ∧ IsTab ds 2 ∧ Gives (.str (tab ds)) H Q
theorem ok_at_two (F : Fun K "_law_at_two" "_law_at_two" slaw_at_two f fd) (B : Blt mg) (D_put_together : DefG P w K mg base "put_together" ["table", "tables"] 4 spPut) : FnG P w K mg base 5 f fd ["singles", "big", "sheet_now"] spAtTwo := by
  refine fnG F sclaw_at_two (fun vs H Q E h => ?_) (fun cdv A fr s H vs Q E hr gd h => ?_)
  · obtain ⟨p, kvs, ds, rfl, _⟩ := h
    rfl
  · obtain ⟨p, kvs, ds, rfl, hp, all, T, k⟩ := h
    refine ⟨_, (pss_cons (ps_asg (pe_tup (pa_cons pe_str (pa_cons pe_str pa_nil))) (pg_tup rfl (pgs_cons (pg_name (i := 3) sclaw_at_two.nd rfl (Or.inl rfl)) (pgs_cons (pg_name (i := 4) sclaw_at_two.nd rfl (Or.inl rfl)) pgs_nil))))
  (pss_cons (ps_asg (pe_tup (pa_cons pe_str (pa_cons (pe_def D_put_together (hr.mono (by decide)) gd rfl (pa_cons (pe_dget (hu_of hr) (pv 0) pe_str (fun _ _ => rfl)) (pa_cons (pe_tup (pa_cons (pv 3) pa_nil)) pa_nil))) pa_nil))) (pg_tup rfl (pgs_cons (pg_name (i := 5) sclaw_at_two.nd rfl (Or.inr rfl)) (pgs_cons (pg_name (i := 6) sclaw_at_two.nd rfl (Or.inl rfl)) pgs_nil))))
  (pss_cons (ps_for PassesOwn.never rfl (pi_range1 rfl B.m_range (pa_cons pe_int pa_nil)) (pg_name (i := 7) sclaw_at_two.nd rfl (Or.inl rfl)) (pss_cons (ps_set (i := 8) sclaw_at_two.nd rfl (Or.inl rfl) (pe_lst (pa_cons (pe_def D_put_together (hr.mono (by decide)) gd rfl (pa_cons (pe_dget (hu_of hr) (pv 0) (pe_ix ix_list (pe_lst (pa_cons pe_str (pa_cons pe_str (pa_cons pe_str pa_nil)))) (pe_op op_fdiv (pe_callTy call_int1 (by rfl) B.m_int (by decide +kernel) (pa_cons (pv 7) pa_nil)) pe_int) (fun _ _ => rfl)) (fun _ _ => rfl)) (pa_cons (pe_tup (pa_cons (pv 3) pa_nil)) pa_nil))) pa_nil)))
  (pss_cons (ps_expr (pe_bm PySem.F.plainAttrs_list PySem.F.slot_list_append PySem.F.type_list_append mt_append (pv 8) (pa_cons (pe_def D_put_together (hr.mono (by decide)) gd rfl (pa_cons (pe_dget (hu_of hr) (pv 0) (pe_ix ix_list (pe_lst (pa_cons pe_str (pa_cons pe_str (pa_cons pe_str pa_nil)))) (pe_op op_mod (pe_callTy call_int1 (by rfl) B.m_int (by decide +kernel) (pa_cons (pv 7) pa_nil)) pe_int) (fun _ _ => rfl)) (fun _ _ => rfl)) (pa_cons (pe_tup (pa_cons (pv 4) pa_nil)) pa_nil))) pa_nil)))
  (pss_cons (ps_expr (pe_bm PySem.F.plainAttrs_list PySem.F.slot_list_append PySem.F.type_list_append mt_append (pv 8) (pa_cons (pe_def D_put_together (hr.mono (by decide)) gd rfl (pa_cons (pe_dget (hu_of hr) (pv 0) (pe_op op_mulS (pe_ix ix_str (pv 2) (pv 7) (fun _ _ => rfl)) pe_int) (fun _ _ => rfl)) (pa_cons (pe_tup (pa_cons (pv 3) pa_nil)) pa_nil))) pa_nil)))
  (pss_cons (ps_setLc (i := 9) (own := [("each", 11)]) (g := gName 11) rfl sclaw_at_two.nd rfl rfl (sw_true rfl rfl rfl (by decide +kernel)) (pi_list (pv 8)) (blkOk_by (own := [("each", 11)]) (N := Nlaw_at_two) (sc := defScope slaw_at_two) (by decide +kernel)) (fun _ _ _ _ _ => (pg_name (i := 11) sclaw_at_two.nd rfl (Or.inl rfl))) (fun _ _ _ _ _ => pts_nil) (fun _ _ _ _ _ => (pe_def D_put_together (hr.mono (by decide)) gd rfl (pa_cons (pe_dget (hu_of hr) (pv 0) (pv 5) (fun _ _ => rfl)) (pa_cons (pe_tup (pa_cons (pv 11) pa_nil)) pa_nil)))))
  (pss_cons (ps_set (i := 10) sclaw_at_two.nd rfl (Or.inl rfl) (pe_def D_put_together (hr.mono (by decide)) gd rfl (pa_cons (pv 1) (pa_cons (pe_tup (pa_cons (pe_def D_put_together (hr.mono (by decide)) gd rfl (pa_cons (pv 1) (pa_cons (pe_tup (pa_cons (pe_ix ix_list (pv 9) pe_int (fun _ _ => rfl)) (pa_cons (pe_ix ix_list (pv 9) pe_int (fun _ _ => rfl)) pa_nil))) pa_nil))) (pa_cons (pe_ix ix_list (pv 9) pe_int (fun _ _ => rfl)) pa_nil))) pa_nil))))
  (pss_one (ps_set (i := 6) sclaw_at_two.nd rfl (Or.inl rfl) (pe_def D_put_together (hr.mono (by decide)) gd rfl (pa_cons (pv 1) (pa_cons (pe_tup (pa_cons (pv 6) (pa_cons (pe_def D_put_together (hr.mono (by decide)) gd rfl (pa_cons (pe_dget (hu_of hr) (pv 0) (pv 5) (fun _ _ => rfl)) (pa_cons (pe_tup (pa_cons (pv 10) pa_nil)) pa_nil))) pa_nil))) pa_nil)))))))))))
  (pss_one (ps_ret (pv 6)))))), ?_⟩
    obtain ⟨n000, n210, nfir, nsec⟩ := names_are
    have pick : ∀ {σ : L2.St} {H1 : Hp} {ti : TE} {j : Nat}, Ev ti σ H1 (.int (j : Int)) → j < 3 → Ev (tOp (rIxL K) (tLst (tCons (tC (V.str (Str.ofString "200"))) (tCons (tC (V.str (Str.ofString "020"))) (tCons (tC (V.str (Str.ofString "002"))) tNil)))) ti) σ H1 (.str (tab (oneAt j))) := fun {σ H1 ti j} h lt =>
      ev_opL1 (xs := [V.str (Str.ofString "200"), V.str (Str.ofString "020"), V.str (Str.ofString "002")]) (el_lst (ea_cons ev_c (ea_cons ev_c (ea_cons ev_c ea_nil))) (by show 3 ≤ 100000; decide)) (fun H2 e2 => fun H3 e3 Q q => h H3 (e2.trans e3) Q q) fun p H2 hp e2 => rv_ixL (SqL.of hp) (atI_nat (one_at lt))
    refine ⟨by show 2 ≤ sizeLine; decide, fun T0 hT0 => ⟨T0, _, rfl, SqT.of upd_same, rfl, _, _, rfl, ⟨_, _, rfl, rfl, ?_⟩⟩⟩
    have e1 := Ex.new (o := .tup [V.str (Str.ofString "000111222"), V.str (Str.ofString "012012012")]) hT0
    generalize upd H T0 (.tup [V.str (Str.ofString "000111222"), V.str (Str.ofString "012012012")]) = H1 at e1
    have hp1 := e1 _ _ hp
    refine q_asgU70 (eu_tup (ea_cons ev_c (ea_cons (ev_put1 (ds := [0, 0, 0]) (r := firstD) (m := 2) (ev_dg (ev_var rfl) hp1 (by rw [← n000]; exact ev_c) (all _ (by decide +kernel))) (by decide +kernel) (by rw [← nfir]; exact ev_var rfl) first_tab) ea_nil)) (by show 2 ≤ 100000; decide)) fun T1 H2 e2 h2 => ⟨T1, _, rfl, SqT.of h2, rfl, _, _, rfl, ⟨_, _, rfl, rfl, ?_⟩⟩
    have e02 := e1.trans e2
    dsimp only
    rw [fnd_start ds]
    refine q_forR1 (n := 9) (ea_cons ev_c ea_nil) ⟨by decide, by decide⟩ (fun i σ H5 => ∃ v7 v8 v9 v10 : Option V, σ = [some (.ref p), some (.str (tab topD)), some (.str (tab ds)), some (.str (tab firstD)), some (.str (tab secondD)), some (.str (tab downD)), some (.str (tab (fndK ds i))), v7, v8, v9, v10, none] ∧ Ex H H5)
      (fun H5 e5 => ⟨none, none, none, none, by rw [← nfir, ← nsec, ← n210]; rfl, e02.trans e5⟩) ?_ ?_
    · rintro i σ H5 hi ⟨v7, v8, v9, v10, rfl, e5⟩
      have i9 : i < 9 := by omega
      dsimp only
      have hp5 := e5 _ _ hp
      have d3 : ds.getD i 0 < 3 := getD_lt3 T.dig _
      have i3 : i / 3 < 3 := by omega
      have m3 : i % 3 < 3 := by omega
      refine q_asgL (xs := [V.str (tab (putT (oneAt (i / 3)) [firstD] 2))]) (el_lst (ea_cons (ev_put1 (ev_dg (ev_var rfl) hp5 (pick (ev_op (ev_intI (ev_var rfl)) ev_c fun H6 _ Q q => ⟨_, _, rfl, rfl, ⟨by decide, by decide⟩, q H6 (Ex.refl _)⟩) i3) (all _ (oneAt_tab _ i3))) (oneAt_tab _ i3) (ev_var rfl) first_tab) ea_nil) (by show 1 ≤ 100000; decide)) fun ph H6 hph e6 h6 => ?_
      have e06 := e5.trans e6
      have ph0 : H ph = none := fresh_back e5 hph
      have hp6 := e6 _ _ hp5
      refine s_app (xs := [V.str (tab (putT (oneAt (i / 3)) [firstD] 2))]) (v := V.str (tab (putT (oneAt (i % 3)) [secondD] 2))) h6 (ev_var rfl) (ev_put1 (ev_dg (ev_var rfl) hp6 (pick (ev_op (ev_intI (ev_var rfl)) ev_c fun H7 _ Q q => ⟨_, _, rfl, rfl, (by show (0 : Int) < 3; decide), q H7 (Ex.refl _)⟩) m3) (all _ (oneAt_tab _ m3))) (oneAt_tab _ m3) (ev_var rfl) second_tab) (by show 1 < 100000; decide) fun H7 e7 => ?_
      have e07 : Ex H (upd H7 ph (.lst [V.str (tab (putT (oneAt (i / 3)) [firstD] 2)), V.str (tab (putT (oneAt (i % 3)) [secondD] 2))])) := Ex.mut (e06.trans e7) ph0
      have h7 : upd H7 ph (.lst [V.str (tab (putT (oneAt (i / 3)) [firstD] 2)), V.str (tab (putT (oneAt (i % 3)) [secondD] 2))]) ph = some (.lst [V.str (tab (putT (oneAt (i / 3)) [firstD] 2)), V.str (tab (putT (oneAt (i % 3)) [secondD] 2))]) := upd_same
      show tSeq _ _ _ _ (upd H7 ph (.lst [V.str (tab (putT (oneAt (i / 3)) [firstD] 2)), V.str (tab (putT (oneAt (i % 3)) [secondD] 2))]))
      generalize upd H7 ph (.lst [V.str (tab (putT (oneAt (i / 3)) [firstD] 2)), V.str (tab (putT (oneAt (i % 3)) [secondD] 2))]) = H8 at e07 h7
      have hp8 := e07 _ _ hp
      have sgn : Ev (tOp rMulS (tOp rIxS (tVar 2) (tVar 7)) (tC (.int 3))) [some (.ref p), some (.str (tab topD)), some (.str (tab ds)), some (.str (tab firstD)), some (.str (tab secondD)), some (.str (tab downD)), some (.str (tab (fndK ds i))), some (.int (i : Int)), some (.ref ph), v9, v10, none] H8 (.str (tab [ds.getD i 0, ds.getD i 0, ds.getD i 0])) := by
        refine ev_op (x := .str ⟨#[48 + ds.getD i 0]⟩) (ev_op (ev_var rfl) (ev_var rfl) (rv_ixS (by rw [tab_len]; have := T.small; omega) ?_)) ev_c fun H9 _ Q q => ⟨_, 3, rfl, rfl, by decide, by decide, Nat.le_refl 1, (by show 1 ≤ 100; decide), (by rw [rep_ddd _ d3, tab_len]; show 3 ≤ 10000; decide), by rw [rep_ddd _ d3]; exact q H9 (Ex.refl _)⟩
        rw [tab_cps]
        have l : ds.length = 9 := T.len
        exact atI_nat (by rw [List.getElem?_map, List.getElem?_eq_getElem (by omega : i < ds.length), List.getD_eq_getElem?_getD, List.getElem?_eq_getElem (by omega : i < ds.length)]; rfl)
      refine s_app (v := V.str (tab (putT [ds.getD i 0, ds.getD i 0, ds.getD i 0] [firstD] 2))) h7 (ev_var rfl) (ev_put1 (ev_dg (ev_var rfl) hp8 sgn (all _ (ddd_tab _ d3))) (ddd_tab _ d3) (ev_var rfl) first_tab) (by show 2 < 100000; decide) fun H9 e9 => ?_
      have e09 := Ex.mut (o := .lst ([V.str (tab (putT (oneAt (i / 3)) [firstD] 2)), V.str (tab (putT (oneAt (i % 3)) [secondD] 2))] ++ [V.str (tab (putT [ds.getD i 0, ds.getD i 0, ds.getD i 0] [firstD] 2))])) (e07.trans e9) ph0
      have h9 := upd_same (H := H9) (a := ph) (o := .lst ([V.str (tab (putT (oneAt (i / 3)) [firstD] 2)), V.str (tab (putT (oneAt (i % 3)) [secondD] 2))] ++ [V.str (tab (putT [ds.getD i 0, ds.getD i 0, ds.getD i 0] [firstD] 2))]))
      generalize upd H9 ph (.lst ([V.str (tab (putT (oneAt (i / 3)) [firstD] 2)), V.str (tab (putT (oneAt (i % 3)) [secondD] 2))] ++ [V.str (tab (putT [ds.getD i 0, ds.getD i 0, ds.getD i 0] [firstD] 2))])) = H10 at e09 h9
      have hp10 := e09 _ _ hp
      have TA := putT_ok (ts := [firstD]) (oneAt_tab _ i3) (by decide) (fun t ht => by rw [List.mem_singleton.mp ht]; exact first_tab)
      have TB := putT_ok (ts := [secondD]) (oneAt_tab _ m3) (by decide) (fun t ht => by rw [List.mem_singleton.mp ht]; exact second_tab)
      have TC := putT_ok (ts := [firstD]) (ddd_tab _ d3) (by decide) (fun t ht => by rw [List.mem_singleton.mp ht]; exact first_tab)
      have sp := spikes i i9 _ d3
      generalize putT (oneAt (i / 3)) [firstD] 2 = A at *
      generalize putT (oneAt (i % 3)) [secondD] 2 = Bt at *
      generalize putT [ds.getD i 0, ds.getD i 0, ds.getD i 0] [firstD] 2 = Ct at *
      have dT : ∀ {r : List Nat}, IsTab r 2 → IsTab (putT downD [r] 2) 2 := fun R => putT_ok down_tab (by show 1 ≤ 1; decide) (fun t ht => by rw [List.mem_singleton.mp ht]; exact R)
      have tT : ∀ {r s : List Nat}, IsTab r 2 → IsTab s 2 → IsTab (putT topD [r, s] 2) 2 := fun R S => putT_ok top_tab (by show 1 ≤ 2; decide) (fun t ht => by
        rcases List.mem_cons.mp ht with rfl | ht
        · exact R
        · rw [List.mem_singleton.mp ht]; exact S)
      dsimp only
      refine q_asgL (xs := [V.str (tab (putT downD [A] 2)), V.str (tab (putT downD [Bt] 2)), V.str (tab (putT downD [Ct] 2))]) ?_ fun pt H11 hpt e11 h11 => ?_
      · refine el_lcL (a := ph) (xs := [V.str (tab A), V.str (tab Bt), V.str (tab Ct)]) (fun _ => true) (fun j => V.str (tab (putT downD [[A, Bt, Ct].getD j []] 2))) (ev_var rfl) (SqL.of h9) (by show 3 ≤ 40000; decide) (fun y => rfl) (fun j z H11 e11 hz => et_yes) (fun j z H11 e11 hz _ => ?_)
        have jl : j < 3 := (List.getElem?_eq_some_iff.mp hz).1
        have ez : z = V.str (tab ([A, Bt, Ct].getD j [])) ∧ IsTab ([A, Bt, Ct].getD j []) 2 := by
          have : j = 0 ∨ j = 1 ∨ j = 2 := by omega
          rcases this with rfl | rfl | rfl
          · exact ⟨(Option.some.inj hz).symm, TA⟩
          · exact ⟨(Option.some.inj hz).symm, TB⟩
          · exact ⟨(Option.some.inj hz).symm, TC⟩
        obtain ⟨rfl, R⟩ := ez
        exact ev_put1 (ev_dg (ev_var rfl) (e11 _ _ hp10) (ev_var rfl) (all _ down_tab)) down_tab (ev_var rfl) R
      have hp11 := e11 _ _ hp10
      refine q_asg (v := .str (tab (putT topD [putT topD [putT downD [A] 2, putT downD [Bt] 2] 2, putT downD [Ct] 2] 2))) (ev_put2 (ev_var rfl) top_tab (ev_put2 (ev_var rfl) top_tab (ev_op (ev_var rfl) ev_c (rv_ixL (SqL.of h11) rfl)) (dT TA) (ev_op (ev_var rfl) ev_c (rv_ixL (SqL.of h11) rfl)) (dT TB)) (tT (dT TA) (dT TB)) (ev_op (ev_var rfl) ev_c (rv_ixL (SqL.of h11) rfl)) (dT TC)) fun H12 e12 => ?_
      have hp12 := e12 _ _ hp11
      refine s_asg70 (v := .str (tab (putT topD [fndK ds i, putT downD [putT topD [putT topD [putT downD [A] 2, putT downD [Bt] 2] 2, putT downD [Ct] 2] 2] 2] 2))) (ev_put2 (ev_var rfl) top_tab (ev_var rfl) (fnd_tab T i) (ev_put1 (ev_dg (ev_var rfl) hp12 (ev_var rfl) (all _ down_tab)) down_tab (ev_var rfl) (tT (tT (dT TA) (dT TB)) (dT TC))) (dT (tT (tT (dT TA) (dT TB)) (dT TC)))) fun H13 e13 => ?_
      rw [sp, top_step T i9]
      exact ⟨_, _, _, _, rfl, ((e09.trans e11).trans e12).trans e13⟩
    · rintro σ H5 ⟨v7, v8, v9, v10, rfl, e5⟩
      refine s_ret (ev_is (ev_var rfl) (show V.str (tab (fndK ds 9)) = V.str (tab ds) by rw [fnd_end T])) fun H6 e6 => k H6 (e5.trans e6)
end
end Tv

namespace Tv
open PySem PySem.Spec PyProof.Rows L2 Evl
/-! ### the known boxes -/
def ntC (x : String) (ds : List Nat) (n : Nat) : Nt := ⟨Str.ofString x, ds, n⟩
def boxA70 : List Nt := [ntC "max" topD 2, ntC "up" [1, 2, 0] 1]
def boxB70 : List Nt := [ntC "max" topD 2, ntC "low" [1, 0, 2] 1, ntC "up" [2, 0, 1] 1]
def oksC7 (L : List Nt) : Bool := (L.all fun x => decide (1 ≤ x.nm.length) && decide (x.nm.length ≤ 4) && (x.nm.cps.toList.all fun c => decide (97 ≤ c) && decide (c < 123)) && decide (1 ≤ x.n) && decide (x.n ≤ 3) && decide (x.ds.length = 3 ^ x.n) && x.ds.all (· < 3)) &&
  decide (L.length ≤ 6) && decide ((L.map (·.nm)).Nodup)
theorem oksC7_ok {L : List Nt} (h : oksC7 L = true) : Oks L := by
  unfold oksC7 at h
  simp only [Bool.and_eq_true, List.all_eq_true, decide_eq_true_eq] at h
  obtain ⟨⟨h1, h2⟩, h3⟩ := h
  refine ⟨fun x hx => ?_, h2, h3⟩
  obtain ⟨⟨⟨⟨⟨⟨a, b⟩, c⟩, d⟩, e⟩, f⟩, g⟩ := h1 x hx
  exact ⟨⟨a, b, fun z hz => by simpa using c z hz⟩, ⟨d, e, f, fun z hz => by simpa using g z hz⟩⟩
def goodB7 (L : List Nt) : Bool := oksC7 L && decide (keptL L = []) && decide ((L.filter ontoP).map (·.nm) = [Str.ofString "max"]) && decide ((L.map (·.nm)).contains (Str.ofString "q") = false) && decide (L.length ≤ 5) && decide ((L.getD 0 default).nm = Str.ofString "max") && decide ((L.getD 0 default).ds = topD) && decide (0 < L.length) && ((List.range 27).all fun i => decide (tupI 3 i ∈ (oneG L).F)) && decide ((oneG L).F.length = 27) && decide (oneS L = tups 3)
set_option maxHeartbeats 40000000 in
theorem goodA70 : goodB7 boxA70 = true := by decide +kernel
set_option maxHeartbeats 40000000 in
theorem goodB70 : goodB7 boxB70 = true := by decide +kernel
theorem rowsA70 : rowsV boxA70 = [V.str (Str.ofString "max 012112222"), V.str (Str.ofString "up 120")] := by decide +kernel
theorem rowsB70 : rowsV boxB70 = [V.str (Str.ofString "max 012112222"), V.str (Str.ofString "low 102"), V.str (Str.ofString "up 201")] := by decide +kernel
structure G70 (L : List Nt) : Prop where
  ok : Oks L
  kept : keptL L = []
  onto : (ontoN L)[0]? = some (.str (Str.ofString "max"))
  noq : Str.ofString "q" ∉ L.map (·.nm)
  few : L.length ≤ 5
  top : ∃ x, L[0]? = some x ∧ x.nm = Str.ofString "max" ∧ x.ds = topD
  all : ∀ r : List Nat, IsTab r 1 → r ∈ (oneG L).F
  len : (oneG L).F.length = 27
  srt : oneS L = tups 3
theorem g70 {L : List Nt} (h : L = boxA70 ∨ L = boxB70) : G70 L := by
  have g : goodB7 L = true := by
    rcases h with rfl | rfl
    · exact goodA70
    · exact goodB70
  unfold goodB7 at g
  simp only [Bool.and_eq_true, decide_eq_true_eq, List.all_eq_true] at g
  obtain ⟨⟨⟨⟨⟨⟨⟨⟨⟨⟨a, b⟩, c⟩, d⟩, e⟩, t1⟩, t2⟩, t0⟩, al⟩, fl⟩, fs⟩ := g
  refine ⟨oksC7_ok a, b, ?_, fun z => ?_, e, ⟨L.getD 0 default, ?_, t1, t2⟩, fun r T => ?_, fl, fs⟩
  · have : ontoN L = ((L.filter ontoP).map (·.nm)).map V.str := by
      unfold ontoN
      rw [List.map_map]
      rfl
    rw [this, c]
    rfl
  · rw [List.contains_iff_mem.mpr z] at d
    cases d
  · rw [List.getD_eq_getElem?_getD, List.getElem?_eq_getElem t0]
    rfl
  · obtain ⟨j, hj⟩ := List.mem_iff_getElem?.mp (tups3_mem T.len T.dig)
    have j27 : j < 27 := (List.getElem?_eq_some_iff.mp hj).1
    rw [← tupI_of hj]
    exact al j (List.mem_range.mpr j27)
/-! ### steps as data -/
def stepD (t : Str × List Nat) : PyData := .tuple [.str t.1, .tuple (t.2.map fun k : Nat => PyData.int (k : Int))]
theorem dp_iv7 {K : PySem.W.Frag} {H : Hp} : ∀ as : List Nat, DpAll K H (iv as) (as.map fun k : Nat => PyData.int (k : Int))
  | [] => .nil
  | _ :: r => .cons (.int _) (dp_iv7 r)
theorem dp_tolds {K : PySem.W.Frag} {H : Hp} : ∀ {zs : List V} {T : List (Str × List Nat)}, Tolds H zs T → DpAll K H zs (T.map stepD)
  | _, _, .nil => .nil
  | _, _, .cons h t => by
    obtain ⟨a, q, rfl, ha, hq⟩ := h
    exact .cons (.tup (SqT.of ha) (.cons (.str _) (.cons (.tup (SqT.of hq) (dp_iv7 _)) .nil))) (dp_tolds t)
theorem ints_lay : ∀ as : List Nat, PyData.canLayAll0 (as.map fun k : Nat => PyData.int (k : Int)) = true ∧ PyData.depthAll (as.map fun k : Nat => PyData.int (k : Int)) = 0
  | [] => ⟨rfl, rfl⟩
  | a :: r => by
    obtain ⟨h1, h2⟩ := ints_lay r
    constructor
    · show (PyData.canLay0 (.int (a : Int)) && PyData.canLayAll0 (r.map fun k : Nat => PyData.int (k : Int))) = true
      rw [h1]
      rfl
    · show max 0 (PyData.depthAll (r.map fun k : Nat => PyData.int (k : Int))) = 0
      rw [h2]
      rfl
theorem step_lay {t : Str × List Nat} (h : PyData.canLay0 (.str t.1) = true) : PyData.canLay0 (stepD t) = true ∧ PyData.depth (stepD t) = 2 := by
  obtain ⟨h1, h2⟩ := ints_lay t.2
  constructor
  · show (PyData.canLay0 (.str t.1) && (PyData.canLayAll0 (t.2.map fun k : Nat => PyData.int (k : Int)) && true)) = true
    rw [h, h1]
    rfl
  · show max 0 (max (PyData.depthAll (t.2.map fun k : Nat => PyData.int (k : Int)) + 1) 0) + 1 = 2
    rw [h2]
    rfl
theorem steps_lay : ∀ T : List (Str × List Nat), (∀ t ∈ T, PyData.canLay0 (.str t.1) = true) → PyData.canLayAll0 (T.map stepD) = true ∧ PyData.depthAll (T.map stepD) ≤ 2
  | [], _ => ⟨rfl, Nat.zero_le _⟩
  | t :: T, h => by
    obtain ⟨h1, h2⟩ := steps_lay T fun q hq => h q (List.mem_cons_of_mem _ hq)
    obtain ⟨s1, s2⟩ := step_lay (h t List.mem_cons_self)
    constructor
    · show (PyData.canLay0 (stepD t) && PyData.canLayAll0 (T.map stepD)) = true
      rw [h1, s1]
      rfl
    · show max (PyData.depth (stepD t)) (PyData.depthAll (T.map stepD)) ≤ 2
      omega
theorem steps_shaped {T : List (Str × List Nat)} (h : ∀ t ∈ T, PyData.canLay0 (.str t.1) = true) : SeqAt.shaped (.tuple (T.map stepD)) = true := by
  obtain ⟨h1, h2⟩ := steps_lay T h
  unfold SeqAt.shaped
  rw [Bool.and_eq_true]
  refine ⟨h1, decide_eq_true ?_⟩
  show PyData.depthAll (T.map stepD) + 1 ≤ 64
  omega
theorem steps_nil (T : List (Str × List Nat)) : PyData.eqv (.tuple (T.map stepD)) (.tuple []) = decide (T = []) := by
  cases T with
  | nil => rfl
  | cons t T => rw [decide_eq_false (by simp)]; rfl
/-! ### a dict of tables, each to itself -/
def kvsT (F : List (List Nat)) : List (Key × V) := F.map fun r => (Sum.inr (tab r), V.str (tab r))
theorem kvsT_apart {F : List (List Nat)} (nd : F.Nodup) : mergeK [] (kvsT F) = kvsT F := by
  refine merge_apart _ [] ?_
  rw [List.nil_append]
  unfold kvsT
  rw [List.map_map]
  exact nd.map _ fun a b ne e => ne (tab_inj (Sum.inr.inj e))
theorem kvsT_get {r : List Nat} : ∀ {F : List (List Nat)}, r ∈ F → valV (kvsT F) (Sum.inr (tab r)) = some (V.str (tab r))
  | [], h => by cases h
  | q :: F, h => by
    unfold kvsT
    rw [List.map_cons]
    by_cases e : q = r
    · rw [e, valV_pos rfl]
    · rw [valV_neg (by intro z; exact e (tab_inj (Sum.inr.inj z)))]
      rcases List.mem_cons.mp h with rfl | h
      · exact absurd rfl e
      · exact kvsT_get h
theorem rows_kv {K : PySem.W.Frag} {H : Hp} : ∀ {F : List (List Nat)} {ys : List V}, RowsV H ys (F.map fun r => [V.str (tab r), V.str (tab r)]) → ∃ ps : List Addr, ys = ps.map V.ref ∧ Paired (fun p kv => SqT K H p [kV kv.1, kv.2]) ps (kvsT F)
  | [], _, .nil => ⟨[], rfl, .nil⟩
  | r :: F, _, .cons h t => by
    obtain ⟨a, rfl, ha⟩ := h
    obtain ⟨ps, rfl, R⟩ := rows_kv (K := K) (F := F) t
    exact ⟨a :: ps, rfl, .cons (SqT.of ha) R⟩
theorem erv_lcT {K : PySem.W.Frag} {σ : L2.St} {H : Hp} {te tl : TE} {a : Addr} {xs : List V} {j : Nat} {vs : List Nat} (L : Nat → List V) (h : Ev tl σ H (.ref a)) (hx : SqT K H a xs) (hz : xs.length ≤ 40000) (hw : ∀ x, wipe ((wipe σ vs).set j (some x)) vs = wipe σ vs)
    (he : ∀ (i : Nat) (x : V) H1, Ex H H1 → xs[i]? = some x → EvU te ((wipe σ vs).set j (some x)) H1 (L i)) :
    EvRowsV (tLc (iTup K tl) (gName j) tYes te vs) σ H ((List.range xs.length).map L) := fun H0 e Q q => h H0 e _ fun H1 e1 => ⟨a, rfl, ⟨xs, ex_t (e.trans e1) hx⟩, fun Dl hD =>
  lc_tup (K := K) (xs := xs) (fun i H3 => Ex H1 H3 ∧ ∃ zs, H3 Dl = some (.lst zs) ∧ RowsV H3 zs ((List.range i).map L)) ⟨Ex.new hD, [], upd_same, .nil⟩
  (fun i H3 _ pc => ex_t ((e.trans e1).trans pc.1) hx)
  (fun i x H3 hi ⟨e3, zs, hD3, R3⟩ => ⟨hw _, by
    refine yes_go (he i x H3 ((e.trans e1).trans e3) hi H3 (Ex.refl _) _ fun p H4 hp e4 h4 => ⟨zs, e4 _ _ hD3, ?_, Ex.mut (e3.trans e4) hD, zs ++ [.ref p], upd_same, ?_⟩)
    · have il := (List.getElem?_eq_some_iff.mp hi).1
      rw [R3.len, List.length_map, List.length_range]
      exact Nat.lt_of_le_of_lt (by omega : _ ≤ 40000) (by decide)
    · have pD : p ≠ Dl := fun z => by rw [z, hD3] at hp; cases hp
      rw [List.range_succ, List.map_append]
      refine RowsV.append ?_ (.cons ⟨p, rfl, by rw [upd_ne pD]; exact h4⟩ .nil)
      exact RowsV.but (p := Dl) (fun b o nb hb => by rw [upd_ne nb]; exact e4 _ _ hb) (fun l hl => by rw [hD3] at hl; cases hl) R3⟩)
  (fun H3 ⟨e3, zs, hD3, R3⟩ => q Dl H3 zs (fresh_back e1 hD) (e1.trans e3) hD3 R3)⟩
end Tv

namespace Tv
open PySem PySem.Spec PyProof.Rows L2 Evl
section
variable {P : Program} {w : World} {K : PySem.W.Frag} {mg : Str → Option Value} {base : Heap} {f aL aW C : Addr} {fd : FuncData}
theorem spr_at {H H' : Hp} {p : Addr} (S : Spr H p) (e : Ex H H') : Spr H' p := by
  obtain ⟨x, m, c, h, r⟩ := S
  exact ⟨x, m, c, e _ _ h, r⟩
theorem spr_not {H : Hp} {p l : Addr} (S : Spr H p) (hl : H l = none) : l ≠ p := fun e => by
  obtain ⟨_, _, _, h, _⟩ := S
  rw [e, h] at hl
  cases hl
theorem spr_put {H : Hp} {p q : Addr} {o : HO} (n : q ≠ p) (S : Spr H p) : Spr (upd H q o) p := by
  obtain ⟨x, m, c, h, r⟩ := S
  exact ⟨x, m, c, by rw [upd_ne n.symm]; exact h, r⟩
theorem but_none {p l : Addr} {H H1 : Hp} (b : But p H H1) (S : Spr H1 p) (hl : H1 l = none) : H l = none := by
  have np := spr_not S hl
  cases e : H l with
  | none => rfl
  | some o => rw [b _ _ np e] at hl; cases hl
/-- drawn digits, joined -/
theorem draws_join {n j : Nat} {vs : List Nat} {p : Addr} {σ : L2.St} {H : Hp} {Q : VK} {tn : TE} (n27 : n ≤ 27) (hn : Ev tn σ H (.int (n : Int))) (hw : ∀ x, wipe ((wipe σ vs).set j (some x)) vs = wipe σ vs) (h0 : ∀ x, ((wipe σ vs).set j (some x))[0]? = some (some (.ref p))) (S : Spr H p)
    (k : ∀ (ds : List Nat) (H' : Hp), ds.length = n → (∀ d ∈ ds, d < 3) → Spr H' p → But p H H' → Q (.str (tab ds)) H') :
    tM1 (rJoin K) (tC (V.str (Str.ofString ""))) (tLc (iRng1 (tCons tn tNil)) (gName j) tYes (tCB (fun xs H Q => ∃ i : Int, xs = [V.int i] ∧ i.natAbs.log2 < 1920 ∧ Q (V.str (toString i)) H) (tCons (tDef spDraw (tCons (tVar 0) (tCons (tC (V.int 3)) tNil))) tNil)) vs) σ H Q := by
  refine ⟨⟨_, rfl⟩, hn H (Ex.refl _) _ fun H1 e1 => ⟨(n : Int), rfl, by omega, by omega, fun D hD => ?_⟩⟩
  have S1 := spr_at S e1
  have nD := spr_not S1 hD
  refine lc_range (lo := 0) (n := n) (fun i H2 => Spr H2 p ∧ But p H1 H2 ∧ ∃ ds : List Nat, ds.length = i ∧ (∀ d ∈ ds, d < 3) ∧ H2 D = some (.lst (signs_ ds))) ?_ ?_ ?_
  · exact ⟨spr_put nD S1, fun b o nb h => by rw [upd_ne (ne_of_none h hD)]; exact h, [], rfl, fun d hd => (by cases hd), upd_same⟩
  · rintro i H2 hi ⟨S2, b2, ds, dl, dd, hD2⟩
    refine ⟨hw _, yes_go ?_⟩
    refine ⟨_, h0 _, p, 3, rfl, S2, by decide, by decide, fun d H3 d0 d3 S3 b3 => ?_⟩
    obtain ⟨m, rfl⟩ := Int.eq_ofNat_of_zero_le d0
    have m3 : m < 3 := by omega
    have sh : (m : Int).natAbs.log2 < 1920 := by
      have : m = 0 ∨ m = 1 ∨ m = 2 := by omega
      rcases this with rfl | rfl | rfl <;> decide
    refine ⟨(m : Int), rfl, sh, signs_ ds, b3 _ _ nD hD2, ?_, spr_put nD S3, fun b o nb h => ?_, ds ++ [m], by simp [dl], fun d hd => ?_, ?_⟩
    · unfold signs_
      rw [List.length_map, List.length_map, dl]
      exact Nat.lt_of_lt_of_le (by omega : i < 28) (by decide)
    · rw [upd_ne (ne_of_none h hD)]
      exact b3 b o nb (b2 b o nb h)
    · rcases List.mem_append.mp hd with h | h
      · exact dd d h
      · obtain rfl := List.mem_singleton.mp h
        exact m3
    · rw [upd_same, ← signs_snoc]
      have := str_digit m m3
      rw [this]
  · rintro H2 ⟨S2, b2, ds, dl, dd, hD2⟩
    have q := k ds H2 dl dd S2 ((But.of e1).trans b2)
    rw [← join_tab] at q
    refine ⟨_, D, _, rfl, rfl, Or.inl (SqL.of hD2), ?_, q⟩
    have e : ∀ l : List Nat, ((l.map fun d => (⟨#[48 + d]⟩ : Str)).map (·.length)).sum = l.length := by
      intro l
      induction l with
      | nil => rfl
      | cons d r ih =>
        rw [List.map_cons, List.map_cons, List.sum_cons, ih, List.length_cons]
        show 1 + r.length = _
        omega
    have e0 : (Str.ofString "").length = 0 := rfl
    rw [e, e0, List.length_map]
    omega
theorem BoxAt.butW {H H' : Hp} {p a : Addr} {L : List Nt} (S : Spr H p) (b : But p H H') (B : BoxAt C H a L) : BoxAt C H' a L := by
  have ne : ∀ {q : Addr} {o : HO}, H q = some o → (∀ l, o ≠ .lst l) → q ≠ p := fun {q o} h ho e => by
    obtain ⟨_, _, _, h', _⟩ := S
    rw [e, h'] at h
    exact ho _ (Option.some.inj h).symm
  obtain ⟨dx, q, h1, h2⟩ := B.ob
  exact ⟨B.oks, dx, q, b _ _ (ne h1 fun l e => by cases e) h1, b _ _ (ne h2 fun l e => by cases e) h2⟩
theorem atI_last {xs : List V} {k : Nat} {z : V} (l : xs.length = k + 1) (h : xs[k]? = some z) : atI xs (-1) = some z := by
  have e : ixN xs.length (-1) = some k := by
    unfold ixN
    rw [if_neg (by decide), l]
    rw [if_pos (by omega)]
    congr 1
    omega
  unfold atI
  rw [e]
  exact h
theorem name_lay {x : Str} (h : IsName x) : PyData.canLay0 (.str x) = true := by
  show PySem.PyData.strOk x = true
  unfold PySem.PyData.strOk
  rw [← Array.all_toList, List.all_eq_true]
  intro c hc
  have := (h.lets c hc).2
  exact decide_eq_true (by omega)

theorem q_box70 {σ : L2.St} {H : Hp} {te : TE} {D : Ends} {tz : TS} {i : Nat} {L : List Nt} (h : EvBox C te σ H L) (k : ∀ a H1, Ex H H1 → BoxAt C H1 a L → tz D (σ.set i (some (.ref a))) H1) : tSeq (tAsg te (gName i)) tz D σ H := h H (Ex.refl H) _ k
theorem ev_notTrue {σ : L2.St} {H : Hp} {ta tb : TE} {a b : Bool} (h1 : Ev ta σ H (.bl a)) (h2 : Ev tb σ H (.bl b)) : Ev (tOp rNotB ta tb) σ H (.bl !decide (a = b)) := fun H1 e Q q => h1 H1 e _ fun H2 e2 => h2 H2 (e.trans e2) _ fun H3 e3 => ⟨a, b, rfl, rfl, q H3 (e2.trans e3)⟩
theorem ev_lenD {σ : L2.St} {H : Hp} {te : TE} {p : Addr} {kvs : List (Key × V)} (h : Ev te σ H (.ref p)) (hp : H p = some (.dK kvs)) : Ev (tCB (fun xs H Q => ∃ a kvs, xs = [V.ref a] ∧ H a = some (.dK kvs) ∧ Q (V.int (kvs.length : Nat)) H) (tCons te tNil)) σ H (.int (kvs.length : Nat)) := fun H1 e Q q => h H1 e _ fun H2 e2 => ⟨p, kvs, rfl, e2 _ _ (e _ _ hp), q H2 e2⟩
theorem el_listW70 {σ : L2.St} {H : Hp} {te : TE} {p : Addr} {xs : List V} (h : Ev te σ H (.ref p)) (hp : SqT K H p xs) : EvL (tCB (fun xs H Q => ∃ p ys, xs = [V.ref p] ∧ (SqL K H p ys ∨ SqT K H p ys) ∧ ∀ l : Addr, H l = none → Q (V.ref l) (upd H l (.lst ys))) (tCons te tNil)) σ H xs := fun H1 e Q q => h H1 e _ fun H2 e2 =>
  ⟨p, xs, rfl, Or.inr (ex_t (e.trans e2) hp), fun l hl => q l _ (fresh_back e2 hl) (e2.trans (Ex.new hl)) upd_same⟩
/-- drawn tables, of a tuple -/
theorem draws_of {n j : Nat} {F : List (List Nat)} {vs : List Nat} {p pw : Addr} {σ : L2.St} {H : Hp} {Q : VK} (n27 : n ≤ 27) (Fne : F ≠ []) (F27 : F.length ≤ 27) (hw : ∀ x, wipe ((wipe σ vs).set j (some x)) vs = wipe σ vs) (h0 : ∀ x, ((wipe σ vs).set j (some x))[0]? = some (some (.ref p)))
    (h5 : ∀ x, ((wipe σ vs).set j (some x))[5]? = some (some (.ref pw))) (S : Spr H p) (hpw : H pw = some (.tup (textsV F))) (k : ∀ (D : Addr) (H' : Hp) (G : List (List Nat)), G.length = n → (∀ g ∈ G, g ∈ F) → Spr H' p → But p H H' → H D = none → D ≠ p → H' D = some (.lst (textsV G)) → Q (.ref D) H') :
    tLc (iRng1 (tCons (tC (.int (n : Int))) tNil)) (gName j) tYes (tDef (spOf K) (tCons (tVar 0) (tCons (tCB (fun xs H Q => ∃ p ys, xs = [V.ref p] ∧ (SqL K H p ys ∨ SqT K H p ys) ∧ ∀ l : Addr, H l = none → Q (V.ref l) (upd H l (.lst ys))) (tCons (tVar 5) tNil)) tNil))) vs σ H Q := by
  refine ⟨(n : Int), rfl, by omega, by omega, fun D hD => ?_⟩
  have nD := spr_not S hD
  have npw : pw ≠ p := fun z => by
    obtain ⟨_, _, _, h', _⟩ := S
    rw [z, h'] at hpw
    cases hpw
  refine lc_range (lo := 0) (n := n) (fun i H2 => Spr H2 p ∧ But p H H2 ∧ ∃ G : List (List Nat), G.length = i ∧ (∀ g ∈ G, g ∈ F) ∧ H2 D = some (.lst (textsV G))) ?_ ?_ ?_
  · exact ⟨spr_put nD S, fun b o nb h => by rw [upd_ne (ne_of_none h hD)]; exact h, [], rfl, fun d hd => (by cases hd), upd_same⟩
  · rintro i H2 hi ⟨S2, b2, G, gl, gm, hD2⟩
    refine ⟨hw _, yes_go ?_⟩
    have hpw2 := b2 _ _ npw hpw
    refine ⟨_, h0 _, _, h5 _, pw, textsV F, rfl, Or.inr (SqT.of hpw2), fun l hl => ?_⟩
    have nl := spr_not S2 hl
    refine ⟨p, l, textsV F, rfl, nl, spr_put nl S2, SqL.of upd_same, fun z => Fne (List.map_eq_nil_iff.mp z), by rw [textsV_len]; omega, fun v H3 mem S3 b3 => ?_⟩
    obtain ⟨g, hg, rfl⟩ := List.mem_map.mp mem
    have nlD : D ≠ l := fun z => by rw [z, hl] at hD2; cases hD2
    have hD3 := b3 D (.lst (textsV G)) nD (by rw [upd_ne nlD]; exact hD2)
    refine ⟨textsV G, hD3, ?_, spr_put nD S3, fun b o nb h => ?_, G ++ [g], by simp [gl], fun d hd => ?_, ?_⟩
    · rw [textsV_len, gl]
      exact Nat.lt_of_lt_of_le (by omega : i < 28) (by decide)
    · rw [upd_ne (ne_of_none h hD)]
      have h2 := b2 b o nb h
      exact b3 b o nb (by rw [upd_ne (ne_of_none h2 hl)]; exact h2)
    · rcases List.mem_append.mp hd with h | h
      · exact gm d h
      · obtain rfl := List.mem_singleton.mp h
        exact hg
    · rw [upd_same]
      unfold textsV
      rw [List.map_append]
      rfl
  · rintro H2 ⟨S2, b2, G, gl, gm, hD2⟩
    exact k D H2 G gl gm S2 b2 hD nD hD2
theorem ev_addS70 {σ : L2.St} {H : Hp} {ta tb : TE} {x y : Str} (h1 : Ev ta σ H (.str x)) (h2 : Ev tb σ H (.str y)) (z : x.length + y.length ≤ sizeLine) : Ev (tOp (fun x y H Q => ∃ i j, x = V.str i ∧ y = V.str j ∧ i.length + j.length ≤ sizeLine ∧ Q (V.str (i ++ j)) H) ta tb) σ H (.str (x ++ y)) := fun H1 e Q q =>
  h1 H1 e _ fun H2 e2 => h2 H2 (e.trans e2) _ fun H3 e3 => ⟨x, y, rfl, rfl, z, q H3 (e2.trans e3)⟩
theorem tab_in3 {r : List Nat} (h : r ∈ tups 3) : IsTab r 1 := by
  have := tups_all 3 r h
  exact ⟨by decide, by decide, this.1, this.2⟩
theorem oks_q70 {L : List Nt} (G : G70 L) {ds : List Nat} (T : IsTab ds 2) : Oks (L ++ [⟨Str.ofString "q", ds, 2⟩]) := by
  refine ⟨fun x hx => ?_, by rw [List.length_append]; have := G.few; show _ + 1 ≤ 6; omega, ?_⟩
  · rcases List.mem_append.mp hx with h | h
    · exact G.ok.ok x h
    · rw [List.mem_singleton.mp h]
      exact ⟨⟨(by show 1 ≤ 1; decide), (by show 1 ≤ 4; decide), fun z hz => by
        have : z ∈ [113] := hz
        rw [List.mem_singleton.mp this]
        decide⟩, T⟩
  · rw [List.map_append]
    refine List.nodup_append.mpr ⟨G.ok.apart, by simp, fun a ha b hb e => ?_⟩
    have : b = Str.ofString "q" := by simpa using hb
    exact G.noq (this ▸ e ▸ ha)
theorem none_new70 {L : List Nt} (G : G70 L) {x : Nt} (ok : Oks (L ++ [x])) : (((oneS (L ++ [x])).filter fun r => !decide (r ∈ oneS L)).map fun r => V.str (tab r)) = [] := by
  have e : ((oneS (L ++ [x])).filter fun r => !decide (r ∈ oneS L)) = [] := by
    rw [List.filter_eq_nil_iff]
    intro r hr
    have h := (goes_one ok).ok.ok r (oneS_mem.mp hr)
    have : r ∈ oneS L := oneS_mem.mpr (G.all r ⟨by decide, by decide, h.1, h.2⟩)
    rw [decide_eq_true this]
    decide
  rw [e]
  rfl
theorem q_dict70 {σ : L2.St} {H : Hp} {te : TE} {D : Ends} {tz : TS} {i : Nat} {F : List (List Nat)} (h : EvRowsV te σ H (F.map fun r => [V.str (tab r), V.str (tab r)])) (nd : F.Nodup) (k : ∀ pd H1, H pd = none → Ex H H1 → H1 pd = some (.dK (kvsT F)) → tz D (σ.set i (some (.ref pd))) H1) :
    tSeq (tAsg (tCB (fun xs H Q => ∃ (a : Addr) (ps : List Addr) (kvs : List (Key × V)), xs = [V.ref a] ∧ SqL K H a (ps.map V.ref) ∧ Paired (fun p kv => SqT K H p [kV kv.1, kv.2]) ps kvs ∧ ∀ p : Addr, H p = none → Q (V.ref p) (upd H p (.dK (mergeK [] kvs)))) (tCons te tNil)) (gName i)) tz D σ H :=
  h H (Ex.refl _) _ fun pl H6 ys hpl e6 h6 RR => by
    obtain ⟨ps, rfl, R2⟩ := rows_kv (K := K) RR
    refine ⟨pl, ps, kvsT F, rfl, SqL.of h6, R2, fun pd hpd => ?_⟩
    rw [kvsT_apart nd]
    exact k pd _ (fresh_back e6 hpd) (e6.trans (Ex.new hpd)) upd_same
abbrev slaw_right : Stmt := top 79
abbrev Nlaw_right : List Str := ["spring", "rows_now", "mine", "asked", "paper", "whole", "singles", "turn_k", "sheet_now", "ran", "k"]
theorem sclaw_right : FnScope Nlaw_right ["spring"] (defScope slaw_right) := ⟨rfl, rfl, rfl, by decide +kernel, rfl, by decide +kernel, by decide +kernel⟩
def spRight : Sp := fun vs H Q _ => ∃ p, vs = [.ref p] ∧ Spr H p ∧ ∀ H', But p H H' → Q (.bl true) H'
theorem ok_right (F : Fun K "_law_right" "_law_right" slaw_right f fd) (B : Blt mg) (B3 : Blt3 mg) (B6 : Blt6 mg) (BC : BoxC K mg C) (D__law_of : DefG P w K mg base "_law_of" ["spring", "menu"] 2 (spOf K)) (D_read : ReadG P w K mg base C "read" 6 (spRead C))
    (D_certify_box : DefG P w K mg base "certify_box" ["box"] 8 (spCertify C)) (D_makes_all : DefG P w K mg base "makes_all" ["box"] 8 (spMakesAll C)) (D_one_place : DefG P w K mg base "one_place" ["box"] 7 (spOnePlace C)) (D_all_tables : DefG P w K mg base "all_tables" [] 3 spAllTables)
    (D_made : DefG P w K mg base "made" ["box", "steps"] 7 (spMade70 C)) (D__law_ran : DefG P w K mg base "_law_ran" ["rows_now", "thing"] 3 (spLRan K)) (D__law_draw : DefG P w K mg base "_law_draw" ["spring", "size"] 1 spDraw)
    (D__law_at_two : DefG P w K mg base "_law_at_two" ["singles", "big", "sheet_now"] 5 spAtTwo) (D_table_of : MethG P w K mg base C "table_of" 5 (spTableOf C)) (D_brings : DefG P w K mg base "brings" ["box", "row"] 8 (spBrings C)) (D_steps : DefG P w K mg base "steps" ["box", "table"] 7 (spSteps C)) :
    FnG P w K mg base 9 f fd ["spring"] spRight := by
  refine fnG F sclaw_right (fun vs H Q E h => ?_) (fun cdv A fr s H vs Q E hr gd h => ?_)
  · obtain ⟨p, rfl, _⟩ := h
    rfl
  · obtain ⟨p, rfl, S, k⟩ := h
    refine ⟨_, (pss_cons (ps_set (i := 1) sclaw_right.nd rfl (Or.inl rfl) (pe_def D__law_of (hr.mono (by decide)) gd rfl (pa_cons (pv 0) (pa_cons (pe_lst (pa_cons (pe_lst (pa_cons pe_str (pa_cons pe_str pa_nil))) (pa_cons (pe_lst (pa_cons pe_str (pa_cons pe_str (pa_cons pe_str pa_nil)))) pa_nil))) pa_nil))))
  (pss_cons (ps_set (i := 2) sclaw_right.nd rfl (Or.inl rfl) (pe_cmethX D_read (hr.mono (by decide)) gd (pe_glob (v := .ref C) rfl BC.mg rfl) (pa_cons (show PE _ _ (tM1 (rJoin K) _ _) from pe_join pe_str (pv 1)) pa_nil)))
  (pss_cons (ps_asg (pe_def D_certify_box (hr.mono (by decide)) gd rfl (pa_cons (pv 2) pa_nil)) (pg_tup rfl (pgs_cons (pg_name (i := 3) sclaw_right.nd rfl (Or.inl rfl)) (pgs_cons (pg_name (i := 4) sclaw_right.nd rfl (Or.inl rfl)) pgs_nil))))
  (pss_cons (ps_if (PW.pt (pw_or (pt_cmpR op_ne (pe_ix ix_tup (pv 3) pe_int (fun _ _ => rfl)) pe_str (nomark _)) (pw_or (pt_cmpR op_notBl (pe_def D_makes_all (hr.mono (by decide)) gd rfl (pa_cons (pv 2) pa_nil)) pe_bl (nomark _)) (pw_or1 (pt_cmpR (op_neD (hr.units)) (pe_def D_one_place (hr.mono (by decide)) gd rfl (pa_cons (pv 2) pa_nil)) (pe_def0 D_all_tables (hr.mono (by decide)) gd rfl) (nomark _)))))) (pss_one (ps_ret pe_bl)) pss_nil)
  (pss_cons (ps_set (i := 5) sclaw_right.nd rfl (Or.inr rfl) (pe_def D_made (hr.mono (by decide)) gd rfl (pa_cons (pv 2) (pa_cons (pv 4) pa_nil))))
  (pss_cons (ps_set (i := 6) sclaw_right.nd rfl (Or.inl rfl) (pe_callTy (call_dictP rfl) (by rfl) B6.m_dict (by decide +kernel) (pa_cons (pe_lc (own := [("sheet_now", 8)]) (g := gName 8) rfl sclaw_right.nd (pi_tup (pv 5)) (blkOk_by (own := [("sheet_now", 8)]) (N := Nlaw_right) (sc := defScope slaw_right) (by decide +kernel)) (fun _ _ _ _ _ => (pg_name (i := 8) sclaw_right.nd rfl (Or.inl rfl))) (fun _ _ _ _ _ => pts_nil) (fun _ _ _ _ _ => (pe_tup (pa_cons (pv 8) (pa_cons (pv 8) pa_nil))))) pa_nil)))
  (pss_cons (ps_if (PW.pt (pw_or (pt_cmpR op_ne (pe_callB call_lenD (by rfl) B.m_len (by decide +kernel) (pa_cons (pv 6) pa_nil)) pe_int (nomark _)) (pw_or1 (pt_cmpR op_ne (pe_callB (cr_repr hr gd) (by rfl) B.m_repr (by decide +kernel) (pa_cons (pe_defK D_made (hr.mono (by decide)) gd rfl (pk_cons (pv 4) (pk_cons (pv 2) pk_nil))) pa_nil)) (pe_callB (cr_repr hr gd) (by rfl) B.m_repr (by decide +kernel) (pa_cons (pv 5) pa_nil)) (nomark _))))) (pss_one (ps_ret pe_bl)) pss_nil)
  (pss_cons (ps_if (pt_cmpR (op_neD (hr.units)) (pe_callTy call_list_of (by rfl) B3.m_list (by decide +kernel) (pa_cons (pv 5) pa_nil)) (pe_def D__law_ran (hr.mono (by decide)) gd rfl (pa_cons (pv 1) (pa_cons (pv 4) pa_nil))) (nomark _)) (pss_one (ps_ret pe_bl)) pss_nil)
  (pss_cons (ps_for PassesOwn.never rfl (pi_range1 rfl B.m_range (pa_cons pe_int pa_nil)) (pg_name (i := 7) sclaw_right.nd rfl (Or.inl rfl)) (pss_cons (ps_set (i := 8) sclaw_right.nd rfl (Or.inl rfl) (show PE _ _ (tM1 (rJoin K) _ _) from pe_join pe_str (pe_lc (own := [("k", 10)]) (g := gName 10) rfl sclaw_right.nd (pi_range1 rfl B.m_range (pa_cons pe_int pa_nil)) (blkOk_by (own := [("k", 10)]) (N := Nlaw_right) (sc := defScope slaw_right) (by decide +kernel)) (fun _ _ _ _ _ => (pg_name (i := 10) sclaw_right.nd rfl (Or.inl rfl))) (fun _ _ _ _ _ => pts_nil) (fun _ _ _ _ _ => (pe_callTy call_str_int (by rfl) B.m_str (by decide +kernel) (pa_cons (pe_def D__law_draw (hr.mono (by decide)) gd rfl (pa_cons (pv 0) (pa_cons pe_int pa_nil))) pa_nil))))))
  (pss_cons (ps_if (pt_cmpR op_ne (pe_def D__law_at_two (hr.mono (by decide)) gd rfl (pa_cons (pv 6) (pa_cons (pe_methX D_table_of BC.cl (hr.mono (by decide)) gd (pv 2) (pa_cons pe_str pa_nil)) (pa_cons (pv 8) pa_nil)))) (pv 8) (nomark _)) (pss_one (ps_ret pe_bl)) pss_nil)
  (pss_one (ps_if (pt_cmpR (op_neD (hr.units)) (pe_def D_brings (hr.mono (by decide)) gd rfl (pa_cons (pv 2) (pa_cons (pe_op op_add_str pe_str (pv 8)) pa_nil))) (pe_tup pa_nil) (nomark _)) (pss_one (ps_ret pe_bl)) pss_nil)))))
  (pss_cons (ps_for PassesOwn.never rfl (pi_list (pe_op op_cat (pe_lst (pa_cons pe_str pa_nil)) (pe_lc (own := [("k", 10)]) (g := gName 10) rfl sclaw_right.nd (pi_range1 rfl B.m_range (pa_cons pe_int pa_nil)) (blkOk_by (own := [("k", 10)]) (N := Nlaw_right) (sc := defScope slaw_right) (by decide +kernel)) (fun _ _ _ _ _ => (pg_name (i := 10) sclaw_right.nd rfl (Or.inl rfl))) (fun _ _ _ _ _ => pts_nil) (fun _ _ _ _ _ => (pe_def D__law_of (hr.mono (by decide)) gd rfl (pa_cons (pv 0) (pa_cons (pe_callTy (show CallR _ _ (fun xs H Q => ∃ p ys, xs = [.ref p] ∧ (SqL K H p ys ∨ SqT K H p ys) ∧ ∀ l, H l = none → Q (.ref l) (upd H l (.lst ys)) : List V → Hp → VK → Prop) from call_list_of) (by rfl) B3.m_list (by decide +kernel) (pa_cons (pv 5) pa_nil)) pa_nil))))))) (pg_name (i := 8) sclaw_right.nd rfl (Or.inl rfl)) (pss_cons (ps_set (i := 9) sclaw_right.nd rfl (Or.inl rfl) (pe_def D_steps (hr.mono (by decide)) gd rfl (pa_cons (pv 2) (pa_cons (pv 8) pa_nil))))
  (pss_one (ps_if (PW.pt (pw_or (pt_cmpR op_ne (pe_ix ix_list (pe_def D__law_ran (hr.mono (by decide)) gd rfl (pa_cons (pv 1) (pa_cons (pv 9) pa_nil))) (pe_un un_neg pe_int) (fun _ _ => rfl)) (pv 8) (nomark _)) (pw_or1 (pt_cmpR op_ne (pe_cmpR (op_eqD (hr.units)) (pv 9) (pe_tup pa_nil) (nomark _)) (pe_cmpR op_eq (pv 8) pe_str (nomark _)) (nomark _))))) (pss_one (ps_ret pe_bl)) pss_nil))))
  (pss_one (ps_ret pe_bl)))))))))))), ?_⟩
    have strs_l : ∀ (F : List (List Nat)), F.map (fun r => V.str (tab r)) = (F.map tab).map V.str := textsV_is
    -- the box drawn
    refine ⟨_, rfl, by show 2 ≤ sizeLine; decide, fun l1 hl1 => ⟨by show 3 ≤ sizeLine; decide, fun l2 hl2 => ⟨by show 2 ≤ sizeLine; decide, fun am hm => ?_⟩⟩⟩
    have x1 := Ex.new (o := .lst [V.str (Str.ofString "max 012112222"), V.str (Str.ofString "up 120")]) hl1
    have x2 := Ex.new (o := .lst [V.str (Str.ofString "max 012112222"), V.str (Str.ofString "low 102"), V.str (Str.ofString "up 201")]) hl2
    have x3 := Ex.new (o := .lst [V.ref l1, .ref l2]) hm
    have x13 := (x1.trans x2).trans x3
    have g1 := x3 _ _ (x2 _ _ (upd_same (H := H) (a := l1) (o := .lst [V.str (Str.ofString "max 012112222"), V.str (Str.ofString "up 120")])))
    have g2 := x3 _ _ (upd_same (a := l2) (o := .lst [V.str (Str.ofString "max 012112222"), V.str (Str.ofString "low 102"), V.str (Str.ofString "up 201")]))
    have gm := upd_same (a := am) (o := .lst [V.ref l1, .ref l2]) (H := upd (upd H l1 (.lst [V.str (Str.ofString "max 012112222"), V.str (Str.ofString "up 120")])) l2 (.lst [V.str (Str.ofString "max 012112222"), V.str (Str.ofString "low 102"), V.str (Str.ofString "up 201")]))
    generalize upd (upd (upd H l1 (.lst [V.str (Str.ofString "max 012112222"), V.str (Str.ofString "up 120")])) l2 (.lst [V.str (Str.ofString "max 012112222"), V.str (Str.ofString "low 102"), V.str (Str.ofString "up 201")])) am (.lst [V.ref l1, .ref l2]) = H0 at x13 g1 g2 gm
    have S0 := spr_at S x13
    have n1 : l1 ≠ p := spr_not S hl1
    have n2 : l2 ≠ p := spr_not (spr_at S x1) hl2
    have nm : am ≠ p := spr_not (spr_at S (x1.trans x2)) hm
    refine ⟨p, am, [V.ref l1, .ref l2], rfl, nm, S0, SqL.of gm, by simp, by show 2 ≤ 1000000; decide, fun v H1 mem S1 b1 => ?_⟩
    have got : ∃ (l : Addr) (L : List Nt), v = .ref l ∧ (L = boxA70 ∨ L = boxB70) ∧ l ≠ p ∧ H1 l = some (.lst (rowsV L)) := by
      rcases List.mem_cons.mp mem with rfl | mem
      · exact ⟨l1, boxA70, rfl, Or.inl rfl, n1, by rw [rowsA70]; exact b1 _ _ n1 g1⟩
      · rw [List.mem_singleton.mp mem]
        exact ⟨l2, boxB70, rfl, Or.inr rfl, n2, by rw [rowsB70]; exact b1 _ _ n2 g2⟩
    obtain ⟨l, L, rfl, hL, lp, hl⟩ := got
    have G := g70 hL
    have b01 : But p H H1 := (But.of x13).trans b1
    clear x1 x2 x3 g1 g2 gm hl1 hl2 hm mem n1 n2 nm hL b1 S0 x13
    have ok := G.ok
    have one_l := one_small ok
    have RI := one_ran ok
    have go := goes_one ok
    have Fok : ∀ r ∈ (oneG L).F, IsTab r 1 := fun r hr => ⟨by decide, by decide, (go.ok.ok r hr).1, (go.ok.ok r hr).2⟩
    have F27 := G.len
    have Fne : (oneG L).F ≠ [] := fun z => by rw [z] at F27; cases F27
    have F0 : (oneG L).F[0]? = some [0, 1, 2] := by
      have := ran_cut (L := L) (oneG L).T 0
      rw [RI.ran] at this
      have h : (oneG L).F.take 1 = [[0, 1, 2]] := this.symm
      have := congrArg (·[0]?) h
      simpa [List.getElem?_take] using this
    have Tl : (oneG L).T.length ≤ 100 := by have := RI.len; omega
    have sok := RI.ok
    have rok : ∀ r ∈ ranOf L (oneG L).T, IsTab r 1 := fun r hr => Fok r (by rw [RI.ran] at hr; exact hr)
    dsimp only
    -- the box read
    refine q_box70 (C := C) (L := L) (eb_read ok (ev_joinP (ys := L.map (·.row)) ev_c (ev_var rfl) (by rw [← rowsV_eq]; exact SqL.of hl) (by
      have s := rows_sum ok.ok
      have f := ok.few
      have e1 : (Str.ofString "\n").length = 1 := rfl
      rw [List.length_map, e1]
      omega)) ev_c) fun a H2 e2 BA2 => ?_
    have S2 := spr_at S1 e2
    have hl2 := e2 _ _ hl
    refine ⟨_, rfl, a, L, _, rfl, BA2, G.kept, G.onto, fun p3 c q H3 zs hp3 e3 hc hq TS => ⟨p3, _, rfl, SqT.of hp3, rfl, _, _, rfl, ⟨_, _, rfl, rfl, ?_⟩⟩⟩
    have S3 := spr_at S2 e3
    have hl3 := e3 _ _ hl2
    have BA3 := BA2.mono e3
    have b03 : But p H H3 := b01.trans (But.of (e2.trans e3))
    dsimp only
    have oneT : oneS L = tups 3 := G.srt
    have shO : SeqAt.shaped (.tuple (dT ((tups 3).map tab))) = true := (dT_shaped fun s hs => by
      obtain ⟨r, hr, rfl⟩ := List.mem_map.mp hs
      exact tab_lay (tab_in3 hr).dig).2
    have shN : SeqAt.shaped (.tuple (dT [])) = true := by decide +kernel
    refine q_pass (et_is (et_or (a := false) (et_test (ev_is (ev_op (ev_op (ev_var rfl) ev_c (rv_ixT (SqT.of hc) rfl)) ev_c (rv_ne rfl)) (by rw [decide_eq_true rfl]; rfl))) fun _ => et_or (a := false)
      (et_test (ev_is (ev_notTrue (ev_def (v := .bl (decide (keptL L = []))) (ea_cons (ev_var rfl) ea_nil) fun H4 e4 Q q => ⟨a, L, rfl, BA3.mono e4, q⟩) ev_c) (by rw [decide_eq_true G.kept]; rfl))) fun _ =>
      et_test (ev_neX (d1 := .tuple (dT ((tups 3).map tab))) (d2 := .tuple (dT ((tups 3).map tab))) (evd_tuX (eu_def (ea_cons (ev_var rfl) ea_nil) fun H4 e4 Q q => ⟨a, L, rfl, BA3.mono e4, by
        show GivesT (textsV (oneS L)) _ _
        rw [oneT, textsV_is]
        exact q⟩)) (evd_tuX (eu_def ea_nil fun H4 e4 Q q => ⟨rfl, by rw [strs_l]; exact q⟩)) shO shO)) ?_) fun H4 e4 => ?_
    · rw [eqv_tups, decide_eq_true rfl]
      rfl
    have hq4 := e4 _ _ hq
    have TS4 := Tolds.mono e4 TS
    have BA4 := BA3.mono e4
    have hl4 := e4 _ _ hl3
    have S4 := spr_at S3 e4
    refine q_asgU (xs := textsV (oneG L).F) (eu_def (ea_cons (ev_var rfl) (ea_cons (ev_var rfl) ea_nil)) fun H5 e5 Q q5 => ⟨a, q, L, zs, (oneG L).T, rfl, BA4.mono e5, e5 _ _ hq4, Tolds.mono e5 TS4, Tl, sok, rok, by rw [RI.ran]; exact q5⟩) fun pw H5 hw e5 h5 => ?_
    have S5 := spr_at S4 e5
    have pnw : pw ≠ p := spr_not S4 hw
    -- the dict
    have rows_ : EvRowsV (tLc (iTup K (tVar 5)) (gName 8) tYes (tTup (tCons (tVar 8) (tCons (tVar 8) tNil))) [8]) [some (.ref p), some (.ref l), some (.ref a), some (.ref c), some (.ref q), some (.ref pw), none, none, none, none, none] H5 ((oneG L).F.map fun r => [V.str (tab r), V.str (tab r)]) := by
      rw [← range_getD [] (oneG L).F fun r => [V.str (tab r), V.str (tab r)], ← textsV_len]
      refine erv_lcT (a := pw) (xs := textsV (oneG L).F) _ (ev_var rfl) (SqT.of h5) (by rw [textsV_len]; omega) (fun y => rfl) (fun i z H6 e6 hz => ?_)
      obtain ⟨r, hr, rfl⟩ := textsV_at hz
      have er : (oneG L).F.getD i [] = r := by rw [List.getD_eq_getElem?_getD, hr]; rfl
      rw [er]
      exact eu_tup (ea_cons (ev_var rfl) (ea_cons (ev_var rfl) ea_nil)) (by show 2 ≤ 100000; decide)
    refine q_dict70 rows_ go.ok.nd fun pd H7 hpd e57 d7 => ?_
    have e47 := e5.trans e57
    have pnd : pd ≠ p := spr_not S5 hpd
    have h7 := e57 _ _ h5
    have hq7 := e47 _ _ hq4
    have TS7 := Tolds.mono e47 TS4
    have BA7 := BA4.mono e47
    have hl7 := e47 _ _ hl4
    have S7 := spr_at S4 e47
    have b07 : But p H H7 := (b03.trans (But.of e4)).trans (But.of e47)
    have dataF : ∀ {H : Hp} {w : Addr}, H w = some (.tup (textsV (oneG L).F)) → Dp K H (.ref w) (.tuple (dT ((oneG L).F.map tab))) := fun hw => .tup (SqT.of hw) (by rw [textsV_is]; exact dpX _)
    have fineF : Fine (.tuple (dT ((oneG L).F.map tab))) := Nice.fine (nice_tuple (n := 272) (k := 0) (m := 27) (ds := dT ((oneG L).F.map tab)) (fun d hd => by
      obtain ⟨s, hs, rfl⟩ := List.mem_map.mp hd
      obtain ⟨r, hr, rfl⟩ := List.mem_map.mp hs
      exact nice_tab (Fok r hr)) (by unfold dT; rw [List.length_map, List.length_map]; omega)) (by decide) (by decide)
    refine q_pass (et_is (et_or (a := false) (et_test (ev_is (ev_op (ev_lenD (ev_var rfl) d7) ev_c (rv_ne rfl)) (by
      have : (kvsT (oneG L).F).length = 27 := by unfold kvsT; rw [List.length_map, F27]
      rw [this]
      rfl))) fun _ => et_shows fineF (fun H8 e8 Q q8 => ?_) (evr_ref (ev_var rfl) (dataF h7))) rfl) fun H8 e8 => ?_
    · exact eu_defK (sp := spMade70 C) (xs := textsV (oneG L).F) (ea_cons (ev_var rfl) (ea_cons (ev_var rfl) ea_nil)) (fun H9 e9 Q q9 => ⟨a, q, L, zs, (oneG L).T, rfl, BA7.mono e9, e9 _ _ hq7, Tolds.mono e9 TS7, Tl, sok, rok, by rw [RI.ran]; exact q9⟩) H8 e8 _ fun w H9 hw9 e9 h9 => q8 w H9 e9 (dataF h9)
    have shF : SeqAt.shaped (.list (dT ((oneG L).F.map tab))) = true := (dT_shaped fun s hs => by
      obtain ⟨r, hr, rfl⟩ := List.mem_map.mp hs
      exact tab_lay (Fok r hr).dig).1
    have e78 := e8
    have h8 := e8 _ _ h7
    have hq8 := e8 _ _ hq7
    have TS8 := Tolds.mono e8 TS7
    have BA8 := BA7.mono e8
    have hl8 := e8 _ _ hl7
    have S8 := spr_at S7 e8
    have d8 := e8 _ _ d7
    have b08 : But p H H8 := b07.trans (But.of e8)
    refine q_pass (et_is (et_test (ev_neX (d1 := .list (dT ((oneG L).F.map tab))) (d2 := .list (dT ((oneG L).F.map tab))) (evd_ltX (by rw [← textsV_is]; exact el_listW70 (ev_var rfl) (SqT.of h8))) (evd_ltX (by
      rw [← textsV_is]
      exact el_def (ea_cons (ev_var rfl) (ea_cons (ev_var rfl) ea_nil)) fun H9 e9 Q q9 => ⟨l, q, L, zs, (oneG L).T, rfl, SqL.of (e9 _ _ hl8), ok, e9 _ _ hq8, Tolds.mono e9 TS8, Tl, sok, rok, by rw [RI.ran]; exact q9⟩)) shF shF)) (by rw [eqv_lists, decide_eq_true rfl]; rfl)) fun H9 e9 => ?_
    have h9 := e9 _ _ h8
    have BA9 := BA8.mono e9
    have hl9 := e9 _ _ hl8
    have S9 := spr_at S8 e9
    have d9 := e9 _ _ d8
    have b09 : But p H H9 := b08.trans (But.of e9)
    obtain ⟨xt, hx0, xnm, xds⟩ := G.top
    -- two tables of two places
    refine q_forR1 (n := 2) (ea_cons ev_c ea_nil) ⟨by decide, by decide⟩ (fun i σ H10 => ∃ v7 v8 : Option V, σ = [some (.ref p), some (.ref l), some (.ref a), some (.ref c), some (.ref q), some (.ref pw), some (.ref pd), v7, v8, none, none] ∧ Spr H10 p ∧ But p H9 H10)
      (fun H10 e10 => ⟨none, none, rfl, spr_at S9 e10, But.of e10⟩) ?_ ?_
    · rintro i σ H10 hi ⟨v7, v8, rfl, S10, b10⟩
      refine draws_join (n := 9) (p := p) (by decide) ev_c (fun x => rfl) (fun x => rfl) S10 fun ds H11 dl dd S11 b11 => ?_
      dsimp only
      have T2 : IsTab ds 2 := ⟨by decide, by decide, dl, dd⟩
      have BA11 := BoxAt.butW S10 b11 (BoxAt.butW S9 b10 BA9)
      have d11 := b11 _ _ pnd (b10 _ _ pnd d9)
      refine q_pass (et_is (et_test (ev_op (x := .str (tab ds)) (ev_def (ea_cons (ev_var rfl) (ea_cons (ev_is (ev_tableOf (x := xt) (ev_var rfl) BA11 (by rw [xnm]; exact ev_c) hx0) (show V.str (tab xt.ds) = V.str (tab topD) by rw [xds])) (ea_cons (ev_var rfl) ea_nil))) fun H12 e12 Q q12 =>
        ⟨pd, kvsT (oneG L).F, ds, rfl, e12 _ _ d11, fun r T => kvsT_get (G.all r T), T2, q12⟩) (ev_var rfl) (rv_ne rfl))) (by rw [decide_eq_true rfl]; rfl)) fun H12 e12 => ?_
      have okx : Oks (L ++ [⟨Str.ofString "q", ds, 2⟩]) := oks_q70 G T2
      have BA12 := BA11.mono e12
      have rowq : Str.ofString "q " ++ tab ds = (⟨Str.ofString "q", ds, 2⟩ : Nt).row := by
        have e : Str.ofString "q " = Str.ofString "q" ++ Str.ofString " " := by decide +kernel
        rw [e]
        rfl
      refine s_pass (et_is (et_test (ev_neX (d1 := .tuple (dT [])) (d2 := .tuple (dT [])) (evd_tuX (ss := []) (eu_def (ea_cons (ev_var rfl) (ea_cons (ev_is (ev_addS70 ev_c (ev_var rfl) (by rw [tab_len]; have := T2.small; have : (Str.ofString "q ").length = 2 := rfl; exact Nat.le_trans (by omega : _ ≤ 200) (by decide))) (show V.str (Str.ofString "q " ++ tab ds) = V.str (⟨Str.ofString "q", ds, 2⟩ : Nt).row by rw [rowq])) ea_nil)) fun H13 e13 Q q13 =>
        ⟨a, L, ⟨Str.ofString "q", ds, 2⟩, rfl, BA12.mono e13, okx, by rw [none_new70 G okx]; exact q13⟩)) (evd_tuX (ss := []) (eu_tup ea_nil (by decide))) shN shN)) (by rw [eqv_tups, decide_eq_true rfl]; rfl)) fun H13 e13 => ⟨_, _, rfl, spr_at S11 (e12.trans e13), (b10.trans b11).trans (But.of (e12.trans e13))⟩
    rintro σ H10 ⟨v7, v8, rfl, S10, b10⟩
    have h10 := b10 _ _ pnw h9
    refine ⟨by show 1 ≤ sizeLine; decide, fun la hla => ?_⟩
    have x1 := Ex.new (o := .lst [V.str (Str.ofString "012")]) hla
    have g1 := upd_same (H := H10) (a := la) (o := .lst [V.str (Str.ofString "012")])
    have S11 := spr_at S10 x1
    have nla : la ≠ p := spr_not S10 hla
    generalize upd H10 la (.lst [V.str (Str.ofString "012")]) = H11 at x1 g1 S11
    refine draws_of (K := K) (n := 5) (F := (oneG L).F) (by decide) Fne one_l (fun x => rfl) (fun x => rfl) (fun x => rfl) S11 (x1 _ _ h10) fun D H12 Gs gl gmm S12 b12 hD nD hD12 => ?_
    refine ⟨la, D, [V.str (Str.ofString "012")], textsV Gs, rfl, rfl, b12 _ _ nla g1, hD12, by rw [textsV_len, gl]; show 1 + 5 ≤ sizeLine; decide, fun lt hlt => ?_⟩
    have x2 := Ex.new (o := .lst ([V.str (Str.ofString "012")] ++ textsV Gs)) hlt
    have g2 : upd H12 lt (.lst ([V.str (Str.ofString "012")] ++ textsV Gs)) lt = some (.lst (textsV ([0, 1, 2] :: Gs))) := upd_same
    have S13 := spr_at S12 x2
    have nlt : lt ≠ p := spr_not S12 hlt
    have b13 : But p H9 (upd H12 lt (.lst ([V.str (Str.ofString "012")] ++ textsV Gs))) := ((b10.trans (But.of x1)).trans b12).trans (But.of x2)
    generalize upd H12 lt (.lst ([V.str (Str.ofString "012")] ++ textsV Gs)) = H13 at g2 S13 b13
    have Min : ∀ r ∈ ([0, 1, 2] :: Gs : List (List Nat)), r ∈ (oneG L).F := fun r hr => by
      rcases List.mem_cons.mp hr with rfl | hr
      · exact List.mem_of_getElem? F0
      · exact gmm r hr
    refine ⟨lt, rfl, ⟨_, SqL.of g2⟩, for_list (K := K) (a := lt) (xs := textsV ([0, 1, 2] :: Gs)) (fun i σ H14 => ∃ v7 v8 v9 : Option V, σ = [some (.ref p), some (.ref l), some (.ref a), some (.ref c), some (.ref q), some (.ref pw), some (.ref pd), v7, v8, v9, none] ∧ Spr H14 p ∧ But p H13 H14)
      ⟨_, _, _, rfl, S13, But.of (Ex.refl _)⟩ (fun i σ H14 _ ⟨_, _, _, _, _, b14⟩ => SqL.of (b14 _ _ nlt g2)) ?_ ?_⟩
    · rintro i z σ H14 hz ⟨w7, w8, w9, rfl, S14, b14⟩
      obtain ⟨r, hr, rfl⟩ := textsV_at hz
      have inF := Min r (List.mem_of_getElem? hr)
      have T1 := Fok r inF
      have BA14 := BoxAt.butW S9 (b13.trans b14) BA9
      have hl14 := b14 _ _ lp (b13 _ _ lp hl9)
      refine ⟨_, rfl, _, rfl, a, L, r, rfl, BA14, T1, fun nr => absurd inF nr, fun k hk qq H15 zz hqq e15 h15 TZ => ?_⟩
      have kF := (List.getElem?_eq_some_iff.mp hk).1
      have kT : k ≤ (oneG L).T.length := by have := RI.len; omega
      have rr : ranOf L ((oneG L).T.take k) = (oneG L).F.take (k + 1) := by rw [ran_cut, RI.ran]
      have hl15 := e15 _ _ hl14
      have cut : ∀ i t, ((oneG L).T.take k)[i]? = some t → StepOk L (i + 1) t := fun i t ht => RI.ok i t (by rw [List.getElem?_take] at ht; split at ht; exact ht; cases ht)
      have shS : SeqAt.shaped (.tuple (((oneG L).T.take k).map stepD)) = true := steps_shaped fun t ht => by
        obtain ⟨i, hi⟩ := List.mem_iff_getElem?.mp ht
        obtain ⟨x, hx, tx, _⟩ := cut i t hi
        rw [tx]
        exact name_lay (ok.ok x hx).name
      have same : decide ((oneG L).T.take k = []) = decide (V.str (tab r) = V.str (Str.ofString "012")) := by
        have e012 : Str.ofString "012" = tab [0, 1, 2] := by decide +kernel
        rw [e012]
        refine decide_eq_decide.mpr ⟨fun h => ?_, fun h => ?_⟩
        · have : k = 0 := by
            have := congrArg List.length h
            rw [List.length_take] at this
            have : min k (oneG L).T.length = 0 := this
            omega
          rw [this, F0] at hk
          rw [← Option.some.inj hk]
        · have e := tab_inj (V.str.inj h)
          rw [e] at hk
          obtain ⟨la', ea⟩ := List.getElem?_eq_some_iff.mp hk
          obtain ⟨lb, eb⟩ := List.getElem?_eq_some_iff.mp F0
          have : k = 0 := by
            rcases Nat.eq_zero_or_pos k with z | z
            · exact z
            · exact absurd (by rw [ea, eb]) ((List.pairwise_iff_getElem.mp go.ok.nd) 0 k lb la' z)
          rw [this]
          rfl
      dsimp only
      refine s_pass (t := _) ?_ fun H16 e16 => ⟨_, _, _, rfl, spr_at S14 (e15.trans e16), b14.trans (But.of (e15.trans e16))⟩
      refine et_is (et_or (a := false) (et_test (ev_is (ev_op (x := .str (tab r)) (ev_opL1 (xs := textsV ((oneG L).F.take (k + 1))) (el_def (ea_cons (ev_var rfl) (ea_cons (ev_var rfl) ea_nil)) fun H16 e16 Q q7 =>
        ⟨l, qq, L, zz, (oneG L).T.take k, rfl, SqL.of (e16 _ _ hl15), ok, e16 _ _ h15, Tolds.mono e16 TZ, by rw [List.length_take]; omega, cut, fun r hr => Fok r (List.mem_of_mem_take (rr ▸ hr)), by rw [rr]; exact q7⟩)
        (fun _ _ => ev_un ev_c ru_neg) fun pf H8 h8 _ => rv_ixL (SqL.of h8) (atI_last (k := k) (by rw [textsV_len, List.length_take]; omega) (by unfold textsV; rw [List.getElem?_map, List.getElem?_take_of_lt (by omega), hk]; rfl))) (ev_var rfl) (rv_ne rfl)) (by rw [decide_eq_true rfl]; rfl))) fun _ =>
        et_test (ev_op (x := .bl (decide ((oneG L).T.take k = []))) (y := .bl (decide (V.str (tab r) = V.str (Str.ofString "012")))) (ev_is (ev_eqX (d1 := .tuple (((oneG L).T.take k).map stepD)) (d2 := .tuple (dT [])) (fun H16 e16 Q q7 => ⟨_, rfl, q7 _ H16 (Ex.refl _) (.tup (SqT.of (e16 _ _ h15)) (dp_tolds (Tolds.mono e16 TZ)))⟩) (evd_tuX (ss := []) (eu_tup ea_nil (by decide))) shS shN) (by
          show V.bl (PyData.eqv (.tuple (((oneG L).T.take k).map stepD)) (.tuple [])) = _
          rw [steps_nil])) (ev_op (ev_var rfl) ev_c (rv_eq rfl)) (rv_ne rfl))) (by rw [same, decide_eq_true rfl]; rfl)
    · rintro σ H14 ⟨w7, w8, w9, rfl, S14, b14⟩
      dsimp only
      refine s_ret (v := .bl true) ev_c fun H15 e15 => ?_
      exact k H15 (((b09.trans b13).trans b14).trans (But.of e15))
end
end Tv

namespace Tv
open PySem PySem.Spec PyProof.Rows L2 Evl
section
variable {P : Program} {w : World} {K : PySem.W.Frag} {mg : Str → Option Value} {base : Heap} {f aL aW : Addr} {fd : FuncData}
section
variable {σ : L2.St} {H : Hp} {ta tb te : TE}
theorem ev_lenSq {p : Addr} {xs : List V} (h : Ev te σ H (.ref p)) (hx : SqL K H p xs) :
    Ev (tCB (fun xs H Q => ∃ x n, xs = [x] ∧ LenV K x H n ∧ Q (.int (n : Nat)) H) (tCons te tNil)) σ H (.int (xs.length : Nat)) :=
  fun H1 e Q q => h H1 e _ fun H2 e2 => ⟨.ref p, xs.length, rfl, Or.inl ⟨xs, ex_l (e.trans e2) hx, rfl⟩, q H2 e2⟩
theorem ev_least {i j : Int} (ha : Ev ta σ H (.int i)) (hb : Ev tb σ H (.int j)) :
    Ev (tCB (fun xs H Q => ∃ i j, xs = [.int i, .int j] ∧ Q (.int (if j < i then j else i)) H) (tCons ta (tCons tb tNil))) σ H (.int (if j < i then j else i)) := fun H1 e Q q =>
  ha H1 e _ fun H2 e2 => hb H2 (e.trans e2) _ fun H3 e3 => ⟨i, j, rfl, q H3 (e2.trans e3)⟩
theorem ev_most {i j : Int} (ha : Ev ta σ H (.int i)) (hb : Ev tb σ H (.int j)) :
    Ev (tCB (fun xs H Q => ∃ i j, xs = [.int i, .int j] ∧ Q (.int (if j > i then j else i)) H) (tCons ta (tCons tb tNil))) σ H (.int (if j > i then j else i)) := fun H1 e Q q =>
  ha H1 e _ fun H2 e2 => hb H2 (e.trans e2) _ fun H3 e3 => ⟨i, j, rfl, q H3 (e2.trans e3)⟩
end
def spScript (K : PySem.W.Frag) : Sp := fun vs H Q _ => ∃ (a : Addr) (ns : List Int), vs = [.ref a] ∧ SqL K H a (ns.map V.int) ∧ ns.length ≤ 63 ∧ ∀ H', Q (.bl true) H'
abbrev slaw : Stmt := top 80
abbrev Nlaw : List Str := ["cells", "k"]
theorem sclaw : FnScope Nlaw ["cells"] (defScope slaw) := ⟨rfl, rfl, rfl, by decide +kernel, rfl, by decide +kernel, by decide +kernel⟩
theorem ok_law (F : Fun K "law" "law" slaw f fd) (B : Blt mg) (D__law_spring : DefG P w K mg base "_law_spring" ["cells", "k"] 1 (spSpring K))
    (D__law_right : DefG P w K mg base "_law_right" ["spring"] 9 spRight) : FnG P w K mg base 10 f fd ["cells"] (spScript K) := by
  refine fnG F sclaw (fun vs H Q E h => ?_) (fun cdv A fr s H vs Q E hr gd h => ?_)
  · obtain ⟨a, ns, rfl, _⟩ := h
    rfl
  · obtain ⟨a, ns, rfl, hS, many, k⟩ := h
    refine ⟨_, (pss_one (ps_ret (pe_callB (cr_all rfl) (by rfl) B.m_all (by decide +kernel) (pa_cons (pe_lc (own := [("k", 1)]) (g := gName 1) rfl sclaw.nd (pi_range1 rfl B.m_range (pa_cons (pe_callB (call_max2 rfl) (by rfl) B.m_max (by decide +kernel) (pa_cons pe_int (pa_cons (pe_callB (call_min2 rfl) (by rfl) B.m_min (by decide +kernel) (pa_cons (pe_callB call_len (by rfl) B.m_len (by decide +kernel) (pa_cons (pv 0) pa_nil)) (pa_cons pe_int pa_nil))) pa_nil))) pa_nil)) (blkOk_by (own := [("k", 1)]) (N := Nlaw) (sc := defScope slaw) (by decide +kernel)) (fun _ _ _ _ _ => (pg_name (i := 1) sclaw.nd rfl (Or.inl rfl))) (fun _ _ _ _ _ => pts_nil) (fun _ _ _ _ _ => (pe_def D__law_right (hr.mono (by decide)) gd rfl (pa_cons (pe_def D__law_spring (hr.mono (by decide)) gd rfl (pa_cons (pv 0) (pa_cons (pv 1) pa_nil))) pa_nil)))) pa_nil)))), ?_⟩
    have S5 : SqL K H a (ns.map V.int) := hS
    generalize em2 : (if (if 3 < (((ns.map V.int).length : Nat) : Int) then 3 else (((ns.map V.int).length : Nat) : Int)) > 2 then (if 3 < (((ns.map V.int).length : Nat) : Int) then 3 else (((ns.map V.int).length : Nat) : Int)) else 2) = m
    have m05 : 0 ≤ m ∧ m ≤ 4 := by
      rw [← em2]
      split <;> split <;> omega
    refine s_ret (v := .bl ((List.replicate m.toNat true).all id)) (ev_allN ?_) fun H6 e6 => ?_
    · have eg : (List.replicate m.toNat true).map V.bl = given m.toNat (fun _ => true) (fun _ => .bl true) := by
        unfold given
        rw [List.filter_eq_self.mpr fun _ _ => rfl, List.map_replicate, List.map_const', List.length_range]
      rw [eg]
      refine el_lcR1 (n := m) (fun _ => true) (fun _ => .bl true) ?_ ⟨m05.1, by omega⟩ (fun x => rfl) (fun i H1 e hi => et_yes) (fun i H1 e hi _ => ?_)
      · rw [← em2]
        exact ea_cons (ev_most ev_c (ev_least (ev_lenSq (ev_var rfl) S5) ev_c)) ea_nil
      · exact fun H7 e7 Q7 q => ⟨_, rfl, _, rfl, a, ns, (i : Int), rfl, ex_l (e.trans e7) S5, many, by omega, by omega, fun p H8 hp e8 S8 =>
          ⟨p, rfl, S8, fun H9 b9 => q H9 fun b o hb => b9 _ _ (ne_of_none hb hp) (e8 _ _ hb)⟩⟩
    · have e9 : ∀ m : Nat, (List.replicate m true).all id = true := fun m => by simp
      rw [e9]
      exact k H6
end
end Tv

namespace Tv
open PySem PySem.Spec PyProof.Rows L2 Evl
theorem gather {l : PySem.W.OpenLaw} {w : World} {K : PySem.W.Frag} {h : Heap} {mg : Str → Option Value} {fa : Addr} (KZ : K.In h) (gl : h.Ns mainGlobals mg) (named : mg "law" = some (.ref fa))
    {f0 : Addr} {od0 an0 : Option Addr} {sl0 : Array (Option Value)} {oc0 kV0 dc0 pm0 cd0 ct0 : Value}
    (a0 : PySem.W.nsIn K mainGlobals "is_integer" = some (some (.ref f0)))
    (l0 : K.lookup f0 = some ⟨oc0, od0, .func (PySem.W.fnOf "is_integer" "is_integer" (defArgs sis_integer) (defBody sis_integer) (defScope sis_integer) .none kV0 dc0 pm0 an0 cd0 ct0), sl0⟩)
    (c0 : PySem.W.codeIn K cd0 "is_integer" = true)
    (k0 : PySem.W.keepIn K (.ref f0) = true)
    {f1 : Addr} {od1 an1 : Option Addr} {sl1 : Array (Option Value)} {oc1 kV1 dc1 pm1 cd1 ct1 : Value}
    (a1 : PySem.W.nsIn K mainGlobals "is_index" = some (some (.ref f1)))
    (l1 : K.lookup f1 = some ⟨oc1, od1, .func (PySem.W.fnOf "is_index" "is_index" (defArgs sis_index) (defBody sis_index) (defScope sis_index) .none kV1 dc1 pm1 an1 cd1 ct1), sl1⟩)
    (c1 : PySem.W.codeIn K cd1 "is_index" = true)
    (k1 : PySem.W.keepIn K (.ref f1) = true)
    {f2 : Addr} {od2 an2 : Option Addr} {sl2 : Array (Option Value)} {oc2 kV2 dc2 pm2 cd2 ct2 : Value}
    (a2 : PySem.W.nsIn K mainGlobals "is_table" = some (some (.ref f2)))
    (l2 : K.lookup f2 = some ⟨oc2, od2, .func (PySem.W.fnOf "is_table" "is_table" (defArgs sis_table) (defBody sis_table) (defScope sis_table) .none kV2 dc2 pm2 an2 cd2 ct2), sl2⟩)
    (c2 : PySem.W.codeIn K cd2 "is_table" = true)
    (k2 : PySem.W.keepIn K (.ref f2) = true)
    {f3 : Addr} {od3 an3 : Option Addr} {sl3 : Array (Option Value)} {oc3 kV3 dc3 pm3 cd3 ct3 : Value}
    (a3 : PySem.W.nsIn K mainGlobals "is_of_one_place" = some (some (.ref f3)))
    (l3 : K.lookup f3 = some ⟨oc3, od3, .func (PySem.W.fnOf "is_of_one_place" "is_of_one_place" (defArgs sis_of_one_place) (defBody sis_of_one_place) (defScope sis_of_one_place) .none kV3 dc3 pm3 an3 cd3 ct3), sl3⟩)
    (c3 : PySem.W.codeIn K cd3 "is_of_one_place" = true)
    (k3 : PySem.W.keepIn K (.ref f3) = true)
    {f4 : Addr} {od4 an4 : Option Addr} {sl4 : Array (Option Value)} {oc4 kV4 dc4 pm4 cd4 ct4 : Value}
    (a4 : PySem.W.nsIn K mainGlobals "are_tables" = some (some (.ref f4)))
    (l4 : K.lookup f4 = some ⟨oc4, od4, .func (PySem.W.fnOf "are_tables" "are_tables" (defArgs sare_tables) (defBody sare_tables) (defScope sare_tables) .none kV4 dc4 pm4 an4 cd4 ct4), sl4⟩)
    (c4 : PySem.W.codeIn K cd4 "are_tables" = true)
    (k4 : PySem.W.keepIn K (.ref f4) = true)
    {f5 : Addr} {od5 an5 : Option Addr} {sl5 : Array (Option Value)} {oc5 kV5 dc5 pm5 cd5 ct5 : Value}
    (a5 : PySem.W.nsIn K mainGlobals "must_be_table" = some (some (.ref f5)))
    (l5 : K.lookup f5 = some ⟨oc5, od5, .func (PySem.W.fnOf "must_be_table" "must_be_table" (defArgs smust_be_table) (defBody smust_be_table) (defScope smust_be_table) .none kV5 dc5 pm5 an5 cd5 ct5), sl5⟩)
    (c5 : PySem.W.codeIn K cd5 "must_be_table" = true)
    (k5 : PySem.W.keepIn K (.ref f5) = true)
    {f6 : Addr} {od6 an6 : Option Addr} {sl6 : Array (Option Value)} {oc6 kV6 dc6 pm6 cd6 ct6 : Value}
    (a6 : PySem.W.nsIn K mainGlobals "all_ways" = some (some (.ref f6)))
    (l6 : K.lookup f6 = some ⟨oc6, od6, .func (PySem.W.fnOf "all_ways" "all_ways" (defArgs sall_ways) (defBody sall_ways) (defScope sall_ways) .none kV6 dc6 pm6 an6 cd6 ct6), sl6⟩)
    (c6 : PySem.W.codeIn K cd6 "all_ways" = true)
    (k6 : PySem.W.keepIn K (.ref f6) = true)
    {f7 : Addr} {od7 an7 : Option Addr} {sl7 : Array (Option Value)} {oc7 kV7 dc7 pm7 cd7 ct7 : Value}
    (a7 : PySem.W.nsIn K mainGlobals "all_ways" = some (some (.ref f7)))
    (l7 : K.lookup f7 = some ⟨oc7, od7, .func (PySem.W.fnOf "all_ways" "all_ways" (defArgs sall_ways) (defBody sall_ways) (defScope sall_ways) .none kV7 dc7 pm7 an7 cd7 ct7), sl7⟩)
    (c7 : PySem.W.codeIn K cd7 "all_ways" = true)
    (k7 : PySem.W.keepIn K (.ref f7) = true)
    {f8 : Addr} {od8 an8 : Option Addr} {sl8 : Array (Option Value)} {oc8 kV8 dc8 pm8 cd8 ct8 : Value}
    (a8 : PySem.W.nsIn K mainGlobals "all_arguments" = some (some (.ref f8)))
    (l8 : K.lookup f8 = some ⟨oc8, od8, .func (PySem.W.fnOf "all_arguments" "all_arguments" (defArgs sall_arguments) (defBody sall_arguments) (defScope sall_arguments) .none kV8 dc8 pm8 an8 cd8 ct8), sl8⟩)
    (c8 : PySem.W.codeIn K cd8 "all_arguments" = true)
    (k8 : PySem.W.keepIn K (.ref f8) = true)
    {f9 : Addr} {od9 an9 : Option Addr} {sl9 : Array (Option Value)} {oc9 kV9 dc9 pm9 cd9 ct9 : Value}
    (a9 : PySem.W.nsIn K mainGlobals "places" = some (some (.ref f9)))
    (l9 : K.lookup f9 = some ⟨oc9, od9, .func (PySem.W.fnOf "places" "places" (defArgs splaces) (defBody splaces) (defScope splaces) .none kV9 dc9 pm9 an9 cd9 ct9), sl9⟩)
    (c9 : PySem.W.codeIn K cd9 "places" = true)
    (k9 : PySem.W.keepIn K (.ref f9) = true)
    {f10 : Addr} {od10 an10 : Option Addr} {sl10 : Array (Option Value)} {oc10 kV10 dc10 pm10 cd10 ct10 : Value}
    (a10 : PySem.W.nsIn K mainGlobals "values_of" = some (some (.ref f10)))
    (l10 : K.lookup f10 = some ⟨oc10, od10, .func (PySem.W.fnOf "values_of" "values_of" (defArgs svalues_of) (defBody svalues_of) (defScope svalues_of) .none kV10 dc10 pm10 an10 cd10 ct10), sl10⟩)
    (c10 : PySem.W.codeIn K cd10 "values_of" = true)
    (k10 : PySem.W.keepIn K (.ref f10) = true)
    {f11 : Addr} {od11 an11 : Option Addr} {sl11 : Array (Option Value)} {oc11 kV11 dc11 pm11 cd11 ct11 : Value}
    (a11 : PySem.W.nsIn K mainGlobals "made_from" = some (some (.ref f11)))
    (l11 : K.lookup f11 = some ⟨oc11, od11, .func (PySem.W.fnOf "made_from" "made_from" (defArgs smade_from) (defBody smade_from) (defScope smade_from) .none kV11 dc11 pm11 an11 cd11 ct11), sl11⟩)
    (c11 : PySem.W.codeIn K cd11 "made_from" = true)
    (k11 : PySem.W.keepIn K (.ref f11) = true)
    {f12 : Addr} {od12 an12 : Option Addr} {sl12 : Array (Option Value)} {oc12 kV12 dc12 pm12 cd12 ct12 : Value}
    (a12 : PySem.W.nsIn K mainGlobals "made_from" = some (some (.ref f12)))
    (l12 : K.lookup f12 = some ⟨oc12, od12, .func (PySem.W.fnOf "made_from" "made_from" (defArgs smade_from) (defBody smade_from) (defScope smade_from) .none kV12 dc12 pm12 an12 cd12 ct12), sl12⟩)
    (c12 : PySem.W.codeIn K cd12 "made_from" = true)
    (k12 : PySem.W.keepIn K (.ref f12) = true)
    {f13 : Addr} {od13 an13 : Option Addr} {sl13 : Array (Option Value)} {oc13 kV13 dc13 pm13 cd13 ct13 : Value}
    (a13 : PySem.W.nsIn K mainGlobals "counts" = some (some (.ref f13)))
    (l13 : K.lookup f13 = some ⟨oc13, od13, .func (PySem.W.fnOf "counts" "counts" (defArgs scounts) (defBody scounts) (defScope scounts) .none kV13 dc13 pm13 an13 cd13 ct13), sl13⟩)
    (c13 : PySem.W.codeIn K cd13 "counts" = true)
    (k13 : PySem.W.keepIn K (.ref f13) = true)
    {f14 : Addr} {od14 an14 : Option Addr} {sl14 : Array (Option Value)} {oc14 kV14 dc14 pm14 cd14 ct14 : Value}
    (a14 : PySem.W.nsIn K mainGlobals "counting" = some (some (.ref f14)))
    (l14 : K.lookup f14 = some ⟨oc14, od14, .func (PySem.W.fnOf "counting" "counting" (defArgs scounting) (defBody scounting) (defScope scounting) .none kV14 dc14 pm14 an14 cd14 ct14), sl14⟩)
    (c14 : PySem.W.codeIn K cd14 "counting" = true)
    (k14 : PySem.W.keepIn K (.ref f14) = true)
    {f15 : Addr} {od15 an15 : Option Addr} {sl15 : Array (Option Value)} {oc15 kV15 dc15 pm15 cd15 ct15 : Value}
    (a15 : PySem.W.nsIn K mainGlobals "is_onto" = some (some (.ref f15)))
    (l15 : K.lookup f15 = some ⟨oc15, od15, .func (PySem.W.fnOf "is_onto" "is_onto" (defArgs sis_onto) (defBody sis_onto) (defScope sis_onto) .none kV15 dc15 pm15 an15 cd15 ct15), sl15⟩)
    (c15 : PySem.W.codeIn K cd15 "is_onto" = true)
    (k15 : PySem.W.keepIn K (.ref f15) = true)
    {f16 : Addr} {od16 an16 : Option Addr} {sl16 : Array (Option Value)} {oc16 kV16 dc16 pm16 cd16 ct16 : Value}
    (a16 : PySem.W.nsIn K mainGlobals "put_together" = some (some (.ref f16)))
    (l16 : K.lookup f16 = some ⟨oc16, od16, .func (PySem.W.fnOf "put_together" "put_together" (defArgs sput_together) (defBody sput_together) (defScope sput_together) .none kV16 dc16 pm16 an16 cd16 ct16), sl16⟩)
    (c16 : PySem.W.codeIn K cd16 "put_together" = true)
    (k16 : PySem.W.keepIn K (.ref f16) = true)
    {f17 : Addr} {od17 an17 : Option Addr} {sl17 : Array (Option Value)} {oc17 kV17 dc17 pm17 cd17 ct17 : Value}
    (a17 : PySem.W.nsIn K mainGlobals "all_tables" = some (some (.ref f17)))
    (l17 : K.lookup f17 = some ⟨oc17, od17, .func (PySem.W.fnOf "all_tables" "all_tables" (defArgs sall_tables) (defBody sall_tables) (defScope sall_tables) .none kV17 dc17 pm17 an17 cd17 ct17), sl17⟩)
    (c17 : PySem.W.codeIn K cd17 "all_tables" = true)
    (k17 : PySem.W.keepIn K (.ref f17) = true)
    {f18 : Addr} {od18 an18 : Option Addr} {sl18 : Array (Option Value)} {oc18 kV18 dc18 pm18 cd18 ct18 : Value}
    (a18 : PySem.W.nsIn K mainGlobals "is_word" = some (some (.ref f18)))
    (l18 : K.lookup f18 = some ⟨oc18, od18, .func (PySem.W.fnOf "is_word" "is_word" (defArgs sis_word) (defBody sis_word) (defScope sis_word) .none kV18 dc18 pm18 an18 cd18 ct18), sl18⟩)
    (c18 : PySem.W.codeIn K cd18 "is_word" = true)
    (k18 : PySem.W.keepIn K (.ref f18) = true)
    {f19 : Addr} {od19 an19 : Option Addr} {sl19 : Array (Option Value)} {oc19 kV19 dc19 pm19 cd19 ct19 : Value}
    (a19 : PySem.W.nsIn K mainGlobals "must_be_word" = some (some (.ref f19)))
    (l19 : K.lookup f19 = some ⟨oc19, od19, .func (PySem.W.fnOf "must_be_word" "must_be_word" (defArgs smust_be_word) (defBody smust_be_word) (defScope smust_be_word) .none kV19 dc19 pm19 an19 cd19 ct19), sl19⟩)
    (c19 : PySem.W.codeIn K cd19 "must_be_word" = true)
    (k19 : PySem.W.keepIn K (.ref f19) = true)
    {f20 : Addr} {od20 an20 : Option Addr} {sl20 : Array (Option Value)} {oc20 kV20 dc20 pm20 cd20 ct20 : Value}
    (a20 : PySem.W.nsIn K mainGlobals "is_pair" = some (some (.ref f20)))
    (l20 : K.lookup f20 = some ⟨oc20, od20, .func (PySem.W.fnOf "is_pair" "is_pair" (defArgs sis_pair) (defBody sis_pair) (defScope sis_pair) .none kV20 dc20 pm20 an20 cd20 ct20), sl20⟩)
    (c20 : PySem.W.codeIn K cd20 "is_pair" = true)
    (k20 : PySem.W.keepIn K (.ref f20) = true)
    {f21 : Addr} {od21 an21 : Option Addr} {sl21 : Array (Option Value)} {oc21 kV21 dc21 pm21 cd21 ct21 : Value}
    (a21 : PySem.W.nsIn K mainGlobals "relation" = some (some (.ref f21)))
    (l21 : K.lookup f21 = some ⟨oc21, od21, .func (PySem.W.fnOf "relation" "relation" (defArgs srelation) (defBody srelation) (defScope srelation) .none kV21 dc21 pm21 an21 cd21 ct21), sl21⟩)
    (c21 : PySem.W.codeIn K cd21 "relation" = true)
    (k21 : PySem.W.keepIn K (.ref f21) = true)
    {f22 : Addr} {od22 an22 : Option Addr} {sl22 : Array (Option Value)} {oc22 kV22 dc22 pm22 cd22 ct22 : Value}
    (a22 : PySem.W.nsIn K mainGlobals "is_sum" = some (some (.ref f22)))
    (l22 : K.lookup f22 = some ⟨oc22, od22, .func (PySem.W.fnOf "is_sum" "is_sum" (defArgs sis_sum) (defBody sis_sum) (defScope sis_sum) .none kV22 dc22 pm22 an22 cd22 ct22), sl22⟩)
    (c22 : PySem.W.codeIn K cd22 "is_sum" = true)
    (k22 : PySem.W.keepIn K (.ref f22) = true)
    {f23 : Addr} {od23 an23 : Option Addr} {sl23 : Array (Option Value)} {oc23 kV23 dc23 pm23 cd23 ct23 : Value}
    (a23 : PySem.W.nsIn K mainGlobals "first_out" = some (some (.ref f23)))
    (l23 : K.lookup f23 = some ⟨oc23, od23, .func (PySem.W.fnOf "first_out" "first_out" (defArgs sfirst_out) (defBody sfirst_out) (defScope sfirst_out) .none kV23 dc23 pm23 an23 cd23 ct23), sl23⟩)
    (c23 : PySem.W.codeIn K cd23 "first_out" = true)
    (k23 : PySem.W.keepIn K (.ref f23) = true)
    {f24 : Addr} {od24 an24 : Option Addr} {sl24 : Array (Option Value)} {oc24 kV24 dc24 pm24 cd24 ct24 : Value}
    (a24 : PySem.W.nsIn K mainGlobals "keeps" = some (some (.ref f24)))
    (l24 : K.lookup f24 = some ⟨oc24, od24, .func (PySem.W.fnOf "keeps" "keeps" (defArgs skeeps) (defBody skeeps) (defScope skeeps) .none kV24 dc24 pm24 an24 cd24 ct24), sl24⟩)
    (c24 : PySem.W.codeIn K cd24 "keeps" = true)
    (k24 : PySem.W.keepIn K (.ref f24) = true)
    {f25 : Addr} {od25 an25 : Option Addr} {sl25 : Array (Option Value)} {oc25 kV25 dc25 pm25 cd25 ct25 : Value}
    (a25 : PySem.W.nsIn K mainGlobals "name_of" = some (some (.ref f25)))
    (l25 : K.lookup f25 = some ⟨oc25, od25, .func (PySem.W.fnOf "name_of" "name_of" (defArgs sname_of) (defBody sname_of) (defScope sname_of) .none kV25 dc25 pm25 an25 cd25 ct25), sl25⟩)
    (c25 : PySem.W.codeIn K cd25 "name_of" = true)
    (k25 : PySem.W.keepIn K (.ref f25) = true)
    {f26 : Addr} {od26 an26 : Option Addr} {sl26 : Array (Option Value)} {oc26 kV26 dc26 pm26 cd26 ct26 : Value}
    (a26 : PySem.W.nsIn K mainGlobals "is_row" = some (some (.ref f26)))
    (l26 : K.lookup f26 = some ⟨oc26, od26, .func (PySem.W.fnOf "is_row" "is_row" (defArgs sis_row) (defBody sis_row) (defScope sis_row) .none kV26 dc26 pm26 an26 cd26 ct26), sl26⟩)
    (c26 : PySem.W.codeIn K cd26 "is_row" = true)
    (k26 : PySem.W.keepIn K (.ref f26) = true)
    {f27 : Addr} {od27 an27 : Option Addr} {sl27 : Array (Option Value)} {oc27 kV27 dc27 pm27 cd27 ct27 : Value}
    (a27 : PySem.W.nsIn K mainGlobals "must_be_rows" = some (some (.ref f27)))
    (l27 : K.lookup f27 = some ⟨oc27, od27, .func (PySem.W.fnOf "must_be_rows" "must_be_rows" (defArgs smust_be_rows) (defBody smust_be_rows) (defScope smust_be_rows) .none kV27 dc27 pm27 an27 cd27 ct27), sl27⟩)
    (c27 : PySem.W.codeIn K cd27 "must_be_rows" = true)
    (k27 : PySem.W.keepIn K (.ref f27) = true)
    {C : Addr} (aC : PySem.W.nsIn K mainGlobals "Box" = some (some (.ref C)))
    (c_pg : PySem.W.plainGet K C Str.empty = true)
    (c_hd : PySem.W.hasDictIn K C = true)
    (c_po : PySem.W.plainOver K C = true)
    (c_sa : PySem.W.findIn K (.ref C) "__setattr__" = some (some (.builtin "object.__setattr__")))
    (c_ha : PySem.W.findIn K (.ref C) "__class__" = some (some (.builtin "object.__class__")))
    (c_hn : PySem.W.specialIn K (.builtin "object.__class__") "__get__" = some (some (.builtin "getset_descriptor.__get__")))
    (c_htk : PySem.W.takesIn K (.builtin "object.__class__") = some true)
    (c_hm : PySem.W.mroIn K C (.type "object") = some true)
    (c_nR : PySem.W.findIn K (.ref C) "_rows" = some none)
    {f29 : Addr} {od29 an29 : Option Addr} {sl29 : Array (Option Value)} {oc29 kV29 dc29 pm29 cd29 ct29 : Value}
    (a29 : PySem.W.findIn K (.ref C) "__init__" = some (some (.ref f29)))
    (i29 : PySem.W.isFn K (.ref f29) = true)
    (mk29 : PySem.W.makesIn K C = true)
    (kc29 : PySem.W.keepIn K (.ref C) = true)
    (l29 : K.lookup f29 = some ⟨oc29, od29, .func (PySem.W.fnOf "__init__" "Box.__init__" (defArgs sBox___init__) (defBody sBox___init__) (defScope sBox___init__) .none kV29 dc29 pm29 an29 cd29 ct29), sl29⟩)
    (c29 : PySem.W.codeIn K cd29 "Box.__init__" = true)
    (k29 : PySem.W.keepIn K (.ref f29) = true)
    {f30 : Addr} {od30 an30 : Option Addr} {sl30 : Array (Option Value)} {oc30 kV30 dc30 pm30 cd30 ct30 : Value}
    {p30 : Addr} {rest30 : List Value} (a30 : PySem.W.findIn K (.ref C) "names" = some (some (.ref p30)))
    (g30 : PySem.W.specialIn K (.ref p30) "__get__" = some (some (.builtin "property.__get__")))
    (t30 : PySem.W.takesIn K (.ref p30) = some true)
    (r30 : PySem.W.recIn K p30 "property" = some (.ref f30 :: rest30))
    (l30 : K.lookup f30 = some ⟨oc30, od30, .func (PySem.W.fnOf "names" "Box.names" (defArgs sBox_names) (defBody sBox_names) (defScope sBox_names) .none kV30 dc30 pm30 an30 cd30 ct30), sl30⟩)
    (c30 : PySem.W.codeIn K cd30 "Box.names" = true)
    (k30 : PySem.W.keepIn K (.ref f30) = true)
    {f31 : Addr} {od31 an31 : Option Addr} {sl31 : Array (Option Value)} {oc31 kV31 dc31 pm31 cd31 ct31 : Value}
    {p31 : Addr} {rest31 : List Value} (a31 : PySem.W.findIn K (.ref C) "names" = some (some (.ref p31)))
    (g31 : PySem.W.specialIn K (.ref p31) "__get__" = some (some (.builtin "property.__get__")))
    (t31 : PySem.W.takesIn K (.ref p31) = some true)
    (r31 : PySem.W.recIn K p31 "property" = some (.ref f31 :: rest31))
    (l31 : K.lookup f31 = some ⟨oc31, od31, .func (PySem.W.fnOf "names" "Box.names" (defArgs sBox_names) (defBody sBox_names) (defScope sBox_names) .none kV31 dc31 pm31 an31 cd31 ct31), sl31⟩)
    (c31 : PySem.W.codeIn K cd31 "Box.names" = true)
    (k31 : PySem.W.keepIn K (.ref f31) = true)
    {f32 : Addr} {od32 an32 : Option Addr} {sl32 : Array (Option Value)} {oc32 kV32 dc32 pm32 cd32 ct32 : Value}
    {p32 : Addr} {rest32 : List Value} (a32 : PySem.W.findIn K (.ref C) "tables" = some (some (.ref p32)))
    (g32 : PySem.W.specialIn K (.ref p32) "__get__" = some (some (.builtin "property.__get__")))
    (t32 : PySem.W.takesIn K (.ref p32) = some true)
    (r32 : PySem.W.recIn K p32 "property" = some (.ref f32 :: rest32))
    (l32 : K.lookup f32 = some ⟨oc32, od32, .func (PySem.W.fnOf "tables" "Box.tables" (defArgs sBox_tables) (defBody sBox_tables) (defScope sBox_tables) .none kV32 dc32 pm32 an32 cd32 ct32), sl32⟩)
    (c32 : PySem.W.codeIn K cd32 "Box.tables" = true)
    (k32 : PySem.W.keepIn K (.ref f32) = true)
    {f33 : Addr} {od33 an33 : Option Addr} {sl33 : Array (Option Value)} {oc33 kV33 dc33 pm33 cd33 ct33 : Value}
    {p33 : Addr} {rest33 : List Value} (a33 : PySem.W.findIn K (.ref C) "text" = some (some (.ref p33)))
    (g33 : PySem.W.specialIn K (.ref p33) "__get__" = some (some (.builtin "property.__get__")))
    (t33 : PySem.W.takesIn K (.ref p33) = some true)
    (r33 : PySem.W.recIn K p33 "property" = some (.ref f33 :: rest33))
    (l33 : K.lookup f33 = some ⟨oc33, od33, .func (PySem.W.fnOf "text" "Box.text" (defArgs sBox_text) (defBody sBox_text) (defScope sBox_text) .none kV33 dc33 pm33 an33 cd33 ct33), sl33⟩)
    (c33 : PySem.W.codeIn K cd33 "Box.text" = true)
    (k33 : PySem.W.keepIn K (.ref f33) = true)
    {f34 : Addr} {od34 an34 : Option Addr} {sl34 : Array (Option Value)} {oc34 kV34 dc34 pm34 cd34 ct34 : Value}
    (a34 : PySem.W.findIn K (.ref C) "_index_of" = some (some (.ref f34)))
    (i34 : PySem.W.isFn K (.ref f34) = true)
    (l34 : K.lookup f34 = some ⟨oc34, od34, .func (PySem.W.fnOf "_index_of" "Box._index_of" (defArgs sBox__index_of) (defBody sBox__index_of) (defScope sBox__index_of) .none kV34 dc34 pm34 an34 cd34 ct34), sl34⟩)
    (c34 : PySem.W.codeIn K cd34 "Box._index_of" = true)
    (k34 : PySem.W.keepIn K (.ref f34) = true)
    {f35 : Addr} {od35 an35 : Option Addr} {sl35 : Array (Option Value)} {oc35 kV35 dc35 pm35 cd35 ct35 : Value}
    (a35 : PySem.W.findIn K (.ref C) "table_of" = some (some (.ref f35)))
    (i35 : PySem.W.isFn K (.ref f35) = true)
    (l35 : K.lookup f35 = some ⟨oc35, od35, .func (PySem.W.fnOf "table_of" "Box.table_of" (defArgs sBox_table_of) (defBody sBox_table_of) (defScope sBox_table_of) .none kV35 dc35 pm35 an35 cd35 ct35), sl35⟩)
    (c35 : PySem.W.codeIn K cd35 "Box.table_of" = true)
    (k35 : PySem.W.keepIn K (.ref f35) = true)
    {f36 : Addr} {od36 an36 : Option Addr} {sl36 : Array (Option Value)} {oc36 kV36 dc36 pm36 cd36 ct36 : Value}
    (a36 : PySem.W.findIn K (.ref C) "plus" = some (some (.ref f36)))
    (i36 : PySem.W.isFn K (.ref f36) = true)
    (l36 : K.lookup f36 = some ⟨oc36, od36, .func (PySem.W.fnOf "plus" "Box.plus" (defArgs sBox_plus) (defBody sBox_plus) (defScope sBox_plus) .none kV36 dc36 pm36 an36 cd36 ct36), sl36⟩)
    (c36 : PySem.W.codeIn K cd36 "Box.plus" = true)
    (k36 : PySem.W.keepIn K (.ref f36) = true)
    {f37 : Addr} {od37 an37 : Option Addr} {sl37 : Array (Option Value)} {oc37 kV37 dc37 pm37 cd37 ct37 : Value}
    (rd37 : PySem.W.readsIn K C (.type "type") = true)
    (ga37 : PySem.W.specialIn K (.ref C) "__getattribute__" = some (some (.builtin "type.__getattribute__")))
    {p37 : Addr} {rest37 : List Value} (a37 : PySem.W.findCls K (.ref C) (.type "type") "read" = some (.get (.builtin "classmethod.__get__") (.ref p37) .none (.ref C)))
    (r37 : PySem.W.recIn K p37 "classmethod" = some (.ref f37 :: rest37))
    (fi37 : PySem.W.fnIn K f37 = true)
    (l37 : K.lookup f37 = some ⟨oc37, od37, .func (PySem.W.fnOf "read" "Box.read" (defArgs sBox_read) (defBody sBox_read) (defScope sBox_read) .none kV37 dc37 pm37 an37 cd37 ct37), sl37⟩)
    (c37 : PySem.W.codeIn K cd37 "Box.read" = true)
    (k37 : PySem.W.keepIn K (.ref f37) = true)
    {f38 : Addr} {od38 an38 : Option Addr} {sl38 : Array (Option Value)} {oc38 kV38 dc38 pm38 cd38 ct38 : Value}
    (a38 : PySem.W.nsIn K mainGlobals "must_be_box" = some (some (.ref f38)))
    (l38 : K.lookup f38 = some ⟨oc38, od38, .func (PySem.W.fnOf "must_be_box" "must_be_box" (defArgs smust_be_box) (defBody smust_be_box) (defScope smust_be_box) .none kV38 dc38 pm38 an38 cd38 ct38), sl38⟩)
    (c38 : PySem.W.codeIn K cd38 "must_be_box" = true)
    (k38 : PySem.W.keepIn K (.ref f38) = true)
    {f39 : Addr} {od39 an39 : Option Addr} {sl39 : Array (Option Value)} {oc39 kV39 dc39 pm39 cd39 ct39 : Value}
    (a39 : PySem.W.nsIn K mainGlobals "kept" = some (some (.ref f39)))
    (l39 : K.lookup f39 = some ⟨oc39, od39, .func (PySem.W.fnOf "kept" "kept" (defArgs skept) (defBody skept) (defScope skept) .none kV39 dc39 pm39 an39 cd39 ct39), sl39⟩)
    (c39 : PySem.W.codeIn K cd39 "kept" = true)
    (k39 : PySem.W.keepIn K (.ref f39) = true)
    {f40 : Addr} {od40 an40 : Option Addr} {sl40 : Array (Option Value)} {oc40 kV40 dc40 pm40 cd40 ct40 : Value}
    (a40 : PySem.W.nsIn K mainGlobals "makes_all" = some (some (.ref f40)))
    (l40 : K.lookup f40 = some ⟨oc40, od40, .func (PySem.W.fnOf "makes_all" "makes_all" (defArgs smakes_all) (defBody smakes_all) (defScope smakes_all) .none kV40 dc40 pm40 an40 cd40 ct40), sl40⟩)
    (c40 : PySem.W.codeIn K cd40 "makes_all" = true)
    (k40 : PySem.W.keepIn K (.ref f40) = true)
    {f41 : Addr} {od41 an41 : Option Addr} {sl41 : Array (Option Value)} {oc41 kV41 dc41 pm41 cd41 ct41 : Value}
    (a41 : PySem.W.nsIn K mainGlobals "newest" = some (some (.ref f41)))
    (l41 : K.lookup f41 = some ⟨oc41, od41, .func (PySem.W.fnOf "newest" "newest" (defArgs snewest) (defBody snewest) (defScope snewest) .none kV41 dc41 pm41 an41 cd41 ct41), sl41⟩)
    (c41 : PySem.W.codeIn K cd41 "newest" = true)
    (k41 : PySem.W.keepIn K (.ref f41) = true)
    {f42 : Addr} {od42 an42 : Option Addr} {sl42 : Array (Option Value)} {oc42 kV42 dc42 pm42 cd42 ct42 : Value}
    (a42 : PySem.W.nsIn K mainGlobals "grown" = some (some (.ref f42)))
    (l42 : K.lookup f42 = some ⟨oc42, od42, .func (PySem.W.fnOf "grown" "grown" (defArgs sgrown) (defBody sgrown) (defScope sgrown) .none kV42 dc42 pm42 an42 cd42 ct42), sl42⟩)
    (c42 : PySem.W.codeIn K cd42 "grown" = true)
    (k42 : PySem.W.keepIn K (.ref f42) = true)
    {f43 : Addr} {od43 an43 : Option Addr} {sl43 : Array (Option Value)} {oc43 kV43 dc43 pm43 cd43 ct43 : Value}
    (a43 : PySem.W.nsIn K mainGlobals "text_of" = some (some (.ref f43)))
    (l43 : K.lookup f43 = some ⟨oc43, od43, .func (PySem.W.fnOf "text_of" "text_of" (defArgs stext_of) (defBody stext_of) (defScope stext_of) .none kV43 dc43 pm43 an43 cd43 ct43), sl43⟩)
    (c43 : PySem.W.codeIn K cd43 "text_of" = true)
    (k43 : PySem.W.keepIn K (.ref f43) = true)
    {f44 : Addr} {od44 an44 : Option Addr} {sl44 : Array (Option Value)} {oc44 kV44 dc44 pm44 cd44 ct44 : Value}
    (a44 : PySem.W.nsIn K mainGlobals "one_place_steps" = some (some (.ref f44)))
    (l44 : K.lookup f44 = some ⟨oc44, od44, .func (PySem.W.fnOf "one_place_steps" "one_place_steps" (defArgs sone_place_steps) (defBody sone_place_steps) (defScope sone_place_steps) .none kV44 dc44 pm44 an44 cd44 ct44), sl44⟩)
    (c44 : PySem.W.codeIn K cd44 "one_place_steps" = true)
    (k44 : PySem.W.keepIn K (.ref f44) = true)
    {f45 : Addr} {od45 an45 : Option Addr} {sl45 : Array (Option Value)} {oc45 kV45 dc45 pm45 cd45 ct45 : Value}
    (a45 : PySem.W.nsIn K mainGlobals "one_place" = some (some (.ref f45)))
    (l45 : K.lookup f45 = some ⟨oc45, od45, .func (PySem.W.fnOf "one_place" "one_place" (defArgs sone_place) (defBody sone_place) (defScope sone_place) .none kV45 dc45 pm45 an45 cd45 ct45), sl45⟩)
    (c45 : PySem.W.codeIn K cd45 "one_place" = true)
    (k45 : PySem.W.keepIn K (.ref f45) = true)
    {f46 : Addr} {od46 an46 : Option Addr} {sl46 : Array (Option Value)} {oc46 kV46 dc46 pm46 cd46 ct46 : Value}
    (a46 : PySem.W.nsIn K mainGlobals "steps" = some (some (.ref f46)))
    (l46 : K.lookup f46 = some ⟨oc46, od46, .func (PySem.W.fnOf "steps" "steps" (defArgs ssteps) (defBody ssteps) (defScope ssteps) .none kV46 dc46 pm46 an46 cd46 ct46), sl46⟩)
    (c46 : PySem.W.codeIn K cd46 "steps" = true)
    (k46 : PySem.W.keepIn K (.ref f46) = true)
    {f47 : Addr} {od47 an47 : Option Addr} {sl47 : Array (Option Value)} {oc47 kV47 dc47 pm47 cd47 ct47 : Value}
    (a47 : PySem.W.nsIn K mainGlobals "onto_names" = some (some (.ref f47)))
    (l47 : K.lookup f47 = some ⟨oc47, od47, .func (PySem.W.fnOf "onto_names" "onto_names" (defArgs sonto_names) (defBody sonto_names) (defScope sonto_names) .none kV47 dc47 pm47 an47 cd47 ct47), sl47⟩)
    (c47 : PySem.W.codeIn K cd47 "onto_names" = true)
    (k47 : PySem.W.keepIn K (.ref f47) = true)
    {f48 : Addr} {od48 an48 : Option Addr} {sl48 : Array (Option Value)} {oc48 kV48 dc48 pm48 cd48 ct48 : Value}
    (a48 : PySem.W.nsIn K mainGlobals "is_step" = some (some (.ref f48)))
    (l48 : K.lookup f48 = some ⟨oc48, od48, .func (PySem.W.fnOf "is_step" "is_step" (defArgs sis_step) (defBody sis_step) (defScope sis_step) .none kV48 dc48 pm48 an48 cd48 ct48), sl48⟩)
    (c48 : PySem.W.codeIn K cd48 "is_step" = true)
    (k48 : PySem.W.keepIn K (.ref f48) = true)
    {f49 : Addr} {od49 an49 : Option Addr} {sl49 : Array (Option Value)} {oc49 kV49 dc49 pm49 cd49 ct49 : Value}
    (a49 : PySem.W.nsIn K mainGlobals "made" = some (some (.ref f49)))
    (l49 : K.lookup f49 = some ⟨oc49, od49, .func (PySem.W.fnOf "made" "made" (defArgs smade) (defBody smade) (defScope smade) .none kV49 dc49 pm49 an49 cd49 ct49), sl49⟩)
    (c49 : PySem.W.codeIn K cd49 "made" = true)
    (k49 : PySem.W.keepIn K (.ref f49) = true)
    {f50 : Addr} {od50 an50 : Option Addr} {sl50 : Array (Option Value)} {oc50 kV50 dc50 pm50 cd50 ct50 : Value}
    (a50 : PySem.W.nsIn K mainGlobals "brings" = some (some (.ref f50)))
    (l50 : K.lookup f50 = some ⟨oc50, od50, .func (PySem.W.fnOf "brings" "brings" (defArgs sbrings) (defBody sbrings) (defScope sbrings) .none kV50 dc50 pm50 an50 cd50 ct50), sl50⟩)
    (c50 : PySem.W.codeIn K cd50 "brings" = true)
    (k50 : PySem.W.keepIn K (.ref f50) = true)
    {f51 : Addr} {od51 an51 : Option Addr} {sl51 : Array (Option Value)} {oc51 kV51 dc51 pm51 cd51 ct51 : Value}
    (a51 : PySem.W.nsIn K mainGlobals "certify_box" = some (some (.ref f51)))
    (l51 : K.lookup f51 = some ⟨oc51, od51, .func (PySem.W.fnOf "certify_box" "certify_box" (defArgs scertify_box) (defBody scertify_box) (defScope scertify_box) .none kV51 dc51 pm51 an51 cd51 ct51), sl51⟩)
    (c51 : PySem.W.codeIn K cd51 "certify_box" = true)
    (k51 : PySem.W.keepIn K (.ref f51) = true)
    {f52 : Addr} {od52 an52 : Option Addr} {sl52 : Array (Option Value)} {oc52 kV52 dc52 pm52 cd52 ct52 : Value}
    (a52 : PySem.W.nsIn K mainGlobals "_law_spring" = some (some (.ref f52)))
    (l52 : K.lookup f52 = some ⟨oc52, od52, .func (PySem.W.fnOf "_law_spring" "_law_spring" (defArgs slaw_spring) (defBody slaw_spring) (defScope slaw_spring) .none kV52 dc52 pm52 an52 cd52 ct52), sl52⟩)
    (c52 : PySem.W.codeIn K cd52 "_law_spring" = true)
    (k52 : PySem.W.keepIn K (.ref f52) = true)
    {f53 : Addr} {od53 an53 : Option Addr} {sl53 : Array (Option Value)} {oc53 kV53 dc53 pm53 cd53 ct53 : Value}
    (a53 : PySem.W.nsIn K mainGlobals "_law_draw" = some (some (.ref f53)))
    (l53 : K.lookup f53 = some ⟨oc53, od53, .func (PySem.W.fnOf "_law_draw" "_law_draw" (defArgs slaw_draw) (defBody slaw_draw) (defScope slaw_draw) .none kV53 dc53 pm53 an53 cd53 ct53), sl53⟩)
    (c53 : PySem.W.codeIn K cd53 "_law_draw" = true)
    (k53 : PySem.W.keepIn K (.ref f53) = true)
    {f54 : Addr} {od54 an54 : Option Addr} {sl54 : Array (Option Value)} {oc54 kV54 dc54 pm54 cd54 ct54 : Value}
    (a54 : PySem.W.nsIn K mainGlobals "_law_of" = some (some (.ref f54)))
    (l54 : K.lookup f54 = some ⟨oc54, od54, .func (PySem.W.fnOf "_law_of" "_law_of" (defArgs slaw_of) (defBody slaw_of) (defScope slaw_of) .none kV54 dc54 pm54 an54 cd54 ct54), sl54⟩)
    (c54 : PySem.W.codeIn K cd54 "_law_of" = true)
    (k54 : PySem.W.keepIn K (.ref f54) = true)
    {f55 : Addr} {od55 an55 : Option Addr} {sl55 : Array (Option Value)} {oc55 kV55 dc55 pm55 cd55 ct55 : Value}
    (a55 : PySem.W.nsIn K mainGlobals "_law_tuples" = some (some (.ref f55)))
    (l55 : K.lookup f55 = some ⟨oc55, od55, .func (PySem.W.fnOf "_law_tuples" "_law_tuples" (defArgs slaw_tuples) (defBody slaw_tuples) (defScope slaw_tuples) .none kV55 dc55 pm55 an55 cd55 ct55), sl55⟩)
    (c55 : PySem.W.codeIn K cd55 "_law_tuples" = true)
    (k55 : PySem.W.keepIn K (.ref f55) = true)
    {f56 : Addr} {od56 an56 : Option Addr} {sl56 : Array (Option Value)} {oc56 kV56 dc56 pm56 cd56 ct56 : Value}
    (a56 : PySem.W.nsIn K mainGlobals "_law_at" = some (some (.ref f56)))
    (l56 : K.lookup f56 = some ⟨oc56, od56, .func (PySem.W.fnOf "_law_at" "_law_at" (defArgs slaw_at) (defBody slaw_at) (defScope slaw_at) .none kV56 dc56 pm56 an56 cd56 ct56), sl56⟩)
    (c56 : PySem.W.codeIn K cd56 "_law_at" = true)
    (k56 : PySem.W.keepIn K (.ref f56) = true)
    {f57 : Addr} {od57 an57 : Option Addr} {sl57 : Array (Option Value)} {oc57 kV57 dc57 pm57 cd57 ct57 : Value}
    (a57 : PySem.W.nsIn K mainGlobals "_law_places" = some (some (.ref f57)))
    (l57 : K.lookup f57 = some ⟨oc57, od57, .func (PySem.W.fnOf "_law_places" "_law_places" (defArgs slaw_places) (defBody slaw_places) (defScope slaw_places) .none kV57 dc57 pm57 an57 cd57 ct57), sl57⟩)
    (c57 : PySem.W.codeIn K cd57 "_law_places" = true)
    (k57 : PySem.W.keepIn K (.ref f57) = true)
    {f58 : Addr} {od58 an58 : Option Addr} {sl58 : Array (Option Value)} {oc58 kV58 dc58 pm58 cd58 ct58 : Value}
    (a58 : PySem.W.nsIn K mainGlobals "_law_put" = some (some (.ref f58)))
    (l58 : K.lookup f58 = some ⟨oc58, od58, .func (PySem.W.fnOf "_law_put" "_law_put" (defArgs slaw_put) (defBody slaw_put) (defScope slaw_put) .none kV58 dc58 pm58 an58 cd58 ct58), sl58⟩)
    (c58 : PySem.W.codeIn K cd58 "_law_put" = true)
    (k58 : PySem.W.keepIn K (.ref f58) = true)
    {f59 : Addr} {od59 an59 : Option Addr} {sl59 : Array (Option Value)} {oc59 kV59 dc59 pm59 cd59 ct59 : Value}
    (a59 : PySem.W.nsIn K mainGlobals "_law_is_whole" = some (some (.ref f59)))
    (l59 : K.lookup f59 = some ⟨oc59, od59, .func (PySem.W.fnOf "_law_is_whole" "_law_is_whole" (defArgs slaw_is_whole) (defBody slaw_is_whole) (defScope slaw_is_whole) .none kV59 dc59 pm59 an59 cd59 ct59), sl59⟩)
    (c59 : PySem.W.codeIn K cd59 "_law_is_whole" = true)
    (k59 : PySem.W.keepIn K (.ref f59) = true)
    {f60 : Addr} {od60 an60 : Option Addr} {sl60 : Array (Option Value)} {oc60 kV60 dc60 pm60 cd60 ct60 : Value}
    (a60 : PySem.W.nsIn K mainGlobals "_law_ran" = some (some (.ref f60)))
    (l60 : K.lookup f60 = some ⟨oc60, od60, .func (PySem.W.fnOf "_law_ran" "_law_ran" (defArgs slaw_ran) (defBody slaw_ran) (defScope slaw_ran) .none kV60 dc60 pm60 an60 cd60 ct60), sl60⟩)
    (c60 : PySem.W.codeIn K cd60 "_law_ran" = true)
    (k60 : PySem.W.keepIn K (.ref f60) = true)
    {f61 : Addr} {od61 an61 : Option Addr} {sl61 : Array (Option Value)} {oc61 kV61 dc61 pm61 cd61 ct61 : Value}
    (a61 : PySem.W.nsIn K mainGlobals "_law_at_two" = some (some (.ref f61)))
    (l61 : K.lookup f61 = some ⟨oc61, od61, .func (PySem.W.fnOf "_law_at_two" "_law_at_two" (defArgs slaw_at_two) (defBody slaw_at_two) (defScope slaw_at_two) .none kV61 dc61 pm61 an61 cd61 ct61), sl61⟩)
    (c61 : PySem.W.codeIn K cd61 "_law_at_two" = true)
    (k61 : PySem.W.keepIn K (.ref f61) = true)
    {f62 : Addr} {od62 an62 : Option Addr} {sl62 : Array (Option Value)} {oc62 kV62 dc62 pm62 cd62 ct62 : Value}
    (a62 : PySem.W.nsIn K mainGlobals "_law_right" = some (some (.ref f62)))
    (l62 : K.lookup f62 = some ⟨oc62, od62, .func (PySem.W.fnOf "_law_right" "_law_right" (defArgs slaw_right) (defBody slaw_right) (defScope slaw_right) .none kV62 dc62 pm62 an62 cd62 ct62), sl62⟩)
    (c62 : PySem.W.codeIn K cd62 "_law_right" = true)
    (k62 : PySem.W.keepIn K (.ref f62) = true)
    {f63 : Addr} {od63 an63 : Option Addr} {sl63 : Array (Option Value)} {oc63 kV63 dc63 pm63 cd63 ct63 : Value}
    (a63 : PySem.W.nsIn K mainGlobals "law" = some (some (.ref f63)))
    (l63 : K.lookup f63 = some ⟨oc63, od63, .func (PySem.W.fnOf "law" "law" (defArgs slaw) (defBody slaw) (defScope slaw) .none kV63 dc63 pm63 an63 cd63 ct63), sl63⟩)
    (c63 : PySem.W.codeIn K cd63 "law" = true)
    (k63 : PySem.W.keepIn K (.ref f63) = true)
    (z_len : PySem.W.nsIn K mainGlobals "len" = some none)
    (z_isinstance : PySem.W.nsIn K mainGlobals "isinstance" = some none)
    (z_all : PySem.W.nsIn K mainGlobals "all" = some none)
    (z_any : PySem.W.nsIn K mainGlobals "any" = some none)
    (z_abs : PySem.W.nsIn K mainGlobals "abs" = some none)
    (z_divmod : PySem.W.nsIn K mainGlobals "divmod" = some none)
    (z_repr : PySem.W.nsIn K mainGlobals "repr" = some none)
    (z_range : PySem.W.nsIn K mainGlobals "range" = some none)
    (z_max : PySem.W.nsIn K mainGlobals "max" = some none)
    (z_min : PySem.W.nsIn K mainGlobals "min" = some none)
    (z_int : PySem.W.nsIn K mainGlobals "int" = some none)
    (z_str : PySem.W.nsIn K mainGlobals "str" = some none)
    (z_bool : PySem.W.nsIn K mainGlobals "bool" = some none)
    (z_tuple : PySem.W.nsIn K mainGlobals "tuple" = some none)
    (z_set : PySem.W.nsIn K mainGlobals "set" = some none)
    (z_list : PySem.W.nsIn K mainGlobals "list" = some none)
    (z_sorted : PySem.W.nsIn K mainGlobals "sorted" = some none)
    (z_zip : PySem.W.nsIn K mainGlobals "zip" = some none)
    (z_sum : PySem.W.nsIn K mainGlobals "sum" = some none)
    (z_dict : PySem.W.nsIn K mainGlobals "dict" = some none)
    (z_enumerate : PySem.W.nsIn K mainGlobals "enumerate" = some none)
    {aL : Addr} {t1 t2 t3 : Tok} {nL : Nat} {slL : Array (Option Value)} (aLens : PySem.W.nsIn K mainGlobals "LENGTHS" = some (some (.ref aL)))
    (lLens : K.lookup aL = some ⟨.type "tuple", none, .seq #[.int 3 t1, .int 9 t2, .int 27 t3] nL, slL⟩)
    {aW : Addr} {u0 u1 u2 u3 u4 u5 u6 u7 u8 u9 u10 u11 u12 u13 u14 u15 u16 u17 : Tok} {nW : Nat} {slW : Array (Option Value)} (aWords : PySem.W.nsIn K mainGlobals "WORDS" = some (some (.ref aW)))
    (lWords : K.lookup aW = some ⟨.type "tuple", none, .seq #[.str (Str.ofString "set 0") u0, .str (Str.ofString "set 1") u1, .str (Str.ofString "set 2") u2, .str (Str.ofString "set 01") u3, .str (Str.ofString "set 02") u4, .str (Str.ofString "set 12") u5, .str (Str.ofString "part 0") u6, .str (Str.ofString "part 1") u7, .str (Str.ofString "part 2") u8, .str (Str.ofString "turn") u9, .str (Str.ofString "sums") u10, .str (Str.ofString "chain 0") u11, .str (Str.ofString "chain 1") u12, .str (Str.ofString "chain 2") u13, .str (Str.ofString "centre 0") u14, .str (Str.ofString "centre 1") u15, .str (Str.ofString "centre 2") u16, .str (Str.ofString "mixed") u17] nW, slW⟩)
    {tML tMT tLe : Tok} (aML : PySem.W.nsIn K mainGlobals "MOST_LETTERS" = some (some (.int 4 tML)))
    (aMT : PySem.W.nsIn K mainGlobals "MOST_TABLES" = some (some (.int 6 tMT)))
    (aLe : PySem.W.nsIn K mainGlobals "LETTERS" = some (some (.str (Str.ofString "abcdefghijklmnopqrstuvwxyz") tLe)))
    {tAB : Tok} (aAB : PySem.W.nsIn K mainGlobals "ALL_BUT_ONE" = some (some (.int 26 tAB)))
    {tPL : Tok} (aPL : PySem.W.nsIn K mainGlobals "PLAIN" = some (some (.str (Str.ofString "012") tPL)))
    {cIR : Addr} (aIR : PySem.W.nsIn K mainGlobals "InvalidRows" = some (some (.ref cIR)))
    : ∃ fd : FuncData, (∀ (s : Shared) (v : Value), BindsTo s fd ⟨[v], []⟩ [("cells", v)]) ∧ ∀ base : Heap, K.In base → base.Ns mainGlobals mg → FnG l.prog w K mg base 10 fa fd ["cells"] (spScript K) := by
  have e := named.symm.trans (PySem.W.mg_of KZ gl a63)
  cases e
  have B : Blt mg := ⟨PySem.W.mg_none_of KZ gl z_len, PySem.W.mg_none_of KZ gl z_isinstance, PySem.W.mg_none_of KZ gl z_all, PySem.W.mg_none_of KZ gl z_any, PySem.W.mg_none_of KZ gl z_abs, PySem.W.mg_none_of KZ gl z_divmod, PySem.W.mg_none_of KZ gl z_repr, PySem.W.mg_none_of KZ gl z_range, PySem.W.mg_none_of KZ gl z_max, PySem.W.mg_none_of KZ gl z_min, PySem.W.mg_none_of KZ gl z_int, PySem.W.mg_none_of KZ gl z_str, PySem.W.mg_none_of KZ gl z_bool, PySem.W.mg_none_of KZ gl z_tuple, PySem.W.mg_none_of KZ gl z_set⟩
  have B3 : Blt3 mg := ⟨PySem.W.mg_none_of KZ gl z_list, PySem.W.mg_none_of KZ gl z_sorted, PySem.W.mg_none_of KZ gl z_zip⟩
  have B5 : Blt5 mg := ⟨PySem.W.mg_none_of KZ gl z_sum⟩
  have B6 : Blt6 mg := ⟨PySem.W.mg_none_of KZ gl z_dict⟩
  have LL : Lens K mg aL := ⟨PySem.W.mg_of KZ gl aLens, _, _, _, lLens, rfl, rfl, rfl, by show 3 ≤ sizeLine; decide, .cons ⟨_, rfl⟩ (.cons ⟨_, rfl⟩ (.cons ⟨_, rfl⟩ .nil))⟩
  have WW : Wds K mg aW := ⟨PySem.W.mg_of KZ gl aWords, _, _, _, lWords, rfl, rfl, rfl, by show 18 ≤ sizeLine; decide, .cons ⟨_, rfl⟩ (.cons ⟨_, rfl⟩ (.cons ⟨_, rfl⟩ (.cons ⟨_, rfl⟩ (.cons ⟨_, rfl⟩ (.cons ⟨_, rfl⟩ (.cons ⟨_, rfl⟩ (.cons ⟨_, rfl⟩ (.cons ⟨_, rfl⟩ (.cons ⟨_, rfl⟩ (.cons ⟨_, rfl⟩ (.cons ⟨_, rfl⟩ (.cons ⟨_, rfl⟩ (.cons ⟨_, rfl⟩ (.cons ⟨_, rfl⟩ (.cons ⟨_, rfl⟩ (.cons ⟨_, rfl⟩ (.cons ⟨_, rfl⟩ (.nil))))))))))))))))))⟩
  have BK : BoxK mg := ⟨⟨_, PySem.W.mg_of KZ gl aML, ⟨_, rfl⟩⟩, ⟨_, PySem.W.mg_of KZ gl aMT, ⟨_, rfl⟩⟩, ⟨_, PySem.W.mg_of KZ gl aLe, ⟨_, rfl⟩⟩, PySem.W.mg_none_of KZ gl z_enumerate⟩
  have mAB : ∃ u, mg "ALL_BUT_ONE" = some u ∧ RelV (.int 26) u := ⟨_, PySem.W.mg_of KZ gl aAB, ⟨_, rfl⟩⟩
  have mPL : ∃ u, mg "PLAIN" = some u ∧ RelV (.str (Str.ofString "012")) u := ⟨_, PySem.W.mg_of KZ gl aPL, ⟨_, rfl⟩⟩
  have BE : mg "enumerate" = none := PySem.W.mg_none_of KZ gl z_enumerate
  have mIR : mg "InvalidRows" = some (.ref cIR) := PySem.W.mg_of KZ gl aIR
  refine ⟨PySem.W.fnOf "law" "law" (defArgs slaw) (defBody slaw) (defScope slaw) .none kV63 dc63 pm63 an63 cd63 ct63, fun s v => .of_eq rfl, fun base _ _ => ?_⟩
  have F0 := fun_mk (st := sis_integer) l0 c0 k0
  have D0 : DefG l.prog w K mg base "is_integer" ["x"] 1 spIsInt :=
    ⟨f0, _, PySem.W.mg_of KZ gl a0, k0, F0.binds (ps := ["x"]) fun _ _ _ _ _ _ us hl => match us, hl with | [_], _ => rfl,
      ok_is_integer F0 B, fun s ws hl _ => match ws, hl with | [_], _ => .of_eq rfl⟩
  have F1 := fun_mk (st := sis_index) l1 c1 k1
  have D1 : DefG l.prog w K mg base "is_index" ["x", "count"] 2 spIsIndex :=
    ⟨f1, _, PySem.W.mg_of KZ gl a1, k1, F1.binds (ps := ["x", "count"]) fun _ _ _ _ _ _ us hl => match us, hl with | [_, _], _ => rfl,
      ok_is_index F1 B D0, fun s ws hl _ => match ws, hl with | [_, _], _ => .of_eq rfl⟩
  have F2 := fun_mk (st := sis_table) l2 c2 k2
  have D2 : DefG l.prog w K mg base "is_table" ["x"] 1 spIsTable :=
    ⟨f2, _, PySem.W.mg_of KZ gl a2, k2, F2.binds (ps := ["x"]) fun _ _ _ _ _ _ us hl => match us, hl with | [_], _ => rfl,
      ok_is_table F2 B LL, fun s ws hl _ => match ws, hl with | [_], _ => .of_eq rfl⟩
  have F3 := fun_mk (st := sis_of_one_place) l3 c3 k3
  have D3 : DefG l.prog w K mg base "is_of_one_place" ["x"] 2 spIsOne :=
    ⟨f3, _, PySem.W.mg_of KZ gl a3, k3, F3.binds (ps := ["x"]) fun _ _ _ _ _ _ us hl => match us, hl with | [_], _ => rfl,
      ok_is_one F3 B LL D2, fun s ws hl _ => match ws, hl with | [_], _ => .of_eq rfl⟩
  have F4 := fun_mk (st := sare_tables) l4 c4 k4
  have D4 : DefG l.prog w K mg base "are_tables" ["x", "count"] 2 spAreTables :=
    ⟨f4, _, PySem.W.mg_of KZ gl a4, k4, F4.binds (ps := ["x", "count"]) fun _ _ _ _ _ _ us hl => match us, hl with | [_, _], _ => rfl,
      ok_are_tables F4 B D2, fun s ws hl _ => match ws, hl with | [_, _], _ => .of_eq rfl⟩
  have F5 := fun_mk (st := smust_be_table) l5 c5 k5
  have D5 : DefG l.prog w K mg base "must_be_table" ["x"] 2 spMust :=
    ⟨f5, _, PySem.W.mg_of KZ gl a5, k5, F5.binds (ps := ["x"]) fun _ _ _ _ _ _ us hl => match us, hl with | [_], _ => rfl,
      ok_must_be_table F5 D2, fun s ws hl _ => match ws, hl with | [_], _ => .of_eq rfl⟩
  have F6 := fun_mk (st := sall_ways) l6 c6 k6
  have D6 : DefG l.prog w K mg base "all_ways" ["lots"] 1 spWays :=
    ⟨f6, _, PySem.W.mg_of KZ gl a6, k6, F6.binds (ps := ["lots"]) fun _ _ _ _ _ _ us hl => match us, hl with | [_], _ => rfl,
      ok_all_ways F6 , fun s ws hl _ => match ws, hl with | [_], _ => .of_eq rfl⟩
  have F7 := fun_mk (st := sall_ways) l7 c7 k7
  have D7 : DefG l.prog w K mg base "all_ways" ["lots"] 1 spWaysL :=
    ⟨f7, _, PySem.W.mg_of KZ gl a7, k7, F7.binds (ps := ["lots"]) fun _ _ _ _ _ _ us hl => match us, hl with | [_], _ => rfl,
      ok_all_waysL F7 , fun s ws hl _ => match ws, hl with | [_], _ => .of_eq rfl⟩
  have F8 := fun_mk (st := sall_arguments) l8 c8 k8
  have D8 : DefG l.prog w K mg base "all_arguments" ["count"] 2 spAllArgs :=
    ⟨f8, _, PySem.W.mg_of KZ gl a8, k8, F8.binds (ps := ["count"]) fun _ _ _ _ _ _ us hl => match us, hl with | [_], _ => rfl,
      ok_all_arguments F8 D6, fun s ws hl _ => match ws, hl with | [_], _ => .of_eq rfl⟩
  have F9 := fun_mk (st := splaces) l9 c9 k9
  have D9 : DefG l.prog w K mg base "places" ["table"] 3 spPlaces :=
    ⟨f9, _, PySem.W.mg_of KZ gl a9, k9, F9.binds (ps := ["table"]) fun _ _ _ _ _ _ us hl => match us, hl with | [_], _ => rfl,
      ok_places F9 B LL D5, fun s ws hl _ => match ws, hl with | [_], _ => .of_eq rfl⟩
  have F10 := fun_mk (st := svalues_of) l10 c10 k10
  have D10 : DefG l.prog w K mg base "values_of" ["table"] 4 spValues :=
    ⟨f10, _, PySem.W.mg_of KZ gl a10, k10, F10.binds (ps := ["table"]) fun _ _ _ _ _ _ us hl => match us, hl with | [_], _ => rfl,
      ok_values_of F10 B B3 D9 D8, fun s ws hl _ => match ws, hl with | [_], _ => .of_eq rfl⟩
  have F11 := fun_mk (st := smade_from) l11 c11 k11
  have D11 : DefG l.prog w K mg base "made_from" ["values", "rows"] 1 spMade :=
    ⟨f11, _, PySem.W.mg_of KZ gl a11, k11, F11.binds (ps := ["values", "rows"]) fun _ _ _ _ _ _ us hl => match us, hl with | [_, _], _ => rfl,
      ok_made_from F11 B B3, fun s ws hl _ => match ws, hl with | [_, _], _ => .of_eq rfl⟩
  have F12 := fun_mk (st := smade_from) l12 c12 k12
  have D12 : DefG l.prog w K mg base "made_from" ["values", "rows"] 1 spMadeL :=
    ⟨f12, _, PySem.W.mg_of KZ gl a12, k12, F12.binds (ps := ["values", "rows"]) fun _ _ _ _ _ _ us hl => match us, hl with | [_, _], _ => rfl,
      ok_made_fromL F12 B B3, fun s ws hl _ => match ws, hl with | [_, _], _ => .of_eq rfl⟩
  have F13 := fun_mk (st := scounts) l13 c13 k13
  have D13 : DefG l.prog w K mg base "counts" ["table", "place"] 1 spCounts :=
    ⟨f13, _, PySem.W.mg_of KZ gl a13, k13, F13.binds (ps := ["table", "place"]) fun _ _ _ _ _ _ us hl => match us, hl with | [_, _], _ => rfl,
      ok_counts F13 B LL, fun s ws hl _ => match ws, hl with | [_, _], _ => .of_eq rfl⟩
  have F14 := fun_mk (st := scounting) l14 c14 k14
  have D14 : DefG l.prog w K mg base "counting" ["table"] 4 spCounting :=
    ⟨f14, _, PySem.W.mg_of KZ gl a14, k14, F14.binds (ps := ["table"]) fun _ _ _ _ _ _ us hl => match us, hl with | [_], _ => rfl,
      ok_counting F14 B D9 D13, fun s ws hl _ => match ws, hl with | [_], _ => .of_eq rfl⟩
  have F15 := fun_mk (st := sis_onto) l15 c15 k15
  have D15 : DefG l.prog w K mg base "is_onto" ["table"] 3 spOnto :=
    ⟨f15, _, PySem.W.mg_of KZ gl a15, k15, F15.binds (ps := ["table"]) fun _ _ _ _ _ _ us hl => match us, hl with | [_], _ => rfl,
      ok_is_onto F15 B D5, fun s ws hl _ => match ws, hl with | [_], _ => .of_eq rfl⟩
  have F16 := fun_mk (st := sput_together) l16 c16 k16
  have D16 : DefG l.prog w K mg base "put_together" ["table", "tables"] 4 spPut :=
    ⟨f16, _, PySem.W.mg_of KZ gl a16, k16, F16.binds (ps := ["table", "tables"]) fun _ _ _ _ _ _ us hl => match us, hl with | [_, _], _ => rfl,
      ok_put F16 B B3 D9 D4, fun s ws hl _ => match ws, hl with | [_, _], _ => .of_eq rfl⟩
  have F17 := fun_mk (st := sall_tables) l17 c17 k17
  have D17 : DefG l.prog w K mg base "all_tables" [] 3 spAllTables :=
    ⟨f17, _, PySem.W.mg_of KZ gl a17, k17, F17.binds (ps := []) fun _ _ _ _ _ _ us hl => match us, hl with | [], _ => rfl,
      ok_all_tables F17 B D8, fun s ws hl _ => match ws, hl with | [], _ => .of_eq rfl⟩
  have F18 := fun_mk (st := sis_word) l18 c18 k18
  have D18 : DefG l.prog w K mg base "is_word" ["x"] 1 spIsWord :=
    ⟨f18, _, PySem.W.mg_of KZ gl a18, k18, F18.binds (ps := ["x"]) fun _ _ _ _ _ _ us hl => match us, hl with | [_], _ => rfl,
      ok_is_word F18 B WW, fun s ws hl _ => match ws, hl with | [_], _ => .of_eq rfl⟩
  have F19 := fun_mk (st := smust_be_word) l19 c19 k19
  have D19 : DefG l.prog w K mg base "must_be_word" ["x"] 2 spMustWord :=
    ⟨f19, _, PySem.W.mg_of KZ gl a19, k19, F19.binds (ps := ["x"]) fun _ _ _ _ _ _ us hl => match us, hl with | [_], _ => rfl,
      ok_must_be_word F19 B D18, fun s ws hl _ => match ws, hl with | [_], _ => .of_eq rfl⟩
  have F20 := fun_mk (st := sis_pair) l20 c20 k20
  have D20 : DefG l.prog w K mg base "is_pair" ["kind", "told", "row"] 1 spIsPair :=
    ⟨f20, _, PySem.W.mg_of KZ gl a20, k20, F20.binds (ps := ["kind", "told", "row"]) fun _ _ _ _ _ _ us hl => match us, hl with | [_, _, _], _ => rfl,
      ok_is_pair F20 B, fun s ws hl _ => match ws, hl with | [_, _, _], _ => .of_eq rfl⟩
  have F21 := fun_mk (st := srelation) l21 c21 k21
  have D21 : DefG l.prog w K mg base "relation" ["word"] 3 spRelation :=
    ⟨f21, _, PySem.W.mg_of KZ gl a21, k21, F21.binds (ps := ["word"]) fun _ _ _ _ _ _ us hl => match us, hl with | [_], _ => rfl,
      ok_relation F21 B D19 D8 D20, fun s ws hl _ => match ws, hl with | [_], _ => .of_eq rfl⟩
  have F22 := fun_mk (st := sis_sum) l22 c22 k22
  have D22 : DefG l.prog w K mg base "is_sum" ["table"] 5 spIsSum :=
    ⟨f22, _, PySem.W.mg_of KZ gl a22, k22, F22.binds (ps := ["table"]) fun _ _ _ _ _ _ us hl => match us, hl with | [_], _ => rfl,
      ok_is_sum F22 B B3 B5 LL D10 D9, fun s ws hl _ => match ws, hl with | [_], _ => .of_eq rfl⟩
  have F23 := fun_mk (st := sfirst_out) l23 c23 k23
  have D23 : DefG l.prog w K mg base "first_out" ["table", "word"] 5 spFirstOut :=
    ⟨f23, _, PySem.W.mg_of KZ gl a23, k23, F23.binds (ps := ["table", "word"]) fun _ _ _ _ _ _ us hl => match us, hl with | [_, _], _ => rfl,
      ok_first_out F23 B D10 D21 D6 D9 D11, fun s ws hl _ => match ws, hl with | [_, _], _ => .of_eq rfl⟩
  have F24 := fun_mk (st := skeeps) l24 c24 k24
  have D24 : DefG l.prog w K mg base "keeps" ["table", "word"] 6 spKeeps :=
    ⟨f24, _, PySem.W.mg_of KZ gl a24, k24, F24.binds (ps := ["table", "word"]) fun _ _ _ _ _ _ us hl => match us, hl with | [_, _], _ => rfl,
      ok_keeps F24 B D5 D19 D22 D15 D14 D23, fun s ws hl _ => match ws, hl with | [_, _], _ => .of_eq rfl⟩
  have F25 := fun_mk (st := sname_of) l25 c25 k25
  have D25 : DefG l.prog w K mg base "name_of" ["row"] 1 spNameOf :=
    ⟨f25, _, PySem.W.mg_of KZ gl a25, k25, F25.binds (ps := ["row"]) fun _ _ _ _ _ _ us hl => match us, hl with | [_], _ => rfl,
      ok_name_of F25 , fun s ws hl _ => match ws, hl with | [_], _ => .of_eq rfl⟩
  have F26 := fun_mk (st := sis_row) l26 c26 k26
  have D26 : DefG l.prog w K mg base "is_row" ["x"] 2 spIsRow :=
    ⟨f26, _, PySem.W.mg_of KZ gl a26, k26, F26.binds (ps := ["x"]) fun _ _ _ _ _ _ us hl => match us, hl with | [_], _ => rfl,
      ok_is_row F26 B BK D2, fun s ws hl _ => match ws, hl with | [_], _ => .of_eq rfl⟩
  have F27 := fun_mk (st := smust_be_rows) l27 c27 k27
  have D27 : DefG l.prog w K mg base "must_be_rows" ["rows"] 3 spMustRows :=
    ⟨f27, _, PySem.W.mg_of KZ gl a27, k27, F27.binds (ps := ["rows"]) fun _ _ _ _ _ _ us hl => match us, hl with | [_], _ => rfl,
      ok_must_be_rows F27 B BK D26 D25, fun s ws hl _ => match ws, hl with | [_], _ => .of_eq rfl⟩
  have BC : BoxC K mg C := ⟨PySem.W.mg_of KZ gl aC, ⟨⟨c_pg, c_hd, c_po, c_sa⟩, c_ha, c_hn, c_htk, c_hm, if_pos (beq_self_eq_true _)⟩, c_nR⟩
  have F29 := fun_mk (st := sBox___init__) l29 c29 k29
  have D29 : MakeG l.prog w K mg base C 4 (spBoxed C) := ⟨f29, ⟨mk29, a29, i29, kc29⟩, ok_init F29 BC D27⟩
  have F30 := fun_mk (st := sBox_names) l30 c30 k30
  have D30 : PropG l.prog w K mg base C "names" 2 (spGet C namesV) := ⟨p30, f30, ⟨a30, g30, t30, _, r30⟩, (ok_names F30 B BC D25 : FnG l.prog w K mg base 2 f30 _ ["self"] (spGet C namesV)).raw (F30.binds (ps := ["self"]) fun _ _ _ _ _ _ us hl => match us, hl with | [_], _ => rfl)⟩
  have F31 := fun_mk (st := sBox_names) l31 c31 k31
  have D31 : PropG l.prog w K mg base C "names" 2 (spNamesF C) := ⟨p31, f31, ⟨a31, g31, t31, _, r31⟩, (ok_namesF F31 B BC D25 : FnG l.prog w K mg base 2 f31 _ ["self"] (spNamesF C)).raw (F31.binds (ps := ["self"]) fun _ _ _ _ _ _ us hl => match us, hl with | [_], _ => rfl)⟩
  have F32 := fun_mk (st := sBox_tables) l32 c32 k32
  have D32 : PropG l.prog w K mg base C "tables" 1 (spGet C tablesV) := ⟨p32, f32, ⟨a32, g32, t32, _, r32⟩, (ok_tables F32 B BC : FnG l.prog w K mg base 1 f32 _ ["self"] (spGet C tablesV)).raw (F32.binds (ps := ["self"]) fun _ _ _ _ _ _ us hl => match us, hl with | [_], _ => rfl)⟩
  have F33 := fun_mk (st := sBox_text) l33 c33 k33
  have D33 : PropG l.prog w K mg base C "text" 1 (spTextG C) := ⟨p33, f33, ⟨a33, g33, t33, _, r33⟩, (ok_text F33 BC : FnG l.prog w K mg base 1 f33 _ ["self"] (spTextG C)).raw (F33.binds (ps := ["self"]) fun _ _ _ _ _ _ us hl => match us, hl with | [_], _ => rfl)⟩
  have F34 := fun_mk (st := sBox__index_of) l34 c34 k34
  have D34 : MethG l.prog w K mg base C "_index_of" 4 (spIndexOf C) := ⟨f34, ⟨a34, i34, k34⟩, (ok_index_of F34 B BC D31 : FnG l.prog w K mg base 4 f34 _ ["self", "name"] (spIndexOf C)).raw (F34.binds (ps := ["self", "name"]) fun _ _ _ _ _ _ us hl => match us, hl with | [_, _], _ => rfl)⟩
  have F35 := fun_mk (st := sBox_table_of) l35 c35 k35
  have D35 : MethG l.prog w K mg base C "table_of" 5 (spTableOf C) := ⟨f35, ⟨a35, i35, k35⟩, (ok_table_of F35 BC D32 D34 : FnG l.prog w K mg base 5 f35 _ ["self", "name"] (spTableOf C)).raw (F35.binds (ps := ["self", "name"]) fun _ _ _ _ _ _ us hl => match us, hl with | [_, _], _ => rfl)⟩
  have F36 := fun_mk (st := sBox_plus) l36 c36 k36
  have D36 : MethG l.prog w K mg base C "plus" 6 (spPlus C) := ⟨f36, ⟨a36, i36, k36⟩, (ok_plus F36 BC D29 : FnG l.prog w K mg base 6 f36 _ ["self", "row"] (spPlus C)).raw (F36.binds (ps := ["self", "row"]) fun _ _ _ _ _ _ us hl => match us, hl with | [_, _], _ => rfl)⟩
  have F37 := fun_mk (st := sBox_read) l37 c37 k37
  have D37 : ReadG l.prog w K mg base C "read" 6 (spRead C) := ⟨p37, f37, _, ⟨rd37, ga37⟩, ⟨a37, ⟨_, r37⟩, fi37⟩, (ok_read F37 B mIR D29 : FnG l.prog w K mg base 6 f37 _ ["cls", "text"] (spRead C)).raw (F37.binds (ps := ["cls", "text"]) fun _ _ _ _ _ _ us hl => match us, hl with | [_, _], _ => rfl)⟩
  have F38 := fun_mk (st := smust_be_box) l38 c38 k38
  have D38 : DefG l.prog w K mg base "must_be_box" ["x"] 1 (spMustBox C) :=
    ⟨f38, _, PySem.W.mg_of KZ gl a38, k38, F38.binds (ps := ["x"]) fun _ _ _ _ _ _ us hl => match us, hl with | [_], _ => rfl,
      ok_must_be_box F38 B BC, fun s ws hl _ => match ws, hl with | [_], _ => .of_eq rfl⟩
  have F39 := fun_mk (st := skept) l39 c39 k39
  have D39 : DefG l.prog w K mg base "kept" ["box"] 7 (spKept C) :=
    ⟨f39, _, PySem.W.mg_of KZ gl a39, k39, F39.binds (ps := ["box"]) fun _ _ _ _ _ _ us hl => match us, hl with | [_], _ => rfl,
      ok_kept F39 B BC WW D38 D24 D32, fun s ws hl _ => match ws, hl with | [_], _ => .of_eq rfl⟩
  have F40 := fun_mk (st := smakes_all) l40 c40 k40
  have D40 : DefG l.prog w K mg base "makes_all" ["box"] 8 (spMakesAll C) :=
    ⟨f40, _, PySem.W.mg_of KZ gl a40, k40, F40.binds (ps := ["box"]) fun _ _ _ _ _ _ us hl => match us, hl with | [_], _ => rfl,
      ok_makes_all F40 B D39, fun s ws hl _ => match ws, hl with | [_], _ => .of_eq rfl⟩
  have F41 := fun_mk (st := snewest) l41 c41 k41
  have D41 : DefG l.prog w K mg base "newest" ["at", "count"] 2 spNewest :=
    ⟨f41, _, PySem.W.mg_of KZ gl a41, k41, F41.binds (ps := ["at", "count"]) fun _ _ _ _ _ _ us hl => match us, hl with | [_, _], _ => rfl,
      ok_newest F41 B B3 D7, fun s ws hl _ => match ws, hl with | [_, _], _ => .of_eq rfl⟩
  have F42 := fun_mk (st := sgrown) l42 c42 k42
  have D42 : DefG l.prog w K mg base "grown" ["box", "starts", "most"] 5 (spGrown C) :=
    ⟨f42, _, PySem.W.mg_of KZ gl a42, k42, F42.binds (ps := ["box", "starts", "most"]) fun _ _ _ _ _ _ us hl => match us, hl with | [_, _, _], _ => rfl,
      ok_grown F42 B B3 BC D30 D32 D9 D10 D41 D12, fun s ws hl _ => match ws, hl with | [_, _, _], _ => .of_eq rfl⟩
  have F43 := fun_mk (st := stext_of) l43 c43 k43
  have D43 : DefG l.prog w K mg base "text_of" ["row"] 1 spTextOf :=
    ⟨f43, _, PySem.W.mg_of KZ gl a43, k43, F43.binds (ps := ["row"]) fun _ _ _ _ _ _ us hl => match us, hl with | [_], _ => rfl,
      ok_text_of F43 B, fun s ws hl _ => match ws, hl with | [_], _ => .of_eq rfl⟩
  have F44 := fun_mk (st := sone_place_steps) l44 c44 k44
  have D44 : DefG l.prog w K mg base "one_place_steps" ["box"] 6 (spOneSteps C) :=
    ⟨f44, _, PySem.W.mg_of KZ gl a44, k44, F44.binds (ps := ["box"]) fun _ _ _ _ _ _ us hl => match us, hl with | [_], _ => rfl,
      ok_one_steps F44 mAB D42 D43, fun s ws hl _ => match ws, hl with | [_], _ => .of_eq rfl⟩
  have F45 := fun_mk (st := sone_place) l45 c45 k45
  have D45 : DefG l.prog w K mg base "one_place" ["box"] 7 (spOnePlace C) :=
    ⟨f45, _, PySem.W.mg_of KZ gl a45, k45, F45.binds (ps := ["box"]) fun _ _ _ _ _ _ us hl => match us, hl with | [_], _ => rfl,
      ok_one_place F45 B B3 D38 D44, fun s ws hl _ => match ws, hl with | [_], _ => .of_eq rfl⟩
  have F46 := fun_mk (st := ssteps) l46 c46 k46
  have D46 : DefG l.prog w K mg base "steps" ["box", "table"] 7 (spSteps C) :=
    ⟨f46, _, PySem.W.mg_of KZ gl a46, k46, F46.binds (ps := ["box", "table"]) fun _ _ _ _ _ _ us hl => match us, hl with | [_, _], _ => rfl,
      ok_steps F46 B B3 D38 D3 D44, fun s ws hl _ => match ws, hl with | [_, _], _ => .of_eq rfl⟩
  have F47 := fun_mk (st := sonto_names) l47 c47 k47
  have D47 : DefG l.prog w K mg base "onto_names" ["box"] 5 (spOntoN C) :=
    ⟨f47, _, PySem.W.mg_of KZ gl a47, k47, F47.binds (ps := ["box"]) fun _ _ _ _ _ _ us hl => match us, hl with | [_], _ => rfl,
      ok_onto_names F47 B B3 BC D38 D30 D32 D15 D14, fun s ws hl _ => match ws, hl with | [_], _ => .of_eq rfl⟩
  have F48 := fun_mk (st := sis_step) l48 c48 k48
  have D48 : DefG l.prog w K mg base "is_step" ["box", "x", "many"] 6 (spIsStep C) :=
    ⟨f48, _, PySem.W.mg_of KZ gl a48, k48, F48.binds (ps := ["box", "x", "many"]) fun _ _ _ _ _ _ us hl => match us, hl with | [_, _, _], _ => rfl,
      ok_is_step F48 B BC D31 D35 D9 D1, fun s ws hl _ => match ws, hl with | [_, _, _], _ => .of_eq rfl⟩
  have F49 := fun_mk (st := smade) l49 c49 k49
  have D49 : DefG l.prog w K mg base "made" ["box", "steps"] 7 (spMade70 C) :=
    ⟨f49, _, PySem.W.mg_of KZ gl a49, k49, F49.binds (ps := ["box", "steps"]) fun _ _ _ _ _ _ us hl => match us, hl with | [_, _], _ => rfl,
      ok_made70 F49 B BC mPL BE D38 D48 D35 D16, fun s ws hl _ => match ws, hl with | [_, _], _ => .of_eq rfl⟩
  have F50 := fun_mk (st := sbrings) l50 c50 k50
  have D50 : DefG l.prog w K mg base "brings" ["box", "row"] 8 (spBrings C) :=
    ⟨f50, _, PySem.W.mg_of KZ gl a50, k50, F50.binds (ps := ["box", "row"]) fun _ _ _ _ _ _ us hl => match us, hl with | [_, _], _ => rfl,
      ok_brings F50 B BC D38 D36 D45, fun s ws hl _ => match ws, hl with | [_, _], _ => .of_eq rfl⟩
  have F51 := fun_mk (st := scertify_box) l51 c51 k51
  have D51 : DefG l.prog w K mg base "certify_box" ["box"] 8 (spCertify C) :=
    ⟨f51, _, PySem.W.mg_of KZ gl a51, k51, F51.binds (ps := ["box"]) fun _ _ _ _ _ _ us hl => match us, hl with | [_], _ => rfl,
      ok_certify F51 B BC D39 D44 D33 D47, fun s ws hl _ => match ws, hl with | [_], _ => .of_eq rfl⟩
  have F52 := fun_mk (st := slaw_spring) l52 c52 k52
  have D52 : DefG l.prog w K mg base "_law_spring" ["cells", "k"] 1 (spSpring K) :=
    ⟨f52, _, PySem.W.mg_of KZ gl a52, k52, F52.binds (ps := ["cells", "k"]) fun _ _ _ _ _ _ us hl => match us, hl with | [_, _], _ => rfl,
      ok_spring F52 B, fun s ws hl _ => match ws, hl with | [_, _], _ => .of_eq rfl⟩
  have F53 := fun_mk (st := slaw_draw) l53 c53 k53
  have D53 : DefG l.prog w K mg base "_law_draw" ["spring", "size"] 1 spDraw :=
    ⟨f53, _, PySem.W.mg_of KZ gl a53, k53, F53.binds (ps := ["spring", "size"]) fun _ _ _ _ _ _ us hl => match us, hl with | [_, _], _ => rfl,
      ok_draw F53 B, fun s ws hl _ => match ws, hl with | [_, _], _ => .of_eq rfl⟩
  have F54 := fun_mk (st := slaw_of) l54 c54 k54
  have D54 : DefG l.prog w K mg base "_law_of" ["spring", "menu"] 2 (spOf K) :=
    ⟨f54, _, PySem.W.mg_of KZ gl a54, k54, F54.binds (ps := ["spring", "menu"]) fun _ _ _ _ _ _ us hl => match us, hl with | [_, _], _ => rfl,
      ok_of F54 B D53, fun s ws hl _ => match ws, hl with | [_, _], _ => .of_eq rfl⟩
  have F55 := fun_mk (st := slaw_tuples) l55 c55 k55
  have D55 : DefG l.prog w K mg base "_law_tuples" ["size"] 1 spAllArgs :=
    ⟨f55, _, PySem.W.mg_of KZ gl a55, k55, F55.binds (ps := ["size"]) fun _ _ _ _ _ _ us hl => match us, hl with | [_], _ => rfl,
      ok_tuples F55 B, fun s ws hl _ => match ws, hl with | [_], _ => .of_eq rfl⟩
  have F56 := fun_mk (st := slaw_at) l56 c56 k56
  have D56 : DefG l.prog w K mg base "_law_at" ["sheet_now", "some"] 1 spValueL :=
    ⟨f56, _, PySem.W.mg_of KZ gl a56, k56, F56.binds (ps := ["sheet_now", "some"]) fun _ _ _ _ _ _ us hl => match us, hl with | [_, _], _ => rfl,
      ok_at F56 B, fun s ws hl _ => match ws, hl with | [_, _], _ => .of_eq rfl⟩
  have F57 := fun_mk (st := slaw_places) l57 c57 k57
  have D57 : DefG l.prog w K mg base "_law_places" ["sheet_now"] 1 spPlaces :=
    ⟨f57, _, PySem.W.mg_of KZ gl a57, k57, F57.binds (ps := ["sheet_now"]) fun _ _ _ _ _ _ us hl => match us, hl with | [_], _ => rfl,
      ok_lplaces F57 B, fun s ws hl _ => match ws, hl with | [_], _ => .of_eq rfl⟩
  have F58 := fun_mk (st := slaw_put) l58 c58 k58
  have D58 : DefG l.prog w K mg base "_law_put" ["sheet_now", "some"] 2 spLPut :=
    ⟨f58, _, PySem.W.mg_of KZ gl a58, k58, F58.binds (ps := ["sheet_now", "some"]) fun _ _ _ _ _ _ us hl => match us, hl with | [_, _], _ => rfl,
      ok_lput F58 B D57 D56 D55, fun s ws hl _ => match ws, hl with | [_, _], _ => .of_eq rfl⟩
  have F59 := fun_mk (st := slaw_is_whole) l59 c59 k59
  have D59 : DefG l.prog w K mg base "_law_is_whole" ["thing", "least", "most"] 1 spWhole :=
    ⟨f59, _, PySem.W.mg_of KZ gl a59, k59, F59.binds (ps := ["thing", "least", "most"]) fun _ _ _ _ _ _ us hl => match us, hl with | [_, _, _], _ => rfl,
      ok_whole F59 B, fun s ws hl _ => match ws, hl with | [_, _, _], _ => .of_eq rfl⟩
  have F60 := fun_mk (st := slaw_ran) l60 c60 k60
  have D60 : DefG l.prog w K mg base "_law_ran" ["rows_now", "thing"] 3 (spLRan K) :=
    ⟨f60, _, PySem.W.mg_of KZ gl a60, k60, F60.binds (ps := ["rows_now", "thing"]) fun _ _ _ _ _ _ us hl => match us, hl with | [_, _], _ => rfl,
      ok_lran F60 B B6 D59 D57 D58, fun s ws hl _ => match ws, hl with | [_, _], _ => .of_eq rfl⟩
  have F61 := fun_mk (st := slaw_at_two) l61 c61 k61
  have D61 : DefG l.prog w K mg base "_law_at_two" ["singles", "big", "sheet_now"] 5 spAtTwo :=
    ⟨f61, _, PySem.W.mg_of KZ gl a61, k61, F61.binds (ps := ["singles", "big", "sheet_now"]) fun _ _ _ _ _ _ us hl => match us, hl with | [_, _, _], _ => rfl,
      ok_at_two F61 B D16, fun s ws hl _ => match ws, hl with | [_, _, _], _ => .of_eq rfl⟩
  have F62 := fun_mk (st := slaw_right) l62 c62 k62
  have D62 : DefG l.prog w K mg base "_law_right" ["spring"] 9 spRight :=
    ⟨f62, _, PySem.W.mg_of KZ gl a62, k62, F62.binds (ps := ["spring"]) fun _ _ _ _ _ _ us hl => match us, hl with | [_], _ => rfl,
      ok_right F62 B B3 B6 BC D54 D37 D51 D40 D45 D17 D49 D60 D53 D61 D35 D50 D46, fun s ws hl _ => match ws, hl with | [_], _ => .of_eq rfl⟩
  have F63 := fun_mk (st := slaw) l63 c63 k63
  exact ok_law F63 B D52 D62
end Tv
open PySem PySem.W PyProof.Rows
set_option maxRecDepth 100000 in
set_option maxHeartbeats 0 in
theorem PySem.Challenge.cw_threevalues_k70_whole_all_is_made_holds : PySem.Challenge.rw_threevalues_k70_whole_all_is_made.Holds := by
  w_on; o_law; k_head; (case hw => w_witness2)
  k_fill
  refine Tv.ends (x := "cells") (l := PySem.Challenge.rw_threevalues_k70_whole_all_is_made) (lev := 10) (sp := Tv.spScript) rfl rfl ⟨rfl, by decide, by decide⟩ (fun w h Y => PySem.W.kIn_of Y) ?F fun K T r is few S => ⟨r, is, rfl, S, few, fun _ => rfl⟩
  case F =>
    intro w mg fa h KX G hmg
    refine' Tv.gather KX G hmg ?a0 ?l0 ?c0 ?k0 ?a1 ?l1 ?c1 ?k1 ?a2 ?l2 ?c2 ?k2 ?a3 ?l3 ?c3 ?k3 ?a4 ?l4 ?c4 ?k4 ?a5 ?l5 ?c5 ?k5 ?a6 ?l6 ?c6 ?k6 ?a7 ?l7 ?c7 ?k7 ?a8 ?l8 ?c8 ?k8 ?a9 ?l9 ?c9 ?k9 ?a10 ?l10 ?c10 ?k10 ?a11 ?l11 ?c11 ?k11 ?a12 ?l12 ?c12 ?k12 ?a13 ?l13 ?c13 ?k13 ?a14 ?l14 ?c14 ?k14 ?a15 ?l15 ?c15 ?k15 ?a16 ?l16 ?c16 ?k16 ?a17 ?l17 ?c17 ?k17 ?a18 ?l18 ?c18 ?k18 ?a19 ?l19 ?c19 ?k19 ?a20 ?l20 ?c20 ?k20 ?a21 ?l21 ?c21 ?k21 ?a22 ?l22 ?c22 ?k22 ?a23 ?l23 ?c23 ?k23 ?a24 ?l24 ?c24 ?k24 ?a25 ?l25 ?c25 ?k25 ?a26 ?l26 ?c26 ?k26 ?a27 ?l27 ?c27 ?k27 ?aC ?c_pg ?c_hd ?c_po ?c_sa ?c_ha ?c_hn ?c_htk ?c_hm ?c_nR ?a29 ?i29 ?mk29 ?kc29 ?l29 ?c29 ?k29 ?a30 ?g30 ?t30 ?r30 ?l30 ?c30 ?k30 ?a31 ?g31 ?t31 ?r31 ?l31 ?c31 ?k31 ?a32 ?g32 ?t32 ?r32 ?l32 ?c32 ?k32 ?a33 ?g33 ?t33 ?r33 ?l33 ?c33 ?k33 ?a34 ?i34 ?l34 ?c34 ?k34 ?a35 ?i35 ?l35 ?c35 ?k35 ?a36 ?i36 ?l36 ?c36 ?k36 ?rd37 ?ga37 ?a37 ?r37 ?fi37 ?l37 ?c37 ?k37 ?a38 ?l38 ?c38 ?k38 ?a39 ?l39 ?c39 ?k39 ?a40 ?l40 ?c40 ?k40 ?a41 ?l41 ?c41 ?k41 ?a42 ?l42 ?c42 ?k42 ?a43 ?l43 ?c43 ?k43 ?a44 ?l44 ?c44 ?k44 ?a45 ?l45 ?c45 ?k45 ?a46 ?l46 ?c46 ?k46 ?a47 ?l47 ?c47 ?k47 ?a48 ?l48 ?c48 ?k48 ?a49 ?l49 ?c49 ?k49 ?a50 ?l50 ?c50 ?k50 ?a51 ?l51 ?c51 ?k51 ?a52 ?l52 ?c52 ?k52 ?a53 ?l53 ?c53 ?k53 ?a54 ?l54 ?c54 ?k54 ?a55 ?l55 ?c55 ?k55 ?a56 ?l56 ?c56 ?k56 ?a57 ?l57 ?c57 ?k57 ?a58 ?l58 ?c58 ?k58 ?a59 ?l59 ?c59 ?k59 ?a60 ?l60 ?c60 ?k60 ?a61 ?l61 ?c61 ?k61 ?a62 ?l62 ?c62 ?k62 ?a63 ?l63 ?c63 ?k63 ?z_len ?z_isinstance ?z_all ?z_any ?z_abs ?z_divmod ?z_repr ?z_range ?z_max ?z_min ?z_int ?z_str ?z_bool ?z_tuple ?z_set ?z_list ?z_sorted ?z_zip ?z_sum ?z_dict ?z_enumerate ?aLens ?lLens ?aWords ?lWords ?aML ?aMT ?aLe ?aAB ?aPL ?aIR
    (case a0 => k_is); (case l0 => k_is); (case c0 => k_is); (case k0 => k_is)
    (case a1 => k_is); (case l1 => k_is); (case c1 => k_is); (case k1 => k_is)
    (case a2 => k_is); (case l2 => k_is); (case c2 => k_is); (case k2 => k_is)
    (case a3 => k_is); (case l3 => k_is); (case c3 => k_is); (case k3 => k_is)
    (case a4 => k_is); (case l4 => k_is); (case c4 => k_is); (case k4 => k_is)
    (case a5 => k_is); (case l5 => k_is); (case c5 => k_is); (case k5 => k_is)
    (case a6 => k_is); (case l6 => k_is); (case c6 => k_is); (case k6 => k_is)
    (case a7 => k_is); (case l7 => k_is); (case c7 => k_is); (case k7 => k_is)
    (case a8 => k_is); (case l8 => k_is); (case c8 => k_is); (case k8 => k_is)
    (case a9 => k_is); (case l9 => k_is); (case c9 => k_is); (case k9 => k_is)
    (case a10 => k_is); (case l10 => k_is); (case c10 => k_is); (case k10 => k_is)
    (case a11 => k_is); (case l11 => k_is); (case c11 => k_is); (case k11 => k_is)
    (case a12 => k_is); (case l12 => k_is); (case c12 => k_is); (case k12 => k_is)
    (case a13 => k_is); (case l13 => k_is); (case c13 => k_is); (case k13 => k_is)
    (case a14 => k_is); (case l14 => k_is); (case c14 => k_is); (case k14 => k_is)
    (case a15 => k_is); (case l15 => k_is); (case c15 => k_is); (case k15 => k_is)
    (case a16 => k_is); (case l16 => k_is); (case c16 => k_is); (case k16 => k_is)
    (case a17 => k_is); (case l17 => k_is); (case c17 => k_is); (case k17 => k_is)
    (case a18 => k_is); (case l18 => k_is); (case c18 => k_is); (case k18 => k_is)
    (case a19 => k_is); (case l19 => k_is); (case c19 => k_is); (case k19 => k_is)
    (case a20 => k_is); (case l20 => k_is); (case c20 => k_is); (case k20 => k_is)
    (case a21 => k_is); (case l21 => k_is); (case c21 => k_is); (case k21 => k_is)
    (case a22 => k_is); (case l22 => k_is); (case c22 => k_is); (case k22 => k_is)
    (case a23 => k_is); (case l23 => k_is); (case c23 => k_is); (case k23 => k_is)
    (case a24 => k_is); (case l24 => k_is); (case c24 => k_is); (case k24 => k_is)
    (case a25 => k_is); (case l25 => k_is); (case c25 => k_is); (case k25 => k_is)
    (case a26 => k_is); (case l26 => k_is); (case c26 => k_is); (case k26 => k_is)
    (case a27 => k_is); (case l27 => k_is); (case c27 => k_is); (case k27 => k_is)
    (case aC => k_is); (case c_pg => k_is); (case c_hd => k_is); (case c_po => k_is)
    (case c_sa => k_is); (case c_ha => k_is); (case c_hn => k_is); (case c_htk => k_is)
    (case c_hm => k_is); (case c_nR => k_is); (case a29 => k_is); (case i29 => k_is)
    (case mk29 => k_is); (case kc29 => k_is); (case l29 => k_is); (case c29 => k_is)
    (case k29 => k_is); (case a30 => k_is); (case g30 => k_is); (case t30 => k_is)
    (case r30 => k_is); (case l30 => k_is); (case c30 => k_is); (case k30 => k_is)
    (case a31 => k_is); (case g31 => k_is); (case t31 => k_is); (case r31 => k_is)
    (case l31 => k_is); (case c31 => k_is); (case k31 => k_is); (case a32 => k_is)
    (case g32 => k_is); (case t32 => k_is); (case r32 => k_is); (case l32 => k_is)
    (case c32 => k_is); (case k32 => k_is); (case a33 => k_is); (case g33 => k_is)
    (case t33 => k_is); (case r33 => k_is); (case l33 => k_is); (case c33 => k_is)
    (case k33 => k_is); (case a34 => k_is); (case i34 => k_is); (case l34 => k_is)
    (case c34 => k_is); (case k34 => k_is); (case a35 => k_is); (case i35 => k_is)
    (case l35 => k_is); (case c35 => k_is); (case k35 => k_is); (case a36 => k_is)
    (case i36 => k_is); (case l36 => k_is); (case c36 => k_is); (case k36 => k_is)
    (case rd37 => k_is); (case ga37 => k_is); (case a37 => k_is); (case r37 => k_is)
    (case fi37 => k_is); (case l37 => k_is); (case c37 => k_is); (case k37 => k_is)
    (case a38 => k_is); (case l38 => k_is); (case c38 => k_is); (case k38 => k_is)
    (case a39 => k_is); (case l39 => k_is); (case c39 => k_is); (case k39 => k_is)
    (case a40 => k_is); (case l40 => k_is); (case c40 => k_is); (case k40 => k_is)
    (case a41 => k_is); (case l41 => k_is); (case c41 => k_is); (case k41 => k_is)
    (case a42 => k_is); (case l42 => k_is); (case c42 => k_is); (case k42 => k_is)
    (case a43 => k_is); (case l43 => k_is); (case c43 => k_is); (case k43 => k_is)
    (case a44 => k_is); (case l44 => k_is); (case c44 => k_is); (case k44 => k_is)
    (case a45 => k_is); (case l45 => k_is); (case c45 => k_is); (case k45 => k_is)
    (case a46 => k_is); (case l46 => k_is); (case c46 => k_is); (case k46 => k_is)
    (case a47 => k_is); (case l47 => k_is); (case c47 => k_is); (case k47 => k_is)
    (case a48 => k_is); (case l48 => k_is); (case c48 => k_is); (case k48 => k_is)
    (case a49 => k_is); (case l49 => k_is); (case c49 => k_is); (case k49 => k_is)
    (case a50 => k_is); (case l50 => k_is); (case c50 => k_is); (case k50 => k_is)
    (case a51 => k_is); (case l51 => k_is); (case c51 => k_is); (case k51 => k_is)
    (case a52 => k_is); (case l52 => k_is); (case c52 => k_is); (case k52 => k_is)
    (case a53 => k_is); (case l53 => k_is); (case c53 => k_is); (case k53 => k_is)
    (case a54 => k_is); (case l54 => k_is); (case c54 => k_is); (case k54 => k_is)
    (case a55 => k_is); (case l55 => k_is); (case c55 => k_is); (case k55 => k_is)
    (case a56 => k_is); (case l56 => k_is); (case c56 => k_is); (case k56 => k_is)
    (case a57 => k_is); (case l57 => k_is); (case c57 => k_is); (case k57 => k_is)
    (case a58 => k_is); (case l58 => k_is); (case c58 => k_is); (case k58 => k_is)
    (case a59 => k_is); (case l59 => k_is); (case c59 => k_is); (case k59 => k_is)
    (case a60 => k_is); (case l60 => k_is); (case c60 => k_is); (case k60 => k_is)
    (case a61 => k_is); (case l61 => k_is); (case c61 => k_is); (case k61 => k_is)
    (case a62 => k_is); (case l62 => k_is); (case c62 => k_is); (case k62 => k_is)
    (case a63 => k_is); (case l63 => k_is); (case c63 => k_is); (case k63 => k_is)
    (case z_len => k_is); (case z_isinstance => k_is); (case z_all => k_is); (case z_any => k_is)
    (case z_abs => k_is); (case z_divmod => k_is); (case z_repr => k_is); (case z_range => k_is)
    (case z_max => k_is); (case z_min => k_is); (case z_int => k_is); (case z_str => k_is)
    (case z_bool => k_is); (case z_tuple => k_is); (case z_set => k_is); (case z_list => k_is)
    (case z_sorted => k_is); (case z_zip => k_is); (case z_sum => k_is); (case z_dict => k_is)
    (case z_enumerate => k_is); (case aLens => k_is); (case lLens => k_is); (case aWords => k_is)
    (case lWords => k_is); (case aML => k_is); (case aMT => k_is); (case aLe => k_is)
    (case aAB => k_is); (case aPL => k_is); (case aIR => k_is)

