import PyProof.Rows.All
import PySem.Challenge.RW_typedahead_k05_places_shifted
import HandS.ForMost
import HandS.EndBits
import HandS.Defaults
import HandS.IsInst
import HandS.Flow
import HandS.Wide
import HandS.Style
import HandS.Codes
import HandS.Walk
import HandS.FStrTup
import HandS.RaiseMore
import PyProof.Examples.IsLeap
import PyProof.AutoIntG7
import PyProof.TwoTypesSub
import PyProof.Rows.RuleB_bool
import PyProof.EnumMake
import KE.GoesEnum
import KE.GoesMore
import HandS.ForExc
import HandS.Small
import HandS.ExcIs
import HandS.ExcField
import HandS.WordsExc
import HandS.NoneIn
import HandS.ExcValue
import HandS.Strs
import HandS.SetFor
import HandS.SetBool
import HandS.SortInts
import HandS.Conv
import PyProof.StrLawsRepr
import PyProof.ReprLen
import PyProof.FitsInt
set_option Elab.async false
set_option linter.all false
set_option maxRecDepth 100000
set_option maxHeartbeats 4000000
/-! Gx: defs whose callers have no repr under way (FnG), the end of a law over them, and a few rules more: repr of data, text * int, calls by keywords alone. -/
namespace Gx
open PySem PySem.Spec PyProof.Rows L2

/-- a def's promise where no repr is under way around the call -/
structure FnG (P : Program) (w : World) (K : PySem.W.Frag) (mg : Str → Option Value) (base : Heap) (k : Nat) (f : Addr) (fd : FuncData) (ps : List Str) (sp : Sp) : Prop where
  len : ∀ vs H Q E, sp vs H Q E → vs.length = ps.length
  go : ∀ (A : Around) (outer : List Env) (s : Shared) (H : Hp) (args : Args) (us : List Value) (vs : List V) (Q : VK), A.guards = some [] → Room k A → Env0 P w K mg base A outer s H →
    BindsTo s fd args (ps.zip us) → Vals vs us → sp vs H Q E0 → codeAny (model P w) A (.call (.ref f) args) (CR CX0 outer P w H s Q E0) s

section
variable {P : Program} {w : World} {K : PySem.W.Frag} {mg : Str → Option Value} {base : Heap}

theorem FnG.ofOk {k : Nat} {f : Addr} {fd : FuncData} {ps : List Str} {sp : Sp} (F : FnOk P w K mg base CX0 k f fd ps sp) : FnG P w K mg base k f fd ps sp :=
  ⟨F.len, fun A outer s H args us vs Q _ hr => F.run A outer s H args us vs Q E0 hr⟩

theorem fnG_of {x qual : Str} {st : Stmt} {f : Addr} {fd : FuncData} {N ps : List Str} {k : Nat} {sp : Sp} (F : Fun K x qual st f fd) (S : FnScope N ps (defScope st)) (len : ∀ vs H Q E, sp vs H Q E → vs.length = ps.length)
    (body : ∀ (cdv : Value) (A : Around) (outer : List Env) (s : Shared) (H : Hp) (vs : List V) (Q : VK), (A.deeper (envOfC qual (defScope st) s.heap.objs.size f cdv)).guards = some [] →
      Room k (A.deeper (envOfC qual (defScope st) s.heap.objs.size f cdv)) → sp vs H Q E0 →
      ∃ t, PSs (cxOf CX0 P w K mg base N qual (defScope st) f cdv A outer s H E0).nox (defBody st) t ∧ t { nx := fun _ H' => Q .non H', rt := Q } (start N vs) H) :
    FnG P w K mg base (k + 1) f fd ps sp := by
  obtain ⟨oc, od, kV, doc, pm, an, cdv, ct, osl, rfl, lk, hcd⟩ := F.ex
  constructor
  · exact len
  intro A outer s H args us vs Q hG hr e0 hb r hsp
  have hl := len _ _ _ _ hsp
  have up : ∀ b o, base.get? b = some o → s.heap.get? b = some o := fun b o e => (e0.bs b o e).1
  have kin : K.In s.heap := e0.mod.kin.keeps up
  have nolim : s.heap.NoLimit := e0.mod.nolimit.keeps up
  have hkind : ((ps.zip us).all fun y => (defScope st).names.lookup y.1 == some .local || (defScope st).names.lookup y.1 == some .cell) = true := by
    rw [List.all_eq_true]
    rintro ⟨n, v⟩ hy
    rcases S.par n (List.of_mem_zip hy).1 with q | q
    · simp [q]
    · simp [q]
  obtain ⟨t, ht, hq⟩ := body cdv A outer s H vs Q hG (hr.deeper _) hsp
  refine Att.call_fn kin nolim lk hcd hr.depth hb hkind (fun s1 x1 => ?_) S.co S.gen S.kind
  have I : Inv (cxOf CX0 P w K mg base N qual (defScope st) f cdv A outer s H E0) [] (start N vs) H s1 := inv_start S hr.hd e0 hl r x1
  refine wpAny_mono (ht.nox.run [] s1 (start N vs) H _ I hq) ?_ (fun e s' hs => hs)
  intro fl s' hs
  cases fl with
  | ret u => obtain ⟨v, σ', H', J, rv, q⟩ := hs; exact ⟨v, H', J.os, J.bare, J.base, J.hok, rv, q⟩
  | next => obtain ⟨σ', H', J, q⟩ := hs; exact ⟨V.non, H', J.os, J.bare, J.base, J.hok, rfl, q⟩
  | brk => obtain ⟨_, _, _, q⟩ := hs; exact q.elim
  | cont => obtain ⟨_, _, _, q⟩ := hs; exact q.elim
end

/-! ### calls -/
section
variable {X : Cx} {k n : Nat} {f : Addr} {fd : FuncData} {ps ks : List Str} {sp : Sp} {x : Str} {p pos : Pos} {e : Expr} {es : List Expr} {kws : List Keyword} {t tk : TA} {g : List Value → List Value → List Value} {gV : List V → List V → List V}
theorem after_call {pins : List (Addr × Obj)} {σ : L2.St} {H : Hp} {s : Shared} {Q : VK} {a : Args} (I : Inv X pins σ H s) (h : codeAny (model X.prog X.w) X.A (.call (.ref f) a) (CR CX0 X.stack X.prog X.w H s Q E0) s) :
    codeAny (model X.prog X.w) X.A (.call (.ref f) a) (fun r s' => match r with | .ok (.ret u) => EP X pins σ Q u s' | .ok _ => False | .error e => X.xe e s') s := by
  refine codeAny_mono h ?_
  intro r s' hq
  match r, hq with
  | .ok (.ret u), hq => exact I.after hq
  | .ok .next, hq => exact False.elim hq
  | .ok .brk, hq => exact False.elim hq
  | .ok .cont, hq => exact False.elim hq
  | .error e, hq => exact False.elim hq
theorem runG {pins : List (Addr × Obj)} {σ : L2.St} {H : Hp} {s : Shared} {Q : VK} {us : List Value} {vs : List V} (F : FnG X.prog X.w X.K X.mg X.base k f fd ps sp) (hG : X.A.guards = some []) (hr : Room k X.A) (hb : Binds X.K fd ps [])
    (I : Inv X pins σ H s) (r : Vals vs us) (h : sp vs H Q E0) : wpAny (model X.prog X.w) X.A (call (.ref f) us) (EP X pins σ Q) X.xe s := by
  have hl : (us ++ []).length = ps.length := by rw [List.append_nil, ← r.length]; exact F.len _ _ _ _ h
  have b := hb s us I.kIn hl
  rw [List.append_nil] at b
  refine wpAny_call (codeAny_mono (after_call (pins := pins) (σ := σ) I (F.go X.A X.stack s H ⟨us, []⟩ us vs Q hG hr I.env0 b r h)) fun r s' hq => ?_)
  match r, hq with
  | .ok (.ret u), hq => exact hq
  | .ok .next, hq => exact False.elim hq
  | .ok .brk, hq => exact False.elim hq
  | .ok .cont, hq => exact False.elim hq
  | .error e, hq => exact hq
def tGo (sp : Sp) (t : TA) : TE := fun σ H Q => t σ H fun vs H1 => sp vs H1 Q E0
/-- f(e, ..) -/
theorem pe_go (F : FnG X.prog X.w X.K X.mg X.base k f fd ps sp) (hG : X.A.guards = some []) (hr : Room k X.A) (hg : Gl X x) (hm : X.mg x = some (.ref f)) (hk : PySem.W.keepIn X.K (.ref f) = true) (hb : Binds X.K fd ps [])
    (ha : PA X (e :: es) t) (hdb : (x == ("__debug__" : Str)) = false := by decide) (he : starEach (e :: es) X.env = (false, eval e X.env) :: starEach es X.env := by rfl)
    (hpl : (backTo pos (starEach es X.env)).any (·.1) = false := by rfl) : PE X (.Call (.Name x p) (e :: es) [] pos) (tGo sp t) := by
  constructor
  intro pins s σ H Q I h
  refine wpAny_Call_Name_kw (ld_glob I hg hm ?_ hdb)
  refine PySem.W.callWith_K (h₀ := X.base) I.ok.mod.kin hk (thn (ha.run pos pins s σ H _ I h) ?_) he hpl
  rintro us s1 ⟨vs, H1, I1, r, q⟩
  exact ⟨I1.kIn, runG F hG hr hb I1 r q⟩
/-- f() -/
theorem pe_go0 (F : FnG X.prog X.w X.K X.mg X.base k f fd ps sp) (hG : X.A.guards = some []) (hr : Room k X.A) (hg : Gl X x) (hm : X.mg x = some (.ref f)) (hk : PySem.W.keepIn X.K (.ref f) = true) (hb : Binds X.K fd ps [])
    (hdb : (x == ("__debug__" : Str)) = false := by decide) : PE X (.Call (.Name x p) [] [] pos) (tGo sp tNil) := by
  constructor
  intro pins s σ H Q I h
  refine wpAny_Call_Name_kw (ld_glob I hg hm ?_ hdb)
  exact PySem.W.callWith_K0 I.kIn hk (runG (us := []) F hG hr hb I .nil h)
theorem runGK {pins : List (Addr × Obj)} {σ : L2.St} {H : Hp} {s : Shared} {Q : VK} {us ws : List Value} {vs zs : List V} (F : FnG X.prog X.w X.K X.mg X.base k f fd ps sp) (hG : X.A.guards = some []) (hr : Room k X.A) (hb : KBn X.K fd ps n ks g gV)
    (I : Inv X pins σ H s) (r : Vals vs us) (rz : Vals zs ws) (l1 : vs.length = n) (l2 : zs.length = ks.length) (h : sp (gV vs zs) H Q E0) : wpAny (model X.prog X.w) X.A (call (.ref f) us (ks.zip ws)) (EP X pins σ Q) X.xe s := by
  have b := hb.to s us ws I.kIn (r.length.symm.trans l1) (rz.length.symm.trans l2)
  refine wpAny_call (codeAny_mono (after_call (pins := pins) (σ := σ) I (F.go X.A X.stack s H ⟨us, ks.zip ws⟩ (g us ws) (gV vs zs) Q hG hr I.env0 b (hb.rel r rz) h)) fun r s' hq => ?_)
  match r, hq with
  | .ok (.ret u), hq => exact hq
  | .ok .next, hq => exact False.elim hq
  | .ok .brk, hq => exact False.elim hq
  | .ok .cont, hq => exact False.elim hq
  | .error e, hq => exact hq
def tGoK (n m : Nat) (sp : Sp) (gV : List V → List V → List V) (t tk : TA) : TE := fun σ H Q => t σ H fun vs H1 => tk σ H1 fun zs H2 => vs.length = n ∧ zs.length = m ∧ sp (gV vs zs) H2 Q E0
/-- f(e, .., k = v, ..) -/
theorem pe_goK (F : FnG X.prog X.w X.K X.mg X.base k f fd ps sp) (hG : X.A.guards = some []) (hr : Room k X.A) (hg : Gl X x) (hm : X.mg x = some (.ref f)) (hk : PySem.W.keepIn X.K (.ref f) = true) (hb : KBn X.K fd ps n ks g gV)
    (ha : PA X (e :: es) t) (hkw : PK X kws tk) (hall : (backToKw pos (keywordEach kws X.env)).all (·.1.isSome) = true := by rfl) (hks : (backToKw pos (keywordEach kws X.env)).filterMap (·.1) = ks := by rfl)
    (hdb : (x == ("__debug__" : Str)) = false := by decide) (he : starEach (e :: es) X.env = (false, eval e X.env) :: starEach es X.env := by rfl)
    (hpl : ((backTo pos (starEach (e :: es) X.env)).any (·.1) || (backToKw pos (keywordEach kws X.env)).any (·.1.isNone)) = false := by rfl) : PE X (.Call (.Name x p) (e :: es) kws pos) (tGoK n ks.length sp gV t tk) := by
  constructor
  intro pins s σ H Q I h
  refine wpAny_Call_Name_kw (ld_glob I hg hm ?_ hdb)
  refine PySem.W.callWith_KW (h₀ := X.base) I.ok.mod.kin hk hall (thn (ha.run pos pins s σ H _ I h) ?_) hpl he
  rintro us s1 ⟨vs, H1, I1, r, q⟩
  refine thn (hkw.run pos pins s1 σ H1 _ I1 q) ?_
  rintro ws s2 ⟨zs, H2, I2, rz, l1, l2, q2⟩
  refine ⟨I2.kIn, ?_⟩
  rw [hks]
  exact runGK F hG hr hb I2 r rz l1 l2 q2
/-- f(k = v, ..) -/
theorem pe_goK0 (F : FnG X.prog X.w X.K X.mg X.base k f fd ps sp) (hG : X.A.guards = some []) (hr : Room k X.A) (hg : Gl X x) (hm : X.mg x = some (.ref f)) (hk : PySem.W.keepIn X.K (.ref f) = true) (hb : KBn X.K fd ps 0 ks g gV)
    (hkw : PK X kws tk) (hall : (backToKw pos (keywordEach kws X.env)).all (·.1.isSome) = true := by rfl) (hks : (backToKw pos (keywordEach kws X.env)).filterMap (·.1) = ks := by rfl)
    (hdb : (x == ("__debug__" : Str)) = false := by decide)
    (hpl : ((backTo pos (starEach [] X.env)).any (·.1) || (backToKw pos (keywordEach kws X.env)).any (·.1.isNone)) = false := by rfl) : PE X (.Call (.Name x p) [] kws pos) (tGoK 0 ks.length sp gV tNil tk) := by
  constructor
  intro pins s σ H Q I h
  refine wpAny_Call_Name_kw (ld_glob I hg hm ?_ hdb)
  refine PySem.W.callWith_KW0 (h₀ := X.base) I.ok.mod.kin hk hall ?_ hpl
  refine thn (hkw.run pos pins s σ H _ I h) ?_
  rintro ws s2 ⟨zs, H2, I2, rz, l1, l2, q2⟩
  refine ⟨I2.kIn, ?_⟩
  rw [hks]
  exact runGK (us := []) (vs := []) F hG hr hb I2 .nil rz rfl l2 q2
/-- how keywords bind where a def has no defaults -/
theorem kbn_of {K : PySem.W.Frag} {x qual : Str} {st : Stmt} (F : Fun K x qual st f fd) (g : {α : Type} → List α → List α → List α)
    (hrel : ∀ {vs zs : List V} {us ws : List Value}, Vals vs us → Vals zs ws → Vals (g vs zs) (g us ws))
    (h : ∀ (kV doc pm : Value) (an : Option Addr) (cdv ct : Value) (us ws : List Value), us.length = n → ws.length = ks.length →
      bindArgs (PySem.W.fnOf x qual (defArgs st) (defBody st) (defScope st) .none kV doc pm an cdv ct) ⟨us, ks.zip ws⟩ = pure (ps.zip (g us ws))) : KBn K fd ps n ks g g := by
  obtain ⟨oc, od, kV, doc, pm, an, cdv, ct, osl, rfl, lk, hcd⟩ := F.ex
  exact ⟨fun s us ws _ l1 l2 => .of_eq (h kV doc pm an cdv ct us ws l1 l2), fun r1 r2 => hrel r1 r2⟩
end

/-! ### repr of data, text * int -/
section
variable {X : Cx}
theorem call_reprD (hG : X.A.guards = some []) (hu : X.A.units + 64 < cLine) : CallR X (.builtin "repr") (fun xs H Q => ∃ (a : Addr) (d : PyData), xs = [.ref a] ∧ Dp X.K H (.ref a) d ∧ d.showable = true ∧ d.hasDict = false ∧ d.depth ≤ 60 ∧ d.shown.length ≤ sizeLine ∧ Q (.str d.shown) H) := by
  intro pins s σ H xs us Q I r h
  obtain ⟨a, d, rfl, hd, h1, h2, h3, h4, q⟩ := h
  obtain ⟨u, rfl, rx⟩ := vals1 r
  obtain ⟨as, rd⟩ := Dp.reads I d (.ref a) u hd rx
  cases rx
  exact repr_of_reads' rd h1 (PyData.noDict_hsm h2) hG (by omega) (fun _ _ e => e) (fun h' u tk hk => ⟨.str d.shown, H, I.kept hk, ⟨u, rfl⟩, q⟩) h4
/-- a text n times -/
def timesS (x : Str) (n : Nat) : Str := ⟨(List.replicate n x.cps.toList).flatten.toArray⟩
theorem foldl_times (c : Array Nat) : ∀ (n : Nat) (acc : Array Nat), (List.replicate n c).foldl (· ++ ·) acc = acc ++ ((List.replicate n c.toList).flatten).toArray
  | 0, acc => by simp
  | n + 1, acc => by
    rw [List.replicate_succ, List.replicate_succ, List.foldl_cons, foldl_times c n, List.flatten_cons]
    apply Array.toList_inj.mp
    simp [Array.toList_append, List.append_assoc]
theorem op_mulS : OpR X (binaryOp .Mult) (fun x y H Q => ∃ (z : Str) (n : Int), x = .str z ∧ y = .int n ∧ 1 ≤ n ∧ n ≤ 100000 ∧ z.length * n.toNat ≤ 1000000 ∧ Q (.str (timesS z n.toNat)) H) := by
  intro pins s σ H x y v u Q I rx ry h
  obtain ⟨z, n, rfl, rfl, h1, h2, h3, q⟩ := h
  obtain ⟨t, rfl⟩ := rx
  obtain ⟨t', rfl⟩ := ry
  have hz : z.length ≤ 1000000 := Nat.le_trans (Nat.le_mul_of_pos_right z.length (by omega)) h3
  have e0 : timesS z n.toNat = ⟨(List.replicate n.toNat z.cps).foldl (· ++ ·) #[]⟩ := by
    rw [foldl_times]; simp [timesS]
  have hlen : (timesS z n.toNat).length = z.length * n.toNat := by
    show ((List.replicate n.toNat z.cps.toList).flatten.toArray).size = _
    rw [List.size_toArray, List.length_flatten]
    simp [Str.length, Nat.mul_comm]
  refine PySem.P.mul_str ?_ ?_ ?_ ?_
  · simp; omega
  · intro _ _ h4
    have h5 : (9223372036854775807 : Int) / n ≥ 9223372036854775807 / 100000 := Int.le_ediv_of_mul_le (by omega) (by omega)
    have h6 : ((2 : Int) ^ 63 - 1) = 9223372036854775807 := by decide
    rw [h6] at h4
    omega
  · intro _ _
    have : z.length * n.toNat ≤ sizeLine := Nat.le_trans h3 (by decide)
    simp [Builtin.Str.tooLong] <;> omega
  · rw [if_neg (by omega)]
    by_cases c : (n == 1 || z.length == 0) = true
    · rw [if_pos c]
      refine ⟨.str z, H, I, ⟨t, rfl⟩, ?_⟩
      have ez : timesS z n.toNat = z := by
        apply TL.ext_tl
        show (List.replicate n.toNat z.cps.toList).flatten = z.cps.toList
        rcases Bool.or_eq_true _ _ |>.mp c with c | c
        · have : n = 1 := by simpa using c
          subst this; simp
        · have hl : z.cps.toList = [] := by
            have : z.cps.size = 0 := by simpa [Str.length] using c
            exact List.length_eq_zero_iff.mp (by simpa using this)
          rw [hl]; simp
      rw [ez] at q; exact q
    · rw [if_neg c, ← e0]
      exact ⟨by rw [hlen]; exact Nat.le_trans h3 (by decide), .str _, H, I.tok _, ⟨_, rfl⟩, q⟩
end
end Gx

/-! ### the end of a law over FnG -/
namespace Gx
open PySem PySem.Spec PyProof.Rows L2
/-- the heap in which the script alone is tracked (where it is not an object of the module's own) -/
def scriptH (K : PySem.W.Frag) (a : Addr) (vs : List Value) (ns : List Int) : Hp := fun b =>
  if b = a ∧ K.lookup a = none then some (.frz { cls := .type "list", data := .seq vs.toArray } (.lst (ns.map V.int))) else none
section
variable {P : Program} {w : World} {K : PySem.W.Frag} {mg mb : Str → Option Value} {k : Nat} {fa a : Addr} {fd : FuncData} {x : Str} {sp : Sp} {s₁ : Shared} {vs : List Value} {ns : List Int}
theorem scriptH_at {b : Addr} {o : HO} (h : scriptH K a vs ns b = some o) : b = a ∧ K.lookup a = none ∧ o = .frz { cls := .type "list", data := .seq vs.toArray } (.lst (ns.map V.int)) := by
  by_cases c : b = a ∧ K.lookup a = none
  · have e := (if_pos c).symm.trans h
    exact ⟨c.1, c.2, (Option.some.inj e).symm⟩
  · have e := (if_neg c).symm.trans h
    cases e
theorem scriptH_only : Only (scriptH K a vs ns) := fun b => by
  cases h : scriptH K a vs ns b with
  | none => exact .inl rfl
  | some o => exact .inr ⟨_, _, by rw [(scriptH_at h).2.2]⟩
theorem lawG (KX : K.In s₁.heap) (hns : s₁.heap.Ns mainGlobals mg) (hb : s₁.heap.Ns builtinsNs mb) (hbb : ∀ x : Str, x ≠ "__name__" → mb x = bootBuiltins x) (hlim : s₁.heap.NoLimit) (hg : s₁.gens = #[])
    (ha : s₁.heap.get? a = some { cls := .type "list", data := .seq vs.toArray }) (hi : IntsAre vs ns) (hl : ns.length ≤ sizeLine) (hr : Room k callerA)
    (F : ∀ base : Heap, K.In base → base.Ns mainGlobals mg → FnG P w K mg base k fa fd [x] sp) (hbind : ∀ (s : Shared) (u : Value), BindsTo s fd ⟨[u], []⟩ [(x, u)])
    (hsp : ∀ H : Hp, Only H → SqL K H a (ns.map V.int) → sp [.ref a] H (fun v _ => v = .bl true) E0) :
    codeAny (model P w) callerA (.call (.ref fa) ⟨[.ref a], []⟩) (fun r s' => r = .ok (.ret (.bool true)) ∧ OldK s₁.heap s'.heap ∧ s'.os = s₁.os ∧ AllBare s'.gens) s₁ := by
  have rv := vals_ints hi
  have hlz : (ns.map V.int).length ≤ sizeLine := by rw [List.length_map]; exact hl
  have hok : HOk P w (scriptH K a vs ns) s₁.heap := fun b o e => by
    obtain ⟨rfl, _, rfl⟩ := scriptH_at e
    exact ⟨ha, hlz, vs, _, rv, ha⟩
  -- what stands below: the heap without the script
  have down : ∀ {b : Addr} {o : Obj}, s₁.heap.get? b = some o → scriptH K a vs ns b = none → (hidT s₁.heap (scriptH K a vs ns)).get? b = some o := fun e n => hidT_get e n
  have dicts : ∀ {b : Addr} {m : Str → Option Value}, s₁.heap.Ns b m → (hidT s₁.heap (scriptH K a vs ns)).Ns b m := by
    rintro b m ⟨o, es, ep, e, d, r⟩
    refine ⟨o, es, ep, down e ?_, d, r⟩
    cases q : scriptH K a vs ns b with
    | none => rfl
    | some u =>
      obtain ⟨rfl, _, _⟩ := scriptH_at q
      rw [ha] at e
      cases e
      exact nomatch (show Data.seq vs.toArray _ = Data.dict es ep from d)
  have kin : K.In (hidT s₁.heap (scriptH K a vs ns)) := fun b o e => down (KX b o e) (by
    cases q : scriptH K a vs ns b with
    | none => rfl
    | some u =>
      obtain ⟨rfl, n, _⟩ := scriptH_at q
      rw [n] at e
      cases e)
  have hM : Mod K mg (hidT s₁.heap (scriptH K a vs ns)) := by
    obtain ⟨mc, h1, h2⟩ := hlim
    exact ⟨kin, dicts hns, ⟨mb, dicts hb, hbb⟩, ⟨mc, dicts h1, h2⟩⟩
  have nil_ : ∀ b : Addr, b ∉ frs ([] : List Env) := fun b hb => by cases hb
  have e0 : Env0 P w K mg (hidT s₁.heap (scriptH K a vs ns)) callerA [] s₁ (scriptH K a vs ns) :=
    ⟨rfl, hM, fun b o e => of_hidT e, Nat.le_of_eq (hidT_size _ _), trivial, fun b hb => absurd hb (nil_ b), hok, .of_eq hg⟩
  have hS : SqL K (scriptH K a vs ns) a (ns.map V.int) := by
    cases hk : K.lookup a with
    | none => exact .inl (.inr ⟨_, if_pos ⟨rfl, hk⟩⟩)
    | some o =>
      have e := KX a o hk
      rw [ha] at e
      cases e
      exact .inr ⟨_, vs.toArray, _, hk, rfl, rfl, rfl, by rw [List.size_toArray, ← rv.length]; exact hlz, by simpa using rv⟩
  have run := (F _ kin (dicts hns)).go callerA [] s₁ (scriptH K a vs ns) ⟨[.ref a], []⟩ [.ref a] [.ref a] _ rfl hr e0 (hbind s₁ (.ref a)) (.cons rfl .nil) (hsp _ scriptH_only hS)
  refine codeAny_mono run ?_
  intro r s' h
  match r, h with
  | .ok .next, h => exact False.elim h
  | .ok .brk, h => exact False.elim h
  | .ok .cont, h => exact False.elim h
  | .error e, h => exact False.elim h
  | .ok (.ret u), h =>
    obtain ⟨v, H', os, bare, un, hok', r', q⟩ := h
    obtain rfl : v = .bl true := q
    obtain rfl : u = Value.bool true := r'
    refine ⟨rfl, OldK.of_keep fun b o e => ?_, os, bare⟩
    cases q : scriptH K a vs ns b with
    | none => exact un.keep b o e q (nil_ b) (by simp)
    | some u =>
      obtain ⟨rfl, _, rfl⟩ := scriptH_at q
      have z := un.frzs b _ _ q
      have z1 := (hok b _ q).1
      have z2 := (hok' b _ z).1
      rw [e] at z1
      cases z1
      exact z2
end
theorem walk_ofG {l : PySem.W.OpenLaw} {n k : Nat} {q : Program} {loose : List Str} {XP : (Str → Option Value) → Heap → Prop} {YP : World → Heap → Prop} {d : DefRec} {K : Params → PySem.W.Frag} {sp : World → Sp} {x : Str}
    (hn : l.most = some n) (hn2 : n ≤ sizeLine) (hdf : d.params.defaults = []) (hr : Room k callerA) (hY : ∀ (w : World) (h : Heap), YP w h → (K w.params).In h)
    (F : ∀ (w : World) (mg : Str → Option Value) (fa : Addr) (h : Heap), (K w.params).In h → h.Ns mainGlobals mg → mg d.name = some (.ref fa) →
      ∃ fd : FuncData, (∀ (s : Shared) (u : Value), BindsTo s fd ⟨[u], []⟩ [(x, u)]) ∧ ∀ base : Heap, (K w.params).In base → base.Ns mainGlobals mg → FnG l.prog w (K w.params) mg base k fa fd [x] (sp w))
    (hsp : ∀ (w : World) (H : Hp) (a : Addr) (ns : List Int), ns.length ≤ n → (∀ z ∈ ns, Builtin.Int.intBits z ≤ 1048576) → Only H → SqL (K w.params) H a (ns.map V.int) → sp w [.ref a] H (fun v _ => v = .bl true) E0) :
    PySem.W.WalkO q loose XP YP l.row.toRowW d [] (fun f vs => PySem.call f vs) := by
  refine Att.attach_callB hn hdf ?_
  intro w s₀ s₁ mg mb fa o pm cd doc a vs ns G Y ho hd hcd hmg hobj hints hlen hbits hg
  obtain ⟨fd, hb, hF⟩ := F w mg fa _ (hY w _ Y) G.T.g hmg
  exact lawG (hY w _ Y) G.T.g G.T.b G.T.builtins G.T.nolimit hg hobj hints (Nat.le_trans hlen hn2) hr hF hb (fun H hO hS => hsp w H a ns hlen hbits hO hS)
end Gx

/-! ### keywords by their places -/
namespace Gx
open PySem PySem.Spec PyProof.Rows L2
def pick {α : Type} (is : List Nat) (l : List α) : List α := is.filterMap fun i => l[i]?
theorem vals_pick {zs : List V} {ws : List Value} (r : Vals zs ws) : ∀ is : List Nat, Vals (pick is zs) (pick is ws)
  | [] => .nil
  | i :: is => by
    have ih := vals_pick r is
    cases h : zs[i]? with
    | none =>
      have h2 := r.none_of h
      simp only [pick, List.filterMap_cons, h, h2]
      exact ih
    | some v =>
      obtain ⟨u, h2, r2⟩ := r.get h
      simp only [pick, List.filterMap_cons, h, h2]
      exact .cons r2 ih
theorem kbn_pick {K : PySem.W.Frag} {x qual : Str} {st : Stmt} {n : Nat} {f : Addr} {fd : FuncData} {ps ks : List Str} (F : Fun K x qual st f fd) (is : List Nat)
    (h : ∀ (kV doc pm : Value) (an : Option Addr) (cdv ct : Value) (us ws : List Value), us.length = n → ws.length = ks.length →
      bindArgs (PySem.W.fnOf x qual (defArgs st) (defBody st) (defScope st) .none kV doc pm an cdv ct) ⟨us, ks.zip ws⟩ = pure (ps.zip (us ++ pick is ws))) : KBn K fd ps n ks (fun us ws => us ++ pick is ws) (fun vs zs => vs ++ pick is zs) := by
  obtain ⟨oc, od, kV, doc, pm, an, cdv, ct, osl, rfl, lk, hcd⟩ := F.ex
  exact ⟨fun s us ws _ l1 l2 => .of_eq (h kV doc pm an cdv ct us ws l1 l2), fun r1 r2 => r1.append (vals_pick r2 is)⟩
end Gx

/-! ### comprehensions whose elements are worth f, whatever they lay -/
namespace Gx
open PySem PySem.Spec PyProof.Rows L2
theorem same_new {H : Hp} {p : Addr} {o : HO} (h : H p = none) : Same H (upd H p o) := fun b x e => by
  rw [upd_ne (ne_of_none e h)]; exact e
/-- at a place that H does not know anything may happen -/
theorem same_at {H H' : Hp} {p : Addr} {o : HO} (e : Same H H') (h : H p = none) : Same H (upd H' p o) := fun b x hb => by
  rw [upd_ne (ne_of_none hb h)]; exact e b x hb
theorem lc_pure {J : It} {n : Nat} {G : Hp → Prop} {Y : Nat → Hp → V → Hp → Prop} (w : Walk J n G Y) (f : Nat → V) {j : Nat} {te : TE} {vs : List Nat} {σ : L2.St} {H1 : Hp} {D : Addr} {Qd : Hp → Prop} (hD : H1 D = none) (hn : n < sizeLine)
    (hG : ∀ H, Same H1 H → G H) (hY : ∀ i H x H', i < n → Same H1 H → Y i H x H' → Same H H')
    (hs : ∀ i x H H', i < n → Same H1 H → Y i H x H' → ∀ Qv : VK, (∀ H'', Same H' H'' → Qv (f i) H'') → te ((wipe σ vs).set j (some x)) H' Qv)
    (hd : ∀ H, Same H1 H → H D = some (.lst ((List.range n).map f)) → Qd H) (hw : ∀ x, wipe ((wipe σ vs).set j (some x)) vs = wipe σ vs := by intro x; rfl) :
    ∃ W : Nat → Nat → Hp → Prop, (∃ m, W 0 m (upd H1 D (.lst []))) ∧ ∀ i m H, W i m H →
      (J.stop i H ∧ Qd H) ∨ (J.go i H ∧ ∃ Nx : Hp → Prop, (∀ H', Nx H' → ∃ m', m' < m ∧ W (i + 1) m' H') ∧ ∀ x H', J.yld i H x H' → gName j x (wipe σ vs) H' fun σ2 H2 => wipe σ2 vs = wipe σ vs ∧ tYes σ2 H2 fun b H3 =>
        if b = true then te σ2 H3 fun y H4 => ∃ acc, H4 D = some (.lst acc) ∧ acc.length < sizeLine ∧ Nx (upd H4 D (.lst (acc ++ [y]))) else Nx H3) := by
  refine lc_it w (fun i H => Same H1 H ∧ H D = some (.lst ((List.range i).map f))) ⟨same_at (Same.refl _) hD, upd_same⟩ (fun i H _ h => hG H h.1) (fun i x H H' hi h y => ?_) (fun H h => hd H h.1 h.2)
  obtain ⟨sm, eD⟩ := h
  have s1 := hY i H x H' hi sm y
  refine ⟨hw x, ?_⟩
  unfold tYes
  dsimp only
  rw [if_pos rfl]
  refine hs i x H H' hi sm y _ fun H'' s2 => ⟨_, s2 _ _ (s1 _ _ eD), ?_, same_at ((sm.trans s1).trans s2) hD, ?_⟩
  · rw [List.length_map, List.length_range]; omega
  · rw [upd_same, List.range_succ, List.map_append]; rfl
end Gx

namespace Gx
open PySem PySem.Spec PyProof.Rows L2
/-- te evaluates, laying what it wants, to a value of which P holds -/
def Ev1 (te : TE) (σ : L2.St) (H : Hp) (P : V → Hp → Prop) : Prop := ∀ R : VK, (∀ v H1, Same H H1 → P v H1 → R v H1) → te σ H R
theorem range_map {α : Type} (f : α → V) (l : List α) (g : Nat → V) (h : ∀ i x, l[i]? = some x → g i = f x) : (List.range l.length).map g = l.map f := by
  apply List.ext_getElem?
  intro i
  rw [List.getElem?_map, List.getElem?_map]
  by_cases hi : i < l.length
  · rw [List.getElem?_range hi, List.getElem?_eq_getElem hi]
    simp [h i l[i] (List.getElem?_eq_getElem hi)]
  · rw [List.getElem?_eq_none (by simpa using hi), List.getElem?_eq_none (by simpa using hi)]; rfl
/-- [e for c in text] -/
theorem lc_text {te0 te : TE} {j : Nat} {vs : List Nat} {σ : L2.St} {H : Hp} {Q : VK} {x : Str} (f : Nat → V) (h0 : Ev1 te0 σ H fun v _ => v = .str x) (hx : x.length ≤ 1000000)
    (hs : ∀ c H', c ∈ x.cps.toList → Same H H' → ∀ Qv : VK, (∀ H'', Same H' H'' → Qv (f c) H'') → te ((wipe σ vs).set j (some (.str (SX.S [c])))) H' Qv)
    (hd : ∀ D H', H D = none → Same H H' → H' D = some (.lst (x.cps.toList.map f)) → Q (.ref D) H') (hw : ∀ x, wipe ((wipe σ vs).set j (some x)) vs = wipe σ vs := by intro x; rfl) :
    tLc (iStr te0) (gName j) tYes te vs σ H Q := by
  refine h0 _ fun v H1 s1 e => ?_
  subst e
  refine ⟨x, rfl, fun D hD => ?_⟩
  have hn : x.cps.size < sizeLine := Nat.lt_of_le_of_lt hx (by decide)
  refine lc_pure walk_str (fun i => f (x.cps.toList.getD i 0)) hD hn (fun _ _ => trivial) (fun i H x H' _ _ y => y.1 ▸ Same.refl _) (fun i v H2 H' hi s2 y Qv q => ?_) (fun H2 s2 e2 => ?_) hw
  · obtain ⟨rfl, c, hc, rfl⟩ := y
    have hc' : x.cps.toList[i]? = some c := by simpa using hc
    refine hs c _ (List.mem_of_getElem? hc') (s1.trans s2) Qv fun H'' s3 => ?_
    have e : x.cps.toList.getD i 0 = c := by rw [List.getD_eq_getElem?_getD, hc']; rfl
    have q2 := q H'' s3
    rw [e] at q2
    exact q2
  · refine hd D H2 (s1.free hD) (s1.trans s2) ?_
    rw [e2, ← range_map f x.cps.toList (fun i => f (x.cps.toList.getD i 0)) fun i c hc => by rw [List.getD_eq_getElem?_getD, hc]; rfl, Array.length_toList]
/-- [e for y in list] -/
theorem lc_lst {K : PySem.W.Frag} {te0 te : TE} {j : Nat} {vs : List Nat} {σ : L2.St} {H : Hp} {Q : VK} {xs : List V} (f : V → V) (h0 : Ev1 te0 σ H fun v H1 => ∃ a, v = .ref a ∧ SqL K H1 a xs) (hx : xs.length ≤ 1000000)
    (hs : ∀ y H', y ∈ xs → Same H H' → ∀ Qv : VK, (∀ H'', Same H' H'' → Qv (f y) H'') → te ((wipe σ vs).set j (some y)) H' Qv)
    (hd : ∀ D H', H D = none → Same H H' → H' D = some (.lst (xs.map f)) → Q (.ref D) H') (hw : ∀ x, wipe ((wipe σ vs).set j (some x)) vs = wipe σ vs := by intro x; rfl) :
    tLc (iList K te0) (gName j) tYes te vs σ H Q := by
  refine h0 _ fun v H1 s1 e => ?_
  obtain ⟨a, rfl, hS⟩ := e
  refine ⟨a, rfl, ⟨xs, hS⟩, fun D hD => ?_⟩
  have hn : xs.length < sizeLine := Nat.lt_of_le_of_lt hx (by decide)
  refine lc_pure walk_list (fun i => f (xs.getD i .non)) hD hn (fun H2 s2 => s2.seq hS) (fun i H x H' _ _ y => y.1 ▸ Same.refl _) (fun i v H2 H' hi s2 y Qv q => ?_) (fun H2 s2 e2 => ?_) hw
  · obtain ⟨rfl, hc⟩ := y
    refine hs v _ (List.mem_of_getElem? hc) (s1.trans s2) Qv fun H'' s3 => ?_
    have e : xs.getD i .non = v := by rw [List.getD_eq_getElem?_getD, hc]; rfl
    have q2 := q H'' s3
    rw [e] at q2
    exact q2
  · refine hd D H2 (s1.free hD) (s1.trans s2) ?_
    rw [e2, ← range_map f xs (fun i => f (xs.getD i .non)) fun i c hc => by rw [List.getD_eq_getElem?_getD, hc]; rfl]
end Gx

namespace Gx
open PySem L2
theorem take_min' {α : Type} (l : List α) (n : Nat) : l.take (min n l.length) = l.take n := by
  by_cases h : n ≤ l.length
  · rw [Nat.min_eq_left h]
  · rw [Nat.min_eq_right (by omega), List.take_length, List.take_of_length_le (by omega)]
theorem drop_min' {α : Type} (l : List α) (n : Nat) : l.drop (min n l.length) = l.drop n := by
  by_cases h : n ≤ l.length
  · rw [Nat.min_eq_left h]
  · rw [Nat.min_eq_right (by omega), List.drop_length, List.drop_of_length_le (by omega)]
theorem cutV_to (xs : List V) (n : Nat) : cutV xs none (some (n : Int)) = xs.take n := by
  unfold cutV
  rw [HT.sIx_none, HT.sIx_nat, Nat.sub_zero, List.drop_zero, take_min']
theorem cutV_mid (xs : List V) (m n : Nat) : cutV xs (some (m : Int)) (some (n : Int)) = (xs.take n).drop m := by
  unfold cutV
  rw [HT.sIx_nat, HT.sIx_nat, ← List.drop_take, take_min', ← drop_min' (xs.take n) m, List.length_take]
  by_cases h : m ≤ min n xs.length
  · congr 1; omega
  · rw [List.drop_of_length_le (by rw [List.length_take]; omega), List.drop_of_length_le (by rw [List.length_take]; omega)]
theorem cutS_to (x : Str) (n : Nat) : (cutS x none (some (n : Int))).cps.toList = x.cps.toList.take n := by
  unfold cutS
  rw [HT.sIx_none, HT.sIx_nat, Nat.sub_zero, List.drop_zero, show x.length = x.cps.toList.length from (Array.length_toList).symm]
  show (x.cps.toList.take (min n x.cps.toList.length)) = _
  rw [take_min']
theorem cutS_from (x : Str) (n : Nat) : (cutS x (some (n : Int)) none).cps.toList = x.cps.toList.drop n := by
  unfold cutS
  rw [HT.sIx_none, HT.sIx_nat, show x.length = x.cps.toList.length from (Array.length_toList).symm]
  show ((x.cps.toList.drop (min n x.cps.toList.length)).take _) = _
  rw [drop_min', List.take_of_length_le (by rw [List.length_drop]; omega)]
end Gx

namespace Gx
open PySem PySem.Spec PyProof.Rows L2
/-- the law's own argument binds, whatever the heap -/
theorem binds_law {K : PySem.W.Frag} {x qual p : Str} {st : Stmt} {f : Addr} {fd : FuncData} (F : Fun K x qual st f fd)
    (h : ∀ (kV doc pm : Value) (an : Option Addr) (cdv ct : Value) (us : List Value), us.length = [p].length → bindArgs (PySem.W.fnOf x qual (defArgs st) (defBody st) (defScope st) .none kV doc pm an cdv ct) ⟨us, []⟩ = pure ([p].zip us))
    (s : Shared) (v : Value) : BindsTo s fd ⟨[v], []⟩ [(p, v)] := by
  obtain ⟨oc, od, kV, doc, pm, an, cdv, ct, osl, rfl, lk, hcd⟩ := F.ex
  exact .of_eq (h kV doc pm an cdv ct [v] rfl)
end Gx

/-! Lx: rows of a text as lists of signs: plain mathematics. -/
namespace Lx
open PySem
/-- the rows between line feeds -/
def lines : List Nat → List (List Nat)
  | [] => [[]]
  | c :: r => if c = 10 then [] :: lines r else ((c :: (lines r).headD []) :: (lines r).tail)
theorem lines_ne : ∀ l, lines l ≠ []
  | [] => by simp [lines]
  | c :: r => by unfold lines; split <;> simp
theorem lines_split (l : List Nat) : lines l = (lines l).headD [] :: (lines l).tail := by
  cases h : lines l with
  | nil => exact absurd h (lines_ne l)
  | cons a t => rfl
theorem pre10 (c : Nat) (r : List Nat) : TL.pre [10] (c :: r) = decide (c = 10) := by
  unfold TL.pre
  by_cases h : c = 10
  · subst h; rfl
  · simp [h]
theorem spl_lines : ∀ (l acc : List Nat), TL.spl [10] 0 acc l = (acc ++ (lines l).headD []) :: (lines l).tail
  | [], acc => by rw [TL.spl_nil]; simp [lines]
  | c :: r, acc => by
    by_cases h : c = 10
    · rw [TL.spl_hit (by rw [pre10, h]; rfl)]
      show acc :: TL.spl [10] 0 [] r = _
      rw [spl_lines r [], List.nil_append, ← lines_split r]
      simp [lines, h]
    · rw [TL.spl_miss (by rw [pre10]; simp [h]), spl_lines r (acc ++ [c])]
      simp [lines, h]
theorem spl_lines0 (l : List Nat) : TL.spl [10] 0 [] l = lines l := by rw [spl_lines, List.nil_append, ← lines_split]
abbrev nl : Str := "\n"
theorem nl_S : nl = SX.S [10] := TL.ext_tl rfl
theorem split_lines (x : Str) : Txt.split x nl = (lines x.cps.toList).map SX.S := by
  have e := SX.split_S (a := x.cps.toList) (b := [10]) (by simp) (by decide)
  rw [SX.S_tl] at e
  rw [nl_S, e, spl_lines0]
theorem join_cons (p : List Nat) {rs : List (List Nat)} (h : rs ≠ []) : TL.joinL [10] (p :: rs) = p ++ 10 :: TL.joinL [10] rs := by
  cases rs with
  | nil => exact absurd rfl h
  | cons a t => rfl
theorem join_headcons (c : Nat) (p : List Nat) (rs : List (List Nat)) : TL.joinL [10] ((c :: p) :: rs) = c :: TL.joinL [10] (p :: rs) := by
  cases rs with
  | nil => rfl
  | cons a t => rfl
theorem join_lines : ∀ l, TL.joinL [10] (lines l) = l
  | [] => rfl
  | c :: r => by
    unfold lines
    split
    · rename_i h
      rw [join_cons _ (lines_ne r), join_lines r, h]; rfl
    · rw [join_headcons, ← lines_split, join_lines r]
theorem join_S (x : Str) (ys : List (List Nat)) : Txt.join nl (ys.map SX.S) = SX.S (TL.joinL [10] ys) := by rw [nl_S]; exact SX.join_S [10] ys
theorem join_split (x : Str) : Txt.join nl (Txt.split x nl) = x := by
  rw [split_lines, join_S x, join_lines, SX.S_tl]
theorem lines_join {rs : List (List Nat)} (h : rs ≠ []) (h10 : ∀ r ∈ rs, 10 ∉ r) : lines (TL.joinL [10] rs) = rs := by
  rw [← spl_lines0, TL.spl_join h h10]
/-- all signs of the rows, and a line feed each -/
theorem lines_sum : ∀ l, ((lines l).map fun r => r.length + 1).sum = l.length + 1
  | [] => rfl
  | c :: r => by
    have ih := lines_sum r
    rw [lines_split r] at ih
    unfold lines
    split
    · rw [List.map_cons, List.sum_cons, lines_split r, ih]; simp; omega
    · rw [List.map_cons, List.sum_cons] at ih ⊢
      simp at ih ⊢; omega
theorem lines_len_pos (l : List Nat) : 0 < (lines l).length := List.length_pos_iff.mpr (lines_ne l)
/-- the rows of a beginning: all but its last one are rows of the whole -/
theorem lines_app : ∀ (p q : List Nat), (lines (p ++ q)).take ((lines p).length - 1) = (lines p).dropLast
  | [], q => by simp [lines]
  | c :: p, q => by
    have ih := lines_app p q
    have hp := lines_len_pos p
    rw [List.cons_append]
    by_cases h : c = 10
    · simp only [lines, if_pos h, List.length_cons]
      rw [lines_split p] at hp ⊢
      rw [List.dropLast_cons_of_ne_nil (by simp), ← lines_split p, ← ih]
      rw [lines_split p]
      simp only [List.length_cons, Nat.add_sub_cancel, List.take_succ_cons]
    · simp only [lines, if_neg h, List.length_cons, Nat.add_sub_cancel]
      cases ht : (lines p).tail with
      | nil => simp
      | cons a t =>
        have e1 : lines p = (lines p).headD [] :: a :: t := by rw [← ht]; exact lines_split p
        rw [e1] at ih
        have e2 := lines_split (p ++ q)
        rw [e2] at ih
        simp only [List.length_cons, Nat.add_sub_cancel, List.take_succ_cons, List.dropLast_cons₂] at ih
        injection ih with i1 i2
        simp only [List.length_cons, List.take_succ_cons, List.dropLast_cons₂]
        rw [i1, ← i2]
theorem lines_last (l : List Nat) : lines l = (lines l).dropLast ++ [(lines l).getLastD []] := by
  have e5 := List.dropLast_concat_getLast (lines_ne l)
  have e6 : (lines l).getLastD [] = (lines l).getLast (lines_ne _) := by
    rw [List.getLastD_eq_getLast?, List.getLast?_eq_getLast (lines_ne _)]; rfl
  rw [e6]; exact e5.symm
theorem lines_many (l : List Nat) : (lines l).length ≤ l.length + 1 := by
  rw [← lines_sum]
  have : ∀ ys : List (List Nat), ys.length ≤ (ys.map fun y => y.length + 1).sum := by
    intro ys
    induction ys with
    | nil => exact Nat.le_refl _
    | cons y ys ih => rw [List.map_cons, List.sum_cons, List.length_cons]; omega
  exact this _
theorem lines_small {l : List Nat} {r : List Nat} (h : r ∈ lines l) : r.length ≤ l.length := by
  have e1 := lines_sum l
  have e2 : ∀ ys : List (List Nat), r ∈ ys → r.length + 1 ≤ (ys.map fun y => y.length + 1).sum := by
    intro ys
    induction ys with
    | nil => intro h; cases h
    | cons y ys ih =>
      intro h
      rw [List.map_cons, List.sum_cons]
      rcases List.mem_cons.mp h with e | e
      · subst e; omega
      · have := ih e; omega
  have := e2 _ h
  omega
/-- the place of an end of text: row and column -/
def spotOf (l : List Nat) : Int × Int := ((((lines l).length - 1 : Nat) : Int), (((lines l).getLastD []).length : Int))
/-- one sign on -/
def spotStep (s : Int × Int) (c : Nat) : Int × Int := (s.1 + (if c = 10 then 1 else 0), (s.2 + 1) * (if c = 10 then 0 else 1))
theorem fold_spot : ∀ (l : List Nat) (r c : Int), l.foldl spotStep (r, c) = (r + (((lines l).length - 1 : Nat) : Int), if (lines l).length = 1 then c + ((lines l).headD []).length else ((lines l).getLastD []).length)
  | [], r, c => by simp [lines]
  | a :: l, r, c => by
    have hp := lines_len_pos l
    rw [List.foldl_cons]
    have e : spotStep (r, c) a = (r + (if a = 10 then 1 else 0), (c + 1) * (if a = 10 then 0 else 1)) := rfl
    rw [e, fold_spot l]
    by_cases h : a = 10
    · subst h
      have e2 : ([] :: lines l).getLastD [] = (lines l).getLastD [] := by
        cases hl : lines l with
        | nil => exact absurd hl (lines_ne l)
        | cons x t => simp
      simp only [lines, if_true, List.length_cons]
      rw [e2, if_neg (show ¬ (lines l).length + 1 = 1 by omega)]
      refine Prod.ext ?_ ?_
      · show r + 1 + (((lines l).length - 1 : Nat) : Int) = r + (((lines l).length + 1 - 1 : Nat) : Int)
        omega
      · show (if (lines l).length = 1 then (c + 1) * 0 + (((lines l).headD []).length : Int) else (((lines l).getLastD []).length : Int)) = (((lines l).getLastD []).length : Int)
        split
        · rename_i h1
          cases hl : lines l with
          | nil => exact absurd hl (lines_ne l)
          | cons x t =>
            rw [hl] at h1
            have : t = [] := List.length_eq_zero_iff.mp (by simpa using h1)
            subst this
            simp
        · rfl
    · simp only [lines, if_neg h, List.length_cons]
      have e3 := lines_split l
      cases ht : (lines l).tail with
      | nil =>
        have e4 : (lines l).length = 1 := by rw [e3, ht]; rfl
        simp [e4]
        omega
      | cons x t =>
        have e4 : (lines l).length = t.length + 2 := by rw [e3, ht]; rfl
        simp [e4]
        rw [e3, ht]; simp
theorem fold_spot0 (l : List Nat) : l.foldl spotStep (0, 0) = spotOf l := by
  rw [fold_spot]
  unfold spotOf
  refine Prod.ext (by simp) ?_
  show (if (lines l).length = 1 then _ else _) = _
  split
  · rename_i h
    cases hl : lines l with
    | nil => exact absurd hl (lines_ne l)
    | cons x t =>
      rw [hl] at h
      have : t = [] := List.length_eq_zero_iff.mp (by simpa using h)
      subst this; simp
  · rfl
/-- the place of a row and a column -/
def atOf (l : List Nat) (r c : Int) : Int := (((lines l).take r.toNat).map fun y => (y.length : Int) + 1).sum + c
theorem sum_cast (ys : List (List Nat)) : (ys.map fun y => (y.length : Int) + 1).sum = (((ys.map fun y => y.length + 1).sum : Nat) : Int) := by
  induction ys with
  | nil => rfl
  | cons y ys ih => rw [List.map_cons, List.map_cons, List.sum_cons, List.sum_cons, ih]; omega
theorem at_spot {l : List Nat} {n : Nat} (h : n ≤ l.length) : atOf l (spotOf (l.take n)).1 (spotOf (l.take n)).2 = n := by
  have e := lines_app (l.take n) (l.drop n)
  rw [List.take_append_drop] at e
  have hs := lines_sum (l.take n)
  have hl : (l.take n).length = n := by rw [List.length_take]; omega
  unfold atOf spotOf
  dsimp only
  rw [Int.toNat_natCast, e, sum_cast]
  have ed : lines (l.take n) = (lines (l.take n)).dropLast ++ [(lines (l.take n)).getLastD []] := by
    have e5 := List.dropLast_concat_getLast (lines_ne (l.take n))
    have e6 : (lines (l.take n)).getLastD [] = (lines (l.take n)).getLast (lines_ne _) := by
      rw [List.getLastD_eq_getLast?, List.getLast?_eq_getLast (lines_ne _)]; rfl
    rw [e6]; exact e5.symm
  rw [ed, List.map_append, List.sum_append, List.map_singleton, List.sum_singleton, hl] at hs
  omega
end Lx

set_option maxHeartbeats 4000000
/-! Bx: what the laws' own draws promise (a box of three ints that each draw changes), and lists of texts. -/
namespace Gx
open PySem PySem.Spec PyProof.Rows L2 Lx
def txts (ls : List (List Nat)) : List V := ls.map fun l => V.str (SX.S l)
theorem txts_eq (ls : List (List Nat)) : txts ls = (ls.map SX.S).map V.str := by unfold txts; rw [List.map_map]; rfl
theorem join_room {ls : List (List Nat)} (h : (ls.map fun l => l.length + 1).sum ≤ 1000000) : ((ls.map SX.S).map (·.length)).sum + (ls.map SX.S).length * nl.length ≤ 16777216 := by
  rw [SX.lens, List.length_map]
  have e : nl.length = 1 := rfl
  rw [e, Nat.mul_one]
  have : ∀ ys : List (List Nat), (ys.map fun l => l.length + 1).sum = (ys.map (·.length)).sum + ys.length := by
    intro ys
    induction ys with
    | nil => rfl
    | cons y ys ih => rw [List.map_cons, List.map_cons, List.sum_cons, List.sum_cons, ih, List.length_cons]; omega
  rw [this] at h
  omega
/-- the box of draws at b -/
def IsBox (H : Hp) (b : Addr) : Prop := ∃ i j k : Int, H b = some (.lst [.int i, .int j, .int k])
/-- all stays but what stands at b; b is a box -/
def Drawn (b : Addr) (H H' : Hp) : Prop := IsBox H' b ∧ ∀ a o, a ≠ b → H a = some o → H' a = some o
theorem Drawn.trans {b : Addr} {H H1 H2 : Hp} (x : Drawn b H H1) (y : Drawn b H1 H2) : Drawn b H H2 := ⟨y.1, fun a o n h => y.2 a o n (x.2 a o n h)⟩
theorem Drawn.of {b : Addr} {H H' : Hp} (x : IsBox H b) (s : Same H H') : Drawn b H H' := by
  obtain ⟨i, j, k, h⟩ := x
  exact ⟨⟨i, j, k, s _ _ h⟩, fun a o _ h => s _ _ h⟩
theorem Drawn.set {b : Addr} {H H1 : Hp} {i j k : Int} (x : ∀ a o, a ≠ b → H a = some o → H1 a = some o) : Drawn b H (upd H1 b (.lst [.int i, .int j, .int k])) :=
  ⟨⟨i, j, k, upd_same⟩, fun a o n h => by rw [upd_ne n]; exact x a o n h⟩
/-- a new object that is laid meanwhile stays new -/
theorem Drawn.free {b : Addr} {H H' : Hp} (x : Drawn b H H') (hb : IsBox H b) {p : Addr} (h : H' p = none) : H p = none := by
  cases q : H p with
  | none => rfl
  | some o =>
    by_cases e : p = b
    · subst e
      obtain ⟨i, j, k, z⟩ := x.1
      rw [z] at h; cases h
    · rw [x.2 p o e q] at h; cases h
/-- what was not there ahead may change -/
theorem Drawn.at {b : Addr} {H H' : Hp} (d : Drawn b H H') {p : Addr} (hp : H p = none) (hb : p ≠ b) (o : HO) : Drawn b H (upd H' p o) := by
  obtain ⟨i, j, k, z⟩ := d.1
  exact ⟨⟨i, j, k, by rw [upd_ne (Ne.symm hb)]; exact z⟩, fun a u n h => by rw [upd_ne (ne_of_none h hp)]; exact d.2 a u n h⟩
def sp_take : Sp := fun vs H Q _ => ∃ (b : Addr) (n : Int), vs = [.ref b, .int n] ∧ IsBox H b ∧ 0 < n ∧ n < 1073741824 ∧ ∀ v H', 0 ≤ v → v < n → Drawn b H H' → Q (.int v) H'
theorem txts_of (zs : List Str) : txts (zs.map fun z => z.cps.toList) = zs.map V.str := by
  unfold txts
  rw [List.map_map]
  exact List.map_congr_left fun z _ => congrArg V.str (SX.S_tl z)
def sp_one_of : Sp := fun vs H Q _ => ∃ (b : Addr) (v : V) (ls : List (List Nat)), vs = [.ref b, v] ∧ IsBox H b ∧ ls ≠ [] ∧ ls.length ≤ 1000 ∧
  ((∃ a, v = .ref a ∧ H a = some (.lst (txts ls))) ∨ ∃ x : Str, v = .str x ∧ ls = x.cps.toList.map fun c => [c]) ∧ ∀ l H', l ∈ ls → Drawn b H H' → Q (.str (SX.S l)) H'
/-- [e for k in range(n)], each e a text that the draws give -/
theorem lc_drawn {te : TE} {j : Nat} {vs : List Nat} {σ : L2.St} {H : Hp} {Q : VK} {ta : TA} {b : Addr} (N : Nat → Prop) (R : List Nat → Prop) (hb : IsBox H b) (hn : ∀ m, N m → m ≤ 1000)
    (h0 : ∀ R' : List V → Hp → Prop, (∀ H1 n', N n' → Drawn b H H1 → R' [.int ((n' : Nat) : Int)] H1) → ta σ H R')
    (hs : ∀ k H', IsBox H' b → ∀ Qv : VK, (∀ l H'', R l → Drawn b H' H'' → Qv (.str (SX.S l)) H'') → te ((wipe σ vs).set j (some (.int k))) H' Qv)
    (hd : ∀ D ls H', N ls.length → (∀ l ∈ ls, R l) → H' D = some (.lst (txts ls)) → Drawn b H H' → Q (.ref D) H') (hw : ∀ x, wipe ((wipe σ vs).set j (some x)) vs = wipe σ vs := by intro x; rfl) :
    tLc (iRng1 ta) (gName j) tYes te vs σ H Q := by
  refine h0 _ fun H1 n' hn' d1 => ?_
  have hn1 := hn n' hn'
  refine ⟨((n' : Nat) : Int), rfl, by omega, by omega, fun D hD => ?_⟩
  have hbD : b ≠ D := fun e => by
    subst e
    obtain ⟨i, j, k, z⟩ := d1.1
    rw [z] at hD; cases hD
  rw [Int.toNat_natCast]
  refine lc_it walk_range (fun i H2 => ∃ ls : List (List Nat), ls.length = i ∧ (∀ l ∈ ls, R l) ∧ H2 D = some (.lst (txts ls)) ∧ Drawn b H H2) ⟨[], rfl, (fun _ h => absurd h List.not_mem_nil), upd_same, ?_, fun a o n h => ?_⟩ (fun _ _ _ _ => trivial) (fun i v H2 H3 hi hP hy => ?_) (fun H2 hP => ?_)
  · obtain ⟨i, j, k, z⟩ := d1.1
    exact ⟨i, j, k, by rw [upd_ne hbD]; exact z⟩
  · have h1 := d1.2 a o n h
    rw [upd_ne (ne_of_none h1 hD)]; exact h1
  · obtain ⟨ls, e1, e2, e3, d2⟩ := hP
    obtain ⟨rfl, rfl⟩ := hy
    refine ⟨hw _, ?_⟩
    unfold tYes
    dsimp only
    rw [if_pos rfl]
    refine hs _ _ d2.1 _ fun l H4 hl d3 => ?_
    have e4 := d3.2 _ _ (Ne.symm hbD) e3
    refine ⟨_, e4, ?_, ls ++ [l], by rw [List.length_append, e1]; rfl, ?_, ?_, ?_⟩
    · unfold txts
      rw [List.length_map]
      have : (1000 : Nat) < sizeLine := by decide
      omega
    · intro z hz
      rcases List.mem_append.mp hz with hz | hz
      · exact e2 z hz
      · rw [List.mem_singleton.mp hz]; exact hl
    · rw [upd_same]; unfold txts; rw [List.map_append]; rfl
    · have d4 := d2.trans d3
      obtain ⟨i, j, k, z⟩ := d4.1
      refine ⟨⟨i, j, k, by rw [upd_ne hbD]; exact z⟩, fun a o n h => ?_⟩
      have hDn : H D = none := by
        cases q : H D with
        | none => rfl
        | some o => have := d1.2 D o (Ne.symm hbD) q; rw [hD] at this; cases this
      rw [upd_ne (ne_of_none h hDn)]
      exact d4.2 a o n h
  · obtain ⟨ls, e1, e2, e3, d2⟩ := hP
    exact hd D ls H2 (by rw [e1]; exact hn') e2 e3 d2
end Gx

set_option maxHeartbeats 4000000
/-! Tx: what evaluates to a short text, to a list of short texts, while the box at b may be drawn from. -/
namespace Gx
open PySem PySem.Spec PyProof.Rows L2 Lx
/-- a text that is not too long -/
def Sh (n : Nat) (v : V) : Prop := ∃ z : Str, v = .str z ∧ z.length ≤ n
theorem Sh.mk {n : Nat} {z : Str} (h : z.length ≤ n) : Sh n (.str z) := ⟨z, rfl, h⟩
theorem Sh.mono {m n : Nat} {v : V} (h : Sh m v) (hm : m ≤ n) : Sh n v := by
  obtain ⟨z, e, hz⟩ := h
  exact ⟨z, e, Nat.le_trans hz hm⟩
def ShL (n m : Nat) (H : Hp) (p : Addr) : Prop := ∃ xs, H p = some (.lst xs) ∧ xs.length ≤ n ∧ ∀ v ∈ xs, Sh m v
theorem cutS_short (z : Str) (lo hi : Option Int) {n : Nat} (h : z.length ≤ n) : (cutS z lo hi).length ≤ n := Nat.le_trans (cutS_length z lo hi) h
theorem timesS_len (z : Str) (n : Nat) : (timesS z n).length = z.length * n := by
  show ((List.replicate n z.cps.toList).flatten.toArray).size = _
  rw [List.size_toArray, List.length_flatten]
  simp [Str.length, Nat.mul_comm]
theorem app_len (x y : Str) : (x ++ y).length = x.length + y.length := by
  show (x ++ y).cps.size = _
  rw [Str.cps_append, Array.size_append]; rfl
/-- evaluates to a text of at most m signs -/
def ES (te : TE) (σ : L2.St) (b : Addr) (H : Hp) (m : Nat) : Prop := ∀ R : VK, (∀ v H', Drawn b H H' → Sh m v → R v H') → te σ H R
/-- evaluates to a list of at most n texts of at most m signs -/
def EL (te : TE) (σ : L2.St) (b : Addr) (H : Hp) (n m : Nat) : Prop := ∀ R : VK, (∀ p H', Drawn b H H' → p ≠ b → ShL n m H' p → R (.ref p) H') → te σ H R
def EA (ta : TA) (σ : L2.St) (b : Addr) (H : Hp) (n m : Nat) : Prop := ∀ R : List V → Hp → Prop, (∀ vs H', Drawn b H H' → vs.length = n → (∀ v ∈ vs, Sh m v) → R vs H') → ta σ H R
def EO (to : TO) (σ : L2.St) (b : Addr) (H : Hp) : Prop := ∀ R : Option Int → Hp → Prop, (∀ o H', Drawn b H H' → R o H') → to σ H R
section
variable {σ : L2.St} {b : Addr} {H : Hp} {m n m1 m2 n1 n2 : Nat} {ta tb te : TE} {t : TA}
theorem Drawn.refl (hb : IsBox H b) : Drawn b H H := ⟨hb, fun _ _ _ h => h⟩
theorem Drawn.new {H' : Hp} {p : Addr} {o : HO} (d : Drawn b H H') (hp : H' p = none) : Drawn b H (upd H' p o) := d.trans (Drawn.of d.1 (same_new hp))
theorem Drawn.nb {H' : Hp} {p : Addr} (d : Drawn b H H') (hp : H' p = none) : p ≠ b := fun e => by
  subst e
  obtain ⟨i, j, k, z⟩ := d.1
  rw [z] at hp; cases hp
theorem ES.mono (h : ES te σ b H m) (hm : m ≤ n) : ES te σ b H n := fun R r => h R fun v H' d s => r v H' d (s.mono hm)
theorem es_c {z : Str} (hb : IsBox H b) (h : z.length ≤ m) : ES (tC (.str z)) σ b H m := fun R r => r _ _ (Drawn.refl hb) (Sh.mk h)
theorem es_var {i : Nat} {v : V} (hb : IsBox H b) (hi : σ[i]? = some (some v)) (h : Sh m v) : ES (tVar i) σ b H m := fun R r => ⟨v, hi, r _ _ (Drawn.refl hb) h⟩
theorem es_add (hz : m1 + m2 ≤ 1000000) (ha : ES ta σ b H m1) (hc : ∀ H', Drawn b H H' → ES tb σ b H' m2) :
    ES (tOp (fun x y H Q => ∃ i j, x = .str i ∧ y = .str j ∧ i.length + j.length ≤ sizeLine ∧ Q (.str (i ++ j)) H) ta tb) σ b H (m1 + m2) := fun R r => ha _ fun v H1 d1 s1 => hc H1 d1 _ fun v2 H2 d2 s2 => by
  obtain ⟨x, rfl, hx⟩ := s1
  obtain ⟨y, rfl, hy⟩ := s2
  have : (1000000 : Nat) ≤ sizeLine := by decide
  exact ⟨x, y, rfl, rfl, by omega, r _ _ (d1.trans d2) (Sh.mk (by rw [app_len]; omega))⟩
theorem eo_none (hb : IsBox H b) : EO tNoPart σ b H := fun R r => r _ _ (Drawn.refl hb)
theorem eo_int {i : Int} (hb : IsBox H b) : EO (tPart (tC (.int i))) σ b H := fun R r => ⟨i, rfl, r _ _ (Drawn.refl hb)⟩
theorem eo_var {j : Nat} {i : Int} (hb : IsBox H b) (h : σ[j]? = some (some (.int i))) : EO (tPart (tVar j)) σ b H := fun R r => ⟨_, h, i, rfl, r _ _ (Drawn.refl hb)⟩
theorem es_slice {tl th : TO} (hz : m ≤ 1000000) (ha : ES te σ b H m) (hl : ∀ H', Drawn b H H' → EO tl σ b H') (hh : ∀ H', Drawn b H H' → EO th σ b H') : ES (tSl rSlS te tl th) σ b H m := fun R r =>
  ha _ fun v H1 d1 s1 => hl H1 d1 _ fun o H2 d2 => hh H2 (d1.trans d2) _ fun o2 H3 d3 => by
  obtain ⟨x, rfl, hx⟩ := s1
  have : (1000000 : Nat) ≤ sizeLine := by decide
  exact ⟨x, rfl, by omega, r _ _ ((d1.trans d2).trans d3) (Sh.mk (cutS_short x _ _ hx))⟩
theorem es_times {k : Int} (hk : 1 ≤ k ∧ k ≤ 100000) (hz : m * k.toNat ≤ 1000000) (ha : ES te σ b H m) :
    ES (tOp (fun x y H Q => ∃ (z : Str) (n : Int), x = .str z ∧ y = .int n ∧ 1 ≤ n ∧ n ≤ 100000 ∧ z.length * n.toNat ≤ 1000000 ∧ Q (.str (timesS z n.toNat)) H) te (tC (.int k))) σ b H (m * k.toNat) := fun R r =>
  ha _ fun v H1 d1 s1 => by
  obtain ⟨x, rfl, hx⟩ := s1
  have hm := Nat.mul_le_mul_right k.toNat hx
  exact ⟨x, k, rfl, rfl, hk.1, hk.2, by omega, r _ _ d1 (Sh.mk (by rw [timesS_len]; exact hm))⟩
theorem ea_nil (hb : IsBox H b) : EA tNil σ b H 0 m := fun R r => r _ _ (Drawn.refl hb) rfl fun _ h => absurd h List.not_mem_nil
theorem ea_cons (ha : ES te σ b H m) (ht : ∀ H', Drawn b H H' → EA t σ b H' n m) : EA (tCons te t) σ b H (n + 1) m := fun R r =>
  ha _ fun v H1 d1 s1 => ht H1 d1 _ fun vs H2 d2 hl hs => r _ _ (d1.trans d2) (by rw [List.length_cons, hl]) fun z hz => by
    rcases List.mem_cons.mp hz with e | e
    · rw [e]; exact s1
    · exact hs z e
theorem el_lst (hn : n ≤ 1000) (ht : EA t σ b H n m) : EL (tLst t) σ b H n m := fun R r => ht _ fun vs H1 d1 hl hs =>
  ⟨Nat.le_trans (by omega) (by decide : (1000 : Nat) ≤ sizeLine), fun p hp => r p _ (d1.new hp) (d1.nb hp) ⟨vs, upd_same, by omega, hs⟩⟩
theorem el_var {i : Nat} {p : Addr} (hb : IsBox H b) (hi : σ[i]? = some (some (.ref p))) (hp : p ≠ b) (h : ShL n m H p) : EL (tVar i) σ b H n m := fun R r => ⟨_, hi, r p _ (Drawn.refl hb) hp h⟩
theorem el_cat (hn : n1 + n2 ≤ 100000) (ha : EL ta σ b H n1 m) (hc : ∀ H', Drawn b H H' → EL tb σ b H' n2 m) : EL (tOp rCat ta tb) σ b H (n1 + n2) m := fun R r =>
  ha _ fun p1 H1 d1 n1' s1 => hc H1 d1 _ fun p2 H2 d2 n2' s2 => by
  obtain ⟨xs, e1, l1, h1⟩ := s1
  obtain ⟨ys, e2, l2, h2⟩ := s2
  have : (100000 : Nat) ≤ sizeLine := by decide
  refine ⟨p1, p2, xs, ys, rfl, rfl, d2.2 _ _ n1' e1, e2, by omega, fun p hp => r p _ ((d1.trans d2).new hp) ((d1.trans d2).nb hp) ⟨xs ++ ys, upd_same, by rw [List.length_append]; omega, fun v hv => ?_⟩⟩
  rcases List.mem_append.mp hv with hv | hv
  · exact h1 v hv
  · exact h2 v hv
/-- [e for y in list of short texts], e drawing nothing that the list hangs on -/
theorem el_comp {K : PySem.W.Frag} {te0 : TE} {j : Nat} {vs : List Nat} (hn : n ≤ 1000) (hb : IsBox H b) (h0 : EL te0 σ b H n m1)
    (hs : ∀ y H', Drawn b H H' → Sh m1 y → ES te ((wipe σ vs).set j (some y)) b H' m) (hw : ∀ x, wipe ((wipe σ vs).set j (some x)) vs = wipe σ vs := by intro x; rfl) :
    EL (tLc (iList K te0) (gName j) tYes te vs) σ b H n m := by
  intro R r
  refine h0 _ fun p H1 d1 np s1 => ?_
  obtain ⟨xs, e1, l1, h1⟩ := s1
  refine ⟨p, rfl, ⟨xs, SqL.of e1⟩, fun D hD => ?_⟩
  have hDb := d1.nb hD
  have hDp : p ≠ D := ne_of_none e1 hD
  refine lc_it walk_list (fun i H2 => Drawn b H H2 ∧ H2 p = some (.lst xs) ∧ ∃ ys, H2 D = some (.lst ys) ∧ ys.length = i ∧ ∀ v ∈ ys, Sh m v) ⟨d1.new hD, by rw [upd_ne hDp]; exact e1, [], upd_same, rfl, fun _ h => absurd h List.not_mem_nil⟩
    (fun i H2 _ h => SqL.of h.2.1) (fun i v H2 H3 hi hP hy => ?_) (fun H2 hP => ?_)
  · obtain ⟨d2, ep, ys, eD, ly, hys⟩ := hP
    obtain ⟨rfl, hv⟩ := hy
    refine ⟨hw _, ?_⟩
    unfold tYes
    dsimp only
    rw [if_pos rfl]
    refine hs v _ d2 (h1 v (List.mem_of_getElem? hv)) _ fun z H4 d3 hz => ?_
    refine ⟨ys, d3.2 _ _ hDb eD, Nat.lt_of_lt_of_le (show ys.length < 1001 by omega) (by decide), ?_, ?_, ys ++ [z], upd_same, by rw [List.length_append, ly]; rfl, fun u hu => ?_⟩
    · have d4 := d2.trans d3
      obtain ⟨i, j, k, e⟩ := d4.1
      refine ⟨⟨i, j, k, by rw [upd_ne (Ne.symm hDb)]; exact e⟩, fun a o na h => ?_⟩
      have : a ≠ D := fun e => by
        subst e
        have := d1.2 _ _ na h
        rw [this] at hD; cases hD
      rw [upd_ne this]; exact d4.2 a o na h
    · rw [upd_ne hDp]; exact d3.2 _ _ np ep
    · rcases List.mem_append.mp hu with hu | hu
      · exact hys u hu
      · rw [List.mem_singleton.mp hu]; exact hz
  · obtain ⟨d2, ep, ys, eD, ly, hys⟩ := hP
    exact r D H2 d2 hDb ⟨ys, eD, by omega, hys⟩
end
end Gx
namespace Gx
open PySem PySem.Spec PyProof.Rows L2 Lx
/-- x = a list of short texts; return one -/
theorem st_setL {te : TE} {rest : TS} {D : Ends} {σ : L2.St} {H : Hp} {b : Addr} {n m i : Nat} (h : EL te σ b H n m) (k : ∀ p H', Drawn b H H' → p ≠ b → ShL n m H' p → rest D (σ.set i (some (.ref p))) H') :
    tSeq (tAsg te (gName i)) rest D σ H := h _ k
end Gx

set_option maxHeartbeats 4000000
/-! Dx: lists of texts and tuples of ints as data: ==, repr. -/
namespace Gx
open PySem PySem.Spec PyProof.Rows L2 Lx
def dTxts (ls : List (List Nat)) : PyData := .list (ls.map fun l => .str (SX.S l))
theorem dp_txts {K : PySem.W.Frag} {H : Hp} {p : Addr} {ls : List (List Nat)} (h : SqL K H p (txts ls)) : Dp K H (.ref p) (dTxts ls) := by
  refine .lst h ?_
  unfold txts
  clear h
  induction ls with
  | nil => exact .nil
  | cons l ls ih => exact .cons (.str _) ih
theorem can_txts {ls : List (List Nat)} (h : ∀ l ∈ ls, ∀ c ∈ l, c < 1114112) : (dTxts ls).canLay0 = true := by
  unfold dTxts
  rw [PyData.canLay0]
  induction ls with
  | nil => rfl
  | cons l ls ih =>
    rw [List.map_cons, PyData.canLayAll0, ih fun l' hl => h l' (List.mem_cons_of_mem _ hl), Bool.and_true]
    have h1 := h l (List.mem_cons_self ..)
    show PyData.canLay0 (.str (SX.S l)) = true
    rw [PyData.canLay0]
    unfold PyData.strOk
    rw [← Array.all_toList, List.all_eq_true]
    exact fun c hc => decide_eq_true (h1 c hc)
theorem depth_strs : ∀ ls : List (List Nat), PyData.depthAll (ls.map fun l => PyData.str (SX.S l)) = 0
  | [] => rfl
  | l :: ls => by
    rw [List.map_cons, PyData.depthAll, depth_strs ls, PyData.depth]; rfl
theorem shaped_txts {ls : List (List Nat)} (h : ∀ l ∈ ls, ∀ c ∈ l, c < 1114112) : SeqAt.shaped (dTxts ls) = true := by
  unfold SeqAt.shaped
  rw [can_txts h, Bool.true_and]
  unfold dTxts
  rw [PyData.depth, depth_strs]; rfl
/-- lists of alike texts are == -/
theorem ne_txts {K : PySem.W.Frag} {H : Hp} {p q : Addr} {ls : List (List Nat)} {Q : VK} (hp : SqL K H p (txts ls)) (hq : SqL K H q (txts ls)) (h : ∀ l ∈ ls, ∀ c ∈ l, c < 1114112) (k : Q (.bl false) H) : rNeD K (.ref p) (.ref q) H Q :=
  ⟨dTxts ls, dTxts ls, dp_txts hp, dp_txts hq, shaped_txts h, shaped_txts h, by rw [SeqAt.eqv_refl _ (can_txts h)]; exact k⟩
def dInts (ns : List Int) : PyData := .tuple (ns.map .int)
theorem dp_ints {K : PySem.W.Frag} {H : Hp} {p : Addr} {ns : List Int} (h : SqT K H p (ns.map V.int)) : Dp K H (.ref p) (dInts ns) := by
  refine .tup h ?_
  clear h
  induction ns with
  | nil => exact .nil
  | cons l ls ih => exact .cons (.int _) ih
theorem can_ints (ns : List Int) : (dInts ns).canLay0 = true := by
  unfold dInts
  rw [PyData.canLay0]
  induction ns with
  | nil => rfl
  | cons n ns ih => rw [List.map_cons, PyData.canLayAll0, ih, PyData.canLay0]; rfl
theorem depth_ints : ∀ ns : List Int, PyData.depthAll (ns.map PyData.int) = 0
  | [] => rfl
  | n :: ns => by rw [List.map_cons, PyData.depthAll, depth_ints ns, PyData.depth]; rfl
theorem shaped_ints (ns : List Int) : SeqAt.shaped (dInts ns) = true := by
  unfold SeqAt.shaped
  rw [can_ints, Bool.true_and]
  unfold dInts
  rw [PyData.depth, depth_ints]; rfl
theorem ne_ints {K : PySem.W.Frag} {H : Hp} {p q : Addr} {ns : List Int} {Q : VK} (hp : SqT K H p (ns.map V.int)) (hq : SqT K H q (ns.map V.int)) (k : Q (.bl false) H) : rNeD K (.ref p) (.ref q) H Q :=
  ⟨dInts ns, dInts ns, dp_ints hp, dp_ints hq, shaped_ints ns, shaped_ints ns, by rw [SeqAt.eqv_refl _ (can_ints ns)]; exact k⟩
/-- small whole numbers -/
def Lt64 (i : Int) : Prop := i.natAbs.log2 < 64
theorem show_ints : ∀ ns : List Int, (∀ i ∈ ns, Lt64 i) → PyData.showableAll (ns.map PyData.int) = true ∧ PyData.hasDictAll (ns.map PyData.int) = false ∧ piled (PyData.shownAll (ns.map PyData.int)) ≤ 67 * ns.length
  | [], _ => ⟨rfl, rfl, Nat.le_refl _⟩
  | n :: ns, h => by
    obtain ⟨h1, h2, h3⟩ := show_ints ns fun i hi => h i (List.mem_cons_of_mem _ hi)
    have h0 : n.natAbs.log2 < 64 := h n (List.mem_cons_self ..)
    rw [List.map_cons, PyData.showableAll, PyData.hasDictAll, PyData.shownAll, PyData.showable, PyData.hasDict, PyData.shown, h1, h2, piled_cons]
    refine ⟨by simp; omega, rfl, ?_⟩
    have h4 := int_text_length_le (a := n) (k := 64) (by decide) h0
    rw [PySem.ofString_length, List.length_cons]
    omega
/-- repr of a tuple of few small whole numbers -/
theorem repr_ints {ns : List Int} (h : ∀ i ∈ ns, Lt64 i) (hn : ns.length ≤ 100) : (dInts ns).showable = true ∧ (dInts ns).hasDict = false ∧ (dInts ns).depth ≤ 60 ∧ (dInts ns).shown.length ≤ sizeLine := by
  obtain ⟨h1, h2, h3⟩ := show_ints ns h
  refine ⟨?_, ?_, ?_, ?_⟩
  · unfold dInts; rw [PyData.showable]; exact h1
  · unfold dInts; rw [PyData.hasDict]; exact h2
  · unfold dInts; rw [PyData.depth, depth_ints]; decide
  · unfold dInts
    rw [PyData.shown]
    have := fmt_text (PyData.shownAll (ns.map PyData.int))
    have : (100000 : Nat) ≤ sizeLine := by decide
    omega
/-- places of a range with a step -/
theorem rgc_up {m c : Nat} (hm : m ≤ 1000000) (hc : 0 < c) (hc2 : c ≤ 1000000) : ∃ n : Nat, RgC 0 (m : Int) (c : Int) n ∧ ∀ i, i < n → i * c < m := by
  have e := rangeSize_pos (len := (m : Int)) (c := (c : Int)) (by omega) (by omega)
  refine ⟨(((m : Int) + c - 1) / c).toNat, ⟨by omega, by omega, ?_, ?_⟩, fun i hi => ?_⟩
  · have h1 : 0 ≤ ((m : Int) + c - 1) / c := Int.ediv_nonneg (by omega) (by omega)
    have h2 : ((m : Int) + c - 1) / c ≤ (m : Int) + c - 1 := Int.ediv_le_self _ (by omega)
    have h3 : ((m : Int) + c - 1) / c * c ≤ (m : Int) + c - 1 := Int.ediv_mul_le _ (by omega)
    unfold Builtin.Range.small
    rw [e]
    generalize ((m : Int) + c - 1) / c = k at h1 h2 h3
    simp only [Builtin.Range.rangeFitsLong, Bool.and_eq_true, Bool.or_eq_true, decide_eq_true_eq, beq_iff_eq]
    refine ⟨by omega, .inr ?_⟩
    rw [if_pos (by omega)]
    simp only [Bool.and_eq_true, decide_eq_true_eq]
    omega
  · rw [e]
    have : 0 ≤ ((m : Int) + c - 1) / c := Int.ediv_nonneg (by omega) (by omega)
    omega
  · have h1 : (i : Int) < ((m : Int) + c - 1) / c := by omega
    have h2 : ((i : Int) + 1) * c ≤ (m : Int) + c - 1 := by
      have := (Int.le_ediv_iff_mul_le (c := (c : Int)) (a := (i : Int) + 1) (b := (m : Int) + c - 1) (by omega)).mp (by omega)
      exact this
    have h3 : ((i : Int) + 1) * c = ((i * c : Nat) : Int) + c := by rw [Int.add_mul, Int.one_mul, Int.natCast_mul]
    omega
end Gx

set_option maxHeartbeats 4000000
/-! Nx: + and - where a truth stands for its number; str of a truth; repr of small things. -/
namespace Gx
open PySem PySem.Spec PyProof.Rows L2
/-- the number of an int or a truth -/
def asI : V → Option Int
  | .int i => some i
  | .bl b => some (if b = true then 1 else 0)
  | _ => none
theorem same_sub : reflectedDiffers (.type "int") (.type "bool") "sub" = pure false := by
  unfold reflectedDiffers
  show (typeLookup (.type "bool") (dunderR "sub") >>= fun rb => typeLookup (.type "int") (dunderR "sub") >>= fun ra => pure (rb.isSome && rb != ra)) = pure false
  rw [typeLookup_type, typeLookup_type, builtinLookup_eq_fast]; kernel_rfl
section
variable {X : Cx}
theorem op_addN : OpR X (binaryOp .Add) (fun x y H Q => ∃ i j : Int, asI x = some i ∧ y = .int j ∧ Q (.int (i + j)) H) := by
  intro pins s σ H x y v u Q I rx ry h
  obtain ⟨i, j, hi, rfl, q⟩ := h
  obtain ⟨t', rfl⟩ := ry
  cases x with
  | int a => obtain ⟨t, rfl⟩ := rx; cases hi; exact PySem.P.add_int ⟨.int _, H, I.tok _, ⟨_, rfl⟩, q⟩
  | bl c =>
    cases rx; cases hi
    refine IsLeap.wpAny_binaryOp_left (op := .Add) (T := "bool") (U := "int") (by decide) rfl (typeIs_int s j t') F.fills_bool_add F.fills_int_add isSubtype_int_bool F.slot_bool_add ?_
    refine wpAny_call_entry F.slot_bool_add (s := s) rfl F.entry_int_add ?_ (F.args_int_add_2 _ _)
    show wpAny _ _ (do ret (← mkInt ((if c then 1 else 0 : Int) + j))) _ _ s
    exact wpAny_ret_mkInt ⟨by simp, .int _, H, I.tok _, ⟨_, rfl⟩, q⟩
  | _ => cases hi
theorem op_subN : OpR X (binaryOp .Sub) (fun x y H Q => ∃ i j : Int, asI x = some i ∧ asI y = some j ∧ ((∃ n, x = .int n) ∨ ∃ n, y = .int n) ∧ Q (.int (i - j)) H) := by
  intro pins s σ H x y v u Q I rx ry h
  obtain ⟨i, j, hi, hj, ho, q⟩ := h
  cases x with
  | int a =>
    obtain ⟨t, rfl⟩ := rx; cases hi
    cases y with
    | int b => obtain ⟨t', rfl⟩ := ry; cases hj; exact PySem.P.sub_int ⟨.int _, H, I.tok _, ⟨_, rfl⟩, q⟩
    | bl c =>
      cases ry; cases hj
      exact binaryOp_sub_gives (op := .Sub) (T := "int") (U := "bool") (by decide) (typeIs_int s i t) rfl F.fills_int_sub F.fills_bool_sub isSubtype_bool_int same_sub F.slot_int_sub F.entry_int_sub (F.args_int_sub_2 _ _)
        (AutoIntG7.int___sub___int_bool_0 i t c) trivial ⟨.int _, H, I.tok _, ⟨_, rfl⟩, q⟩
    | _ => cases hj
  | bl c =>
    cases rx; cases hi
    cases y with
    | int b =>
      obtain ⟨t', rfl⟩ := ry; cases hj
      refine IsLeap.wpAny_binaryOp_left (op := .Sub) (T := "bool") (U := "int") (by decide) rfl (typeIs_int s j t') F.fills_bool_sub F.fills_int_sub isSubtype_int_bool F.slot_bool_sub ?_
      refine wpAny_call_entry F.slot_bool_sub (s := s) rfl F.entry_int_sub ?_ (F.args_int_sub_2 _ _)
      show wpAny _ _ (do ret (← mkInt ((if c then 1 else 0 : Int) - j))) _ _ s
      exact wpAny_ret_mkInt ⟨by simp, .int _, H, I.tok _, ⟨_, rfl⟩, q⟩
    | _ => rcases ho with ⟨n, e⟩ | ⟨n, e⟩ <;> cases e
  | _ => cases hi
theorem call_reprA (hG : X.A.guards = some []) (hu : X.A.units + 64 < cLine) : CallR X (.builtin "repr") (fun xs H Q => ∃ (v : V) (d : PyData), xs = [v] ∧ Dp X.K H v d ∧ d.showable = true ∧ d.hasDict = false ∧ d.depth ≤ 60 ∧ d.shown.length ≤ sizeLine ∧ Q (.str d.shown) H) := by
  intro pins s σ H xs us Q I r h
  obtain ⟨v, d, rfl, hd, h1, h2, h3, h4, q⟩ := h
  cases hd with
  | non =>
    obtain ⟨u, rfl, rx⟩ := vals1 r
    cases rx
    exact PySem.P.repr_of_none ⟨.str _, H, I.tok _, ⟨_, rfl⟩, q⟩
  | bl b =>
    obtain ⟨u, rfl, rx⟩ := vals1 r
    cases rx
    exact PySem.P.repr_of_bool ⟨.str _, H, I.tok _, ⟨_, rfl⟩, q⟩
  | int i =>
    obtain ⟨u, rfl, t, rfl⟩ := vals1 r
    exact PySem.P.repr_of_int (of_decide_eq_true h1) ⟨.str _, H, I.tok _, ⟨_, rfl⟩, q⟩
  | str x =>
    obtain ⟨u, rfl, t, rfl⟩ := vals1 r
    exact PySem.P.repr_of_str ⟨.str _, H, I.tok _, ⟨_, rfl⟩, q⟩ h4
  | lst a b => exact call_reprD hG hu pins s σ H _ us Q I r ⟨_, _, rfl, .lst a b, h1, h2, h3, h4, q⟩
  | tup a b => exact call_reprD hG hu pins s σ H _ us Q I r ⟨_, _, rfl, .tup a b, h1, h2, h3, h4, q⟩
theorem call_strA : CallR X (.type "str") (fun xs H Q => ∃ i : Int, (xs = [.int i] ∧ i.natAbs.log2 < 1920 ∧ Q (.str (toString i)) H) ∨ ∃ b, xs = [.bl b] ∧ Q (.str (if b then "True" else "False")) H) := by
  intro pins s σ H xs us Q I r h
  obtain ⟨i, ⟨rfl, hz, q⟩ | ⟨b, rfl, q⟩⟩ := h
  · obtain ⟨u, rfl, t, rfl⟩ := vals1 r
    exact PySem.P.str_of_int hz ⟨.str _, H, I.tok _, ⟨_, rfl⟩, q⟩
  · obtain ⟨u, rfl, rx⟩ := vals1 r
    cases rx
    exact PySem.P.str_of_bool ⟨.str _, H, I.tok _, ⟨_, rfl⟩, q⟩
/-! rules within a comprehension: the context's K by its own name -/
theorem pg_tupK {K : PySem.W.Frag} {es : List Expr} {k n : Nat} {t : TGs} {pos : Pos} (hK : X.K = K) (hc : X.calm = true) (h : PGs X es t)
    (hn : (assignEach es X.env).length = n := by rfl) (hst : (assignEach es X.env).findIdx? (·.1) = none := by rfl) : PG X (.Tuple es k pos) (gTup K n t) := hK ▸ pg_tup hc h hn hst
theorem call_isiC {K : PySem.W.Frag} (hK : X.K = K) : CallR X (.builtin "isinstance") (rIsi K) := hK ▸ call_isi
/-- a statement, then the rest, by what stands between -/
theorem seq_via {t rest : TS} {D : Ends} {σ : L2.St} {H : Hp} (P : L2.St → Hp → Prop) (h1 : ∀ D' : Ends, (∀ σ' H', P σ' H' → D'.nx σ' H') → t D' σ H) (k : ∀ σ' H', P σ' H' → rest D σ' H') : tSeq t rest D σ H := h1 _ k
/-! lists of whole numbers as data -/
def dNats (fs : List Nat) : PyData := .list (fs.map fun i => .int ((i : Nat) : Int))
theorem dp_nats {K : PySem.W.Frag} {H : Hp} {p : Addr} {fs : List Nat} (h : SqL K H p (fs.map fun i => V.int ((i : Nat) : Int))) : Dp K H (.ref p) (dNats fs) := by
  refine .lst h ?_
  clear h
  induction fs with
  | nil => exact .nil
  | cons l ls ih => exact .cons (.int _) ih
theorem shaped_nats (fs : List Nat) : SeqAt.shaped (dNats fs) = true := by
  have h1 : ∀ fs : List Nat, PyData.canLayAll0 (fs.map fun i => PyData.int ((i : Nat) : Int)) = true := by
    intro fs
    induction fs with
    | nil => rfl
    | cons n ns ih => rw [List.map_cons, PyData.canLayAll0, ih, PyData.canLay0]; rfl
  have h2 : ∀ fs : List Nat, PyData.depthAll (fs.map fun i => PyData.int ((i : Nat) : Int)) = 0 := by
    intro fs
    induction fs with
    | nil => rfl
    | cons n ns ih => rw [List.map_cons, PyData.depthAll, ih, PyData.depth]; rfl
  unfold SeqAt.shaped dNats
  rw [PyData.canLay0, h1, Bool.true_and, PyData.depth, h2]; rfl
/-- such a list against a bare one -/
theorem ne_nats {K : PySem.W.Frag} {H : Hp} {p q : Addr} {fs : List Nat} {Q : VK} (hp : SqL K H p (fs.map fun i => V.int ((i : Nat) : Int))) (hq : SqL K H q []) (k : Q (.bl (!fs.isEmpty)) H) : rNeD K (.ref p) (.ref q) H Q := by
  refine ⟨dNats fs, .list [], dp_nats hp, .lst hq .nil, shaped_nats fs, by decide +kernel, ?_⟩
  cases fs with
  | nil => exact k
  | cons f fs => exact k
/-- a text n times, none at all too -/
theorem op_mulS0 : OpR X (binaryOp .Mult) (fun x y H Q => ∃ (z : Str) (n : Int), x = .str z ∧ y = .int n ∧ 0 ≤ n ∧ n ≤ 100000 ∧ z.length * n.toNat ≤ 1000000 ∧ Q (.str (timesS z n.toNat)) H) := by
  intro pins s σ H x y v u Q I rx ry h
  obtain ⟨z, n, rfl, rfl, h1, h2, h3, q⟩ := h
  by_cases h0 : n = 0
  · subst h0
    obtain ⟨t, rfl⟩ := rx
    obtain ⟨t', rfl⟩ := ry
    exact PySem.P.mul_str_none (by decide) (by decide) ⟨.str _, H, I.tok _, ⟨_, rfl⟩, q⟩
  · exact op_mulS pins s σ H _ _ v u Q I rx ry ⟨z, n, rfl, rfl, by omega, h2, h3, q⟩
end
end Gx

set_option maxHeartbeats 4000000
/-! En: enumerate(text). -/
namespace Gx
open PySem PySem.Spec PyProof.Rows L2
/-- the signs of x, each in a new pair with its place -/
def IteS (x : Str) : It :=
  ⟨fun i _ => i < x.cps.size, fun i H v H' => ∃ T c, v = .ref T ∧ H T = none ∧ H' = upd H T (.tup [.int (i : Nat), .str ⟨#[c]⟩]) ∧ x.cps[i]? = some c, fun i _ => i = x.cps.size⟩
theorem turn_enumS {P : Program} {w : World} {K : PySem.W.Frag} {elts : List Expr} {kk : Nat} {tpos : Pos} (x : Str) (t : Tok) (e it : Addr) :
    Turn P w K (.Tuple elts kk tpos) (IteS x) [e, it] e (fun i h => (∃ old, IsEnum h e it ((i : Nat) : Int) old) ∧ h.IsStrIter it (strIterType x) x t i ∧ e ≠ it) where
  mem := by simp
  obj := fun i h st b hb => by
    obtain ⟨⟨old, he⟩, ⟨o, ho, hc, hd⟩, _⟩ := st
    have e' : b = e ∨ b = it := by simpa using hb
    rcases e' with z | z
    · rw [z]; exact ⟨_, he, fun v q => nomatch q⟩
    · rw [z]; exact ⟨o, ho, fun v q => by rw [hd] at q; cases q⟩
  keep := fun i h h' st k => let ⟨⟨old, he⟩, ⟨o, ho, r⟩, hne⟩ := st; ⟨⟨old, k e (by simp) _ he⟩, ⟨o, k it (by simp) o ho, r⟩, hne⟩
  item := by
    intro X hP hw hK hc i pins s σ H E I hf st hg
    subst hP hw hK
    obtain ⟨⟨old, he⟩, hit, hne⟩ := st
    have hlt : i < x.cps.size := hg
    have hel : e < s.heap.objs.size := Heap.lt_size he
    have hil : it < s.heap.objs.size := by obtain ⟨_, q, _⟩ := hit; exact Heap.lt_size q
    have D := Draws.text (prog := X.prog) (w := X.w) (A := X.A.in1) (I.ok.hd hc) it x t
    refine wpAny_pyNext_enum_itemC D he hit hlt hne (by simpa using hne) fun u h' tk hP ho hit' hT hsz hk => ?_
    obtain ⟨c, tu, hx, rfl⟩ := hP
    refine ⟨_, rfl, wpAny_letOwnedTupleGo_enum (s := { s with heap := h', toks := tk + 1 }) ho fun h'' he' sb => ?_⟩
    have hT2 : h''.get? s.heap.objs.size = some { cls := .type "tuple", data := .seq #[.int i tk, .str ⟨#[c]⟩ tu] } := (sb.2 _ (Nat.ne_of_gt hel)).trans hT
    have new : ObjOk X.prog X.w (upd H s.heap.objs.size (.tup [.int (i : Nat), .str ⟨#[c]⟩])) h'' s.heap.objs.size (.tup [.int (i : Nat), .str ⟨#[c]⟩]) :=
      ⟨by show 2 ≤ sizeLine; decide, [.int i tk, .str ⟨#[c]⟩ tu], .cons ⟨_, rfl⟩ (.cons ⟨_, rfl⟩ .nil), ⟨_, hT2, rfl, _, rfl⟩⟩
    have I1 : Inv X pins σ (upd H s.heap.objs.size (.tup [.int (i : Nat), .str ⟨#[c]⟩])) { s with heap := h'', toks := tk + 1 } :=
      I.turnedNew (ch := [e, it]) (fun b ob hb q => (sb.2 b (fun z => hb (by simp [z]))).trans (hk b ob (fun z => hb (by simp [z])) (fun z => hb (by simp [z])) q)) hf (Nat.le_refl _) new
    refine ⟨.ref s.heap.objs.size, _, I1, rfl, ⟨_, c, rfl, I.hok.fresh (Nat.le_refl _), rfl, hx⟩, ⟨⟨.str ⟨#[c]⟩ tu, ?_⟩, ?_, hne⟩, fun b hb => ?_⟩
    · have e1 : ((i + 1 : Nat) : Int) = (i : Int) + 1 := by omega
      rw [e1]; exact he'
    · obtain ⟨o, q, r⟩ := hit'
      exact ⟨o, (sb.2 it (Ne.symm hne)).trans q, r⟩
    · have hb' : b < s.heap.objs.size := by
        have e' : b = e ∨ b = it := by simpa using hb
        rcases e' with z | z
        · rw [z]; exact hel
        · rw [z]; exact hil
      rw [upd_ne (Nat.ne_of_lt hb')]
      exact (hf b hb).1
  done := by
    intro X hP hw hK hc i pins s σ H E I hf st hg
    subst hP hw hK
    obtain ⟨⟨old, he⟩, hit, hne⟩ := st
    obtain ⟨f0, f1, f2, f3, f4, f5⟩ := hf it (by simp)
    have hi : i = x.cps.size := hg
    rw [hi] at hit he
    have D := Draws.text (prog := X.prog) (w := X.w) (A := X.A.in1) (I.ok.hd hc) it x t
    exact wpAny_pyNext_enum_endD D he hit fun h' eb => ⟨rfl, I.turned (t' := s.toks) (fun b o hb q => eb b o hb q) f0 f1 f3 f4 f5⟩
  self := fun A i s Q E st h => let ⟨⟨_, he⟩, _⟩ := st; wpAny_pyIter_enum he h
def iEnumS (ta : TA) : TI := fun σ H R => ta σ H fun vs H1 => ∃ x, vs = [.str x] ∧ R (IteS x) H1
theorem pi_enumS {X : Cx} {e : Expr} {ta : TA} {p pos tpos : Pos} {elts : List Expr} {kk : Nat} (hg : Gl X "enumerate") (hm : X.mg "enumerate" = none) (ha : PA X [e] ta) (hs : starEach [e] X.env = [(false, eval e X.env)] := by rfl) :
    PI X (.Tuple elts kk tpos) (.Call (.Name "enumerate" p) [e] [] pos) (iEnumS ta) := by
  refine ⟨fun pins s σ H R I h => ?_⟩
  refine Call_ (ld_blt I hg hm boot_enumerate (PyProof.Rows.callWith_type1 (thn (ha.run pos pins s σ H _ I h) fun us s1 ⟨vs, H1, I1, r1, q1⟩ => ?_) hs rfl))
  obtain ⟨x, ex, q⟩ := q1
  subst ex
  cases r1 with
  | cons r rr =>
    cases rr
    obtain ⟨t, rfl⟩ := r
    refine call_enumerate_str fun h' he hit hsz hk => wpAny_pyIter_enum he ?_
    have I2 : Inv X pins σ H1 { s1 with heap := h' } := I1.kept (t' := s1.toks) hk
    refine ⟨s1.heap.objs.size + 1, [s1.heap.objs.size + 1, s1.heap.objs.size], _, _, H1, rfl, I2, turn_enumS x t (s1.heap.objs.size + 1) s1.heap.objs.size, ⟨⟨.none, he⟩, hit, Nat.succ_ne_self _⟩, fun b hb => ?_, q⟩
    have e' : b = s1.heap.objs.size + 1 ∨ b = s1.heap.objs.size := by simpa using hb
    have hle : s1.heap.objs.size ≤ b := by
      rcases e' with z | z
      · rw [z]; exact Nat.le_add_right _ _
      · rw [z]; exact Nat.le_refl _
    exact I1.fpOk hle (I1.hok.fresh hle)
theorem walk_enumS {x : Str} : Walk (IteS x) x.cps.size (fun _ => True) (fun i H v H' => ∃ T c, v = .ref T ∧ H T = none ∧ H' = upd H T (.tup [.int (i : Nat), .str ⟨#[c]⟩]) ∧ x.cps[i]? = some c) :=
  ⟨fun _ _ hi _ => hi, fun _ _ => rfl, fun _ _ _ _ _ _ y => y⟩
end Gx

set_option maxHeartbeats 4000000
/-! Xx: raising an own error of no argument. -/
namespace Gx
open PySem PySem.Spec PyProof.Rows L2
/-- C(), an own error class without an __init__ of its own -/
theorem pmk_none {X : Cx} {C : Addr} {bmB : List Value} {B newId initId : String} {x : Str} {p pos : Pos} (facts : ExcBaseFacts B newId initId bmB) (isE : PySem.W.excIn X.K C bmB newId = true) (named : X.mg x = some (.ref C))
    (kept : PySem.W.keepIn X.K (.ref C) = true) (raises : Raises X (.ref C)) (glob : Gl X x) (plain : (x == ("__debug__" : Str)) = false := by decide) :
    PMk X (.Call (.Name x p) [] [] pos) (fun _ H1 R => R (.ref C) none H1) := by
  intro pn s1 slots H1 R J hR
  apply wpAny_Call_Name_kw
  refine ld_glob J glob named ?_ plain
  apply PySem.W.callWith_K0 J.kIn kept
  have ho := exc_obj J.kIn isE
  obtain ⟨bm, nsA, nmV, qnV, bsV, z1, z2, z3, z4, z5, z6, y0, y1, y2, y3, y4, mN, atC, nsN, noInit, tail⟩ := ho
  apply wpAny_call_exc_subT facts tail atC nsN noInit
  · intro h2 e2 made
    exact mk_of J made raises hR (J.hok.gone made.new)
end Gx

set_option maxHeartbeats 4000000
/-! Yx: an error that is caught and kept behind its suite; defs that may raise (FnX), with no repr under way. -/
namespace Gx
open PySem PySem.Spec PyProof.Rows L2

/-! ### a caught error, kept -/
/-- an exception object of the class cls, its dict at d, at a -/
def ExK (cls : Value) (d : Option Addr) (a : Addr) : HO := .ext fun h => ∃ (oe : Obj) (vs : Array Value), h.get? a = some oe ∧ Zc cls d oe ∧ oe.data = .fields vs
theorem exK_ok {P : Program} {w : World} {H : Hp} {h : Heap} {a : Addr} {cls : Value} {d : Option Addr} {oe : Obj} {vs : Array Value} (e : h.get? a = some oe) (z : Zc cls d oe) (dd : oe.data = .fields vs) : ObjOk P w H h a (ExK cls d a) :=
  ⟨⟨oe, vs, e, z, dd⟩, ⟨oe, e⟩, fun _ _ ⟨o, v, q, r⟩ k => ⟨o, v, k o q, r⟩⟩
section
variable {X : Cx} {pins : List (Addr × Obj)} {σ : L2.St} {H : Hp} {s : Shared}
theorem Inv.layK {a : Addr} {oe : Obj} {vs : Array Value} {cls : Value} {d : Option Addr} (I : Inv X pins σ H s) (ha : s.heap.get? a = some oe) (hz : Zc cls d oe) (hd : oe.data = .fields vs) (na : H a = none) (nL : a ≠ X.env.locals)
    (n0 : X.s_0.heap.get? a = none) (np : ∀ p ∈ X.pn ++ pins, p.1 ≠ a) : Inv X pins σ (upd H a (ExK cls d a)) s where
  ok := I.ok
  os := I.os
  bare := I.bare
  base := ⟨I.base.keep, I.base.slot, fun b o e n hx => by rw [upd_ne (fun z => by rw [z, n0] at e; cases e)]; exact I.base.free b o e n hx, I.base.there,
    fun b xs q => by have q' := I.base.tups b xs q; rw [upd_ne (ne_of_none q' na)]; exact q',
    fun b o u q => by have q' := I.base.frzs b o u q; rw [upd_ne (ne_of_none q' na)]; exact q',
    fun b ps q => by obtain ⟨m, q'⟩ := I.base.tbls b ps q; exact ⟨m, by rw [upd_ne (ne_of_none q' na)]; exact q'⟩⟩
  loc := I.loc
  cell := I.cell
  free := by rw [upd_ne (Ne.symm nL)]; exact I.free
  freeC := fun x c e => by
    rw [upd_ne (fun z => ?_)]
    · exact I.freeC x c e
    · obtain ⟨v, o, ho, hv⟩ := I.cell x c e
      rw [z, ha] at ho
      cases ho
      first
        | (rw [hd] at hv; cases hv)
        | (obtain ⟨hv1, hv2⟩ := hv; rw [hd] at hv2; cases hv2)
  pin := fun p hp => by
    obtain ⟨h1, h2, h3⟩ := I.pin p hp
    exact ⟨h1, by rw [upd_ne (np p hp)]; exact h2, h3⟩
  hok := HOk.laidN I.hok (fun _ _ q => q) na (exK_ok ha hz hd)
  len := I.len
end
/-- what the clause 'except x as n' wishes of an exception of the body, where that one is kept: slot i is n's -/
def wKp (K : PySem.W.Frag) (c : Value) (i : Nat) (ts : Addr → Value → Option Addr → TS) (Wout : WX) (D : Ends) : WX := fun cls d σ H =>
  ∃ b, PySem.W.exmOne K cls c = some b ∧ (b = true → ∀ a, H a = none → ts a cls d { nx := fun σ' H' => D.nx (σ'.set i none) (upd H' a (ExK cls d a)), rt := D.rt, bk := fun σ' H' => D.bk (σ'.set i none) H', ct := fun σ' H' => D.ct (σ'.set i none) H' } (σ.set i (some (.ref a))) H) ∧
    (b = false → Wout cls d σ H)
section
variable {X : Cx} {x n : Str} {c : Value} {i : Nat} {body suite : List Stmt} {b₀ : Stmt} {np pos pos' : Pos} {tb : WX → TS} {ts : Addr → Value → Option Addr → TS} {Wout : WX}
theorem ps_try_keep (hs : X.stack = X.env :: X.outer) (hf : X.env.frame = some X.env.locals) (hex : X.ex = []) (hN : X.N.Nodup) (hi : X.N[i]? = some n) (hln : X.env.kindOf n = some .local) (hc : Names X x c) (tk : Takes X Wout)
    (hb : ∀ (W : WX) (pn : List (Addr × Obj)) (xe : Value → Shared → Prop), Takes (X.tr pn xe) W → PassesOwn (model X.prog X.w) X.A X.env xe → PSs (X.tr pn xe) body (tb W))
    (hsu : ∀ (a : Addr) (oe : Obj) (cls : Value) (d : Option Addr) (pn : List (Addr × Obj)), Zc cls d oe → (∃ vs, oe.data = .fields vs) → PSs (X.suite a ((a, oe) :: pn)) (b₀ :: suite) (ts a cls d)) :
    PS X (.Try body [.ExceptHandler (some (.Name x np)) (some n) (b₀ :: suite) pos'] [] [] pos) (fun D σ H => tb (wKp X.K c i ts Wout D) D σ H) := by
  constructor
  intro pins s σ H D I h
  have ok := I.ok
  have hfr : X.A.frames = some (X.env :: X.outer) := by rw [ok.frames, hs]
  have hloc : Loc X.env.scope n := .inl hln
  apply wpAny_Try_except
  refine wpAny_mono ((hb (wKp X.K c i ts Wout D) (X.pn ++ pins) (fun e s₁ => wpAny (model X.prog X.w) X.A (noteFrame e X.env) (fun _ s₂ => wpAny (model X.prog X.w) X.A (setFlight e none) (fun _ s₃ =>
    wpAny (model X.prog X.w) X.A (handleBy e X.env [.ExceptHandler (some (.Name x np)) (some n) (b₀ :: suite) pos']) (SP X pins D) X.xe s₃) X.xe s₂) X.xe s₁) (fun u s' xx => ?_) PassesOwn.looking).run [] s σ H D (I.toTry _) h) (fun f s1 hsp => ?_) (fun e s1 he => he)
  · obtain ⟨a, B, sI, pins', σ', H', cls, d, rfl, J', nb, up, sky, na, os, ag, b, hb1, hyes, hno⟩ := xx
    have J : Inv X pins σ' H' sI := J'.ofTry ok
    have sky' : Sky B (X.env :: X.outer) a (Zc cls d) X.env.locals s'.heap := hs ▸ sky
    show wpAny (model X.prog X.w) X.A (noteFrame (.ref a) X.env) _ _ _
    apply Sky.land Zc.steady hfr hf sky'
    intro h3 fl3 up3
    have J3 : Inv X pins σ' H' { s' with heap := h3 } := J.landed nb fl3.1 (up.trans up3) os ag
    obtain ⟨oe3, vs3, he3, hz3, hd3⟩ := fl3.there
    have notFr : ∀ {h : Heap} {o : Obj} {vs : Array Value}, h.FunFrames B (X.env :: X.outer) → h.get? a = some o → o.data = .fields vs → a ∉ frs (X.env :: X.outer) := by
      intro h o vs ff e dd hm
      obtain ⟨_, o', e', hnf⟩ := ff.mem hm
      cases e.symm.trans e'
      exact hnf _ dd
    have nfr := notFr fl3.2.2.1 he3 hd3
    have nL : a ≠ X.env.locals := fun z => nfr (List.mem_filterMap.mpr ⟨X.env, List.mem_cons_self, by rw [hf, z]⟩)
    have nF : a ∉ X.fs := fun hm => by
      obtain ⟨e, he, q⟩ := List.mem_filterMap.mp hm
      exact nfr (List.mem_filterMap.mpr ⟨e, List.mem_cons_of_mem _ he, q⟩)
    have nS : a ∉ frs X.stack := by rw [hs]; exact nfr
    have n0 : X.s_0.heap.get? a = none := by
      cases e : X.s_0.heap.get? a with
      | none => rfl
      | some o =>
        obtain ⟨o', e'⟩ := J.base.there a o e (by rw [hex]; exact List.not_mem_nil)
        have e2 := nb a o' e' nS
        rw [fl3.2.1] at e2
        cases e2
    have npin : ∀ p ∈ X.pn ++ pins, p.1 ≠ a := fun p hp z => by
      obtain ⟨h1, h2, h3, h4, h5⟩ := J.pin p hp
      have e2 := nb p.1 p.2 h1 (by rw [z]; exact nS)
      rw [z, fl3.2.1] at e2
      cases e2
    have S3 := J3.suite he3 hd3 na nL nF
    apply wpAny_handleBy_cons (codeAny_handlers_test ?_) (by intro q; cases q)
    have LT : PySem.W.Looks (model X.prog X.w) h3 (typeOf (.ref a)) cls := fun A Q E s k q => wpAny_typeOf_ref (k _ _ he3) (by rw [hz3.1]; exact q)
    have LM := PySem.W.exm_one (M := model X.prog X.w) (J3.kIn) LT hb1
    have test : ∀ {Q : Value → Shared → Prop} {E : Value → Shared → Prop}, Q c { s' with heap := h3 } → wpAny (model X.prog X.w) (X.A.mark (some (.ref a))) (eval (.Name x np) X.env) Q E { s' with heap := h3 } := by
      intro Q E q
      obtain ⟨hg, hdbg, hm | ⟨hm, hv, hnn⟩⟩ := hc
      · exact ld_glob (X := X.suite a ((a, oe3) :: (X.pn ++ pins))) S3 hg hm q hdbg
      · exact ld_blt (X := X.suite a ((a, oe3) :: (X.pn ++ pins))) S3 hg hm hv q hnn hdbg
    refine test (LM.here ?_)
    cases b with
    | true =>
      apply codeAny_handlers_suite_as
      apply HandSPX.lands_againZ fl3
      intro h4 fl4 up4
      have J4 : Inv X pins σ' H' { s' with heap := h4 } := J.landed nb fl4.1 ((up.trans up3).trans up4) os ag
      obtain ⟨oe4, vs4, he4, hz4, hd4⟩ := fl4.there
      have S4 := J4.suite he4 hd4 na nL nF
      refine store_ok (X := X.suite a ((a, oe4) :: (X.pn ++ pins))) (v := .ref a) S4 hN hi hloc rfl (fun s5 S5 => ?_) (.inr hln)
      refine wpAny_mono ((hsu a oe4 cls d (X.pn ++ pins) hz4 ⟨_, hd4⟩).run [] s5 _ H' _ S5 (hyes rfl a na)) (fun f s6 hsp => ?_) (fun _ _ z => False.elim z)
      have fine : ∀ {σ6 : L2.St} {H6 : Hp} {Q : Shared → Prop}, Inv (X.suite a ((a, oe4) :: (X.pn ++ pins))) [] σ6 H6 s6 → (∀ s7, Inv X pins (σ6.set i none) H6 s7 → Q s7) →
          wpAny (model X.prog X.w) X.A (do bindName X.env n .none; unbindBehindTheSuite X.env n pos') (fun _ s7 => Q s7) X.xe s6 := by
        intro σ6 H6 Q S6 hq
        exact gone_ok (S6.unsuite ok) hN hi hln hq
      cases f with
      | next =>
        obtain ⟨σ6, H6, S6, q6⟩ := hsp
        obtain ⟨g1, g2, _⟩ := S6.pin (a, oe4) (List.mem_append.mpr (.inl List.mem_cons_self))
        have L6 := Inv.layK (S6.unsuite ok) g1 hz4 hd4 g2 nL n0 npin
        exact gone_ok L6 hN hi hln fun s7 J7 => ⟨_, _, J7, q6⟩
      | brk =>
        obtain ⟨σ6, H6, S6, q6⟩ := hsp
        exact fine S6 fun s7 J7 => ⟨_, _, J7, q6⟩
      | cont =>
        obtain ⟨σ6, H6, S6, q6⟩ := hsp
        exact fine S6 fun s7 J7 => ⟨_, _, J7, q6⟩
      | ret u =>
        obtain ⟨v6, σ6, H6, S6, r6, q6⟩ := hsp
        exact fine S6 fun s7 J7 => ⟨_, _, _, J7, r6, q6⟩
    | false =>
      show wpAny _ X.A (handleBy (.ref a) X.env []) _ _ _
      apply wpAny_handleBy_nil
      obtain ⟨k1, k2, k3, oe, vs, T, oT, ts', he, hz, hd, h1, hr⟩ := id fl3
      unfold PySem.passOn
      refine wpAny_bind (wpAny_field he hd h1 ?_)
      rw [if_neg (show ¬ ((Value.ref T == Value.none) = true) from by simp)]
      have fin : wpAny (model X.prog X.w) X.A (setFlight (.ref a) X.env.frame) (fun _ s4 => wpAny (model X.prog X.w) X.A (throw (.ref a) : Sem Flow) (SP X pins D) X.xe s4) X.xe { s' with heap := h3 } := by
        rw [hf]
        apply HandSPX.setFlight_upZ fl3
        intro h4 hh4 up4
        refine wpAny_throw (tk _ _ ?_)
        exact ⟨a, B, sI, pins, σ', H', cls, d, rfl, J, nb, (up.trans up3).trans up4, .inr (.inr (by rw [hs]; exact hh4)), na, os, ag, hno rfl⟩
      first
        | exact wpAny_bind (wpAny_pure (wpAny_bind fin))
        | exact wpAny_bind fin
  · cases f with
    | next =>
      obtain ⟨σ', H', J', q⟩ := hsp
      exact wpAny_execs_nil ⟨σ', H', J'.ofTry ok, q⟩
    | brk =>
      obtain ⟨σ', H', J', q⟩ := hsp
      exact ⟨σ', H', J'.ofTry ok, q⟩
    | cont =>
      obtain ⟨σ', H', J', q⟩ := hsp
      exact ⟨σ', H', J'.ofTry ok, q⟩
    | ret u =>
      obtain ⟨v, σ', H', J', r, q⟩ := hsp
      exact ⟨v, σ', H', J'.ofTry ok, r, q⟩
end
end Gx

set_option maxHeartbeats 4000000
/-! Yy: isinstance and fields of a caught error that is kept. -/
namespace Gx
open PySem PySem.Spec PySem.Calls PyProof.Rows L2
section
open PySem.W
variable {prog : Program} {w : World} {A : Around} {E : Value → Shared → Prop} {s : Shared} {K : Frag} {x D : Addr} {ox : Obj} {od : Option Obj}
theorem findObj_dataA {C : Addr} {name : Str} {a g : Value} (hc : (clsIn K C).isSome = true) (ha : findIn K (.ref C) name = some (some a)) (hg : specialIn K a "__get__" = some (some g)) (ht : takesIn K a = some true) : findObj K C od name = some (.bind g a) := by
  obtain ⟨cd, hc⟩ := Option.isSome_iff_exists.mp hc
  simp [findObj, hc, ha, hg, ht]
theorem class_ofK {Q : Option Value → Shared → Prop} (C : ExcC K D) (X : K.In s.heap) (I : InstAt s.heap x ox D od) (h : Q (some (.ref D)) { s with toks := s.toks + 1 }) : wpAny (model prog w) A (getAttr? (.ref x) "__class__") Q E s := by
  have hf : findObj K D od "__class__" = some (.bind (.builtin "getset_descriptor.__get__") (.builtin "object.__class__")) := findObj_dataA (by obtain ⟨cd, hc, _⟩ := any_some C.hd; rw [hc]; rfl) C.ha C.hn C.ht
  obtain ⟨hp, g, d, t, os⟩ := s
  have L0 := I.type (M := model prog w)
  have L1 := looks_findIn (M := model prog w) X C.hg
  have L2 := looks_findIn (M := model prog w) X C.hk
  have L3 := looks_find (M := model prog w) X I hf
  have isB : Looks (model prog w) hp (isInstance (.ref x) (.type "BaseException")) true := L0.andThen (looks_subIn X C.hs)
  have n2 : (Value.builtin "BaseException.__getattribute__" == Value.builtin "object.__getattribute__") = false := by decide +kernel
  have n1 : (onTheHeap (Value.ref D) && Value.builtin "BaseException.__getattribute__" == Value.builtin "object.__getattribute__") = false := by rw [n2]; rfl
  unfold getAttr? getAttrBy? getAttrBy
  apply wpAny_bind; apply wpAny_mkText; apply wpAny_bind; apply wpAny_attempt; apply wpAny_holding
  refine wpAny_bind (L0.at (wpAny_bind (L1.at ?_)))
  show wpAny _ _ (if (onTheHeap (Value.ref D) && Value.builtin "BaseException.__getattribute__" == Value.builtin "object.__getattribute__") = true then _ else _) _ _ _
  rw [n1, if_neg Bool.false_ne_true]
  unfold getAttrByItsOwn hookBefore
  apply wpAny_bind
  rw [if_pos (show onTheHeap (Value.ref D) = true from rfl)]
  apply L2.at
  apply wpAny_bind; apply wpAny_attempt; apply wpAny_holding
  unfold callGetattribute
  rw [show (false && onTheHeap (Value.builtin "BaseException.__getattribute__")) = false from rfl, if_neg Bool.false_ne_true]
  unfold boundAndCalled
  rw [PySem.F.excAttr_ValueError.ga.bind (.ref x)]
  refine wpAny_bind (wpAny_pure ?_)
  show wpAny _ _ (call (.builtin "BaseException.__getattribute__") [.ref x, .str "__class__" t]) _ _ _
  apply wpAny_call
  refine codeAny_call_builtin PySem.F.excAttr_ValueError.ga.plain PySem.F.entry_bexc_ga ?_
  refine @check_slot (model prog w) _ _ ⟨hp, g, d, t + 1, os⟩ "BaseException.__getattribute__" "BaseException" "__getattribute__" (.ref x) [.str "__class__" t] [] _ (by decide +kernel) (by decide +kernel) isB (PySem.F.args_bexc_ga (.ref x) (.str "__class__" t)) ?_
  unfold Builtin.«object.__getattribute__»
  refine wpAny_bind (wpAny_of_eq (a := ((Value.ref x : Value), [Value.str "__class__" t])) (by first | rfl | (simp only [slotArgs]; rfl)) ?_)
  refine wpAny_bind (wpAny_pure (wpAny_bind (L0.at (wpAny_bind (L3.at ?_)))))
  show wpAny _ _ (holding [Value.builtin "object.__class__"] (call (.builtin "getset_descriptor.__get__") [.builtin "object.__class__", .ref x, .ref D]) >>= ret) _ _ _
  refine wpAny_bind (wpAny_holding (wpAny_call (class_get (s := ⟨hp, g, d, t + 1, os⟩) (ox := ox) (od := od) X I C.hm ?_)))
  apply wpAny_pure
  show wpAny _ _ (handedOut (.ref D)) _ _ _
  rw [handedOut_of (v := .ref D) rfl]
  first
    | exact wpAny_pure (wpAny_pure h)
    | exact wpAny_pure h
    | exact wpAny_pure (wpAny_bind (wpAny_pure (wpAny_pure h)))
theorem kitK (C : ExcC K D) : KitX K (.ref x) (.ref D) (fun h => ∃ ox od, InstAt h x ox D od) where
  ty := fun _ _ _ ⟨_, _, I⟩ => I.type
  it := fun _ _ X _ => by
    obtain ⟨cdD, hcD, _⟩ := any_some C.hd
    unfold clsIn at hcD
    split at hcD
    · rename_i c' d' cd' sl' ho
      intro A' Q' E' s' k q
      unfold isType loadHead
      exact wpAny_bind (wpAny_loadPart (k _ _ (X _ _ ho)) (wpAny_pure q))
    · cases hcD
  ne := fun h tp dd its n sl X htp => by
    obtain ⟨cdD, hcD, _⟩ := any_some C.hd
    refine Bool.eq_false_iff.mpr fun q => ?_
    cases Value.ref.inj (beq_iff_eq.mp q)
    unfold clsIn at hcD
    split at hcD
    · rename_i c' d' cd' sl' ho
      cases (X _ _ ho).symm.trans htp
    · cases hcD
  ca := fun X I k => by
    obtain ⟨_, _, I⟩ := I
    exact class_ofK C X I k
end
/-- a kept error's object, as its dict stands -/
def KeptE (H : Hp) (a D : Addr) : Prop := ∃ d, H a = some (ExK (.ref D) d a) ∧ (d = none ∨ ∃ dd fs, d = some dd ∧ H dd = some (.xd fs))
theorem kept_inst {X : Cx} {pins : List (Addr × Obj)} {σ : L2.St} {H : Hp} {s : Shared} {a D : Addr} (I : Inv X pins σ H s) (h : KeptE H a D) : ∃ ox od, PySem.W.InstAt s.heap a ox D od := by
  obtain ⟨d, ha, hd⟩ := h
  obtain ⟨⟨oe, vs, h1, h2, h3⟩, _⟩ := (show ObjOk X.prog X.w H s.heap a (ExK (.ref D) d a) from I.hok a _ ha)
  rcases hd with rfl | ⟨dd, fs, rfl, e⟩
  · exact ⟨oe, none, h1, h2.1, by unfold PySem.W.notCls; rw [h3], by rw [h2.2]; trivial⟩
  · obtain ⟨mA, hns, hr⟩ := (show ObjOk X.prog X.w H s.heap dd (.xd fs) from I.hok dd _ e)
    obtain ⟨od, ho, hl⟩ := lookIn_ns hns
    exact ⟨oe, some od, h1, h2.1, by unfold PySem.W.notCls; rw [h3], by rw [h2.2]; exact ho⟩
/-- isinstance(e, C), e a kept error -/
def rIsK (K : PySem.W.Frag) : List V → Hp → VK → Prop := fun xs H Q => ∃ (a D : Addr) (c : V) (u : Value) (b : Bool), xs = [.ref a, c] ∧ KeptE H a D ∧ ExcC K D ∧ ClsV c u ∧ PySem.W.kitOne K (.ref D) u = some b ∧ Q (.bl b) H
/-- isinstance(e, (C1, C2, ..)) -/
def rIsKT (K : PySem.W.Frag) : List V → Hp → VK → Prop := fun xs H Q => ∃ (a D tp : Addr) (cs : List V) (us : List Value) (b : Bool), xs = [.ref a, .ref tp] ∧ H tp = some (.tup cs) ∧ Paired ClsV cs us ∧ KeptE H a D ∧ ExcC K D ∧ PySem.W.kitAny K (.ref D) us = some b ∧ Q (.bl b) H
section
variable {X : Cx}
theorem call_isK : CallR X (.builtin "isinstance") (rIsK X.K) := by
  intro pins s σ H xs us Q I r h
  obtain ⟨a, D, c, u, b, rfl, hk, C, k, e, q⟩ := h
  obtain ⟨u1, u2, rfl, r1, r2⟩ := vals2 r
  cases k.eq r2
  cases (show u1 = Value.ref a from r1)
  exact PySem.W.kia_one (kitK C) I.kIn (kept_inst I hk) e (fun z => nomatch z) fun tk => ⟨.bl b, H, I.tok tk, rfl, q⟩
theorem call_isKT : CallR X (.builtin "isinstance") (rIsKT X.K) := by
  intro pins s σ H xs us Q I r h
  obtain ⟨a, D, tp, cs, ws, b, rfl, hT, k, hk, C, e, q⟩ := h
  obtain ⟨u1, u2, rfl, r1, r2⟩ := vals2 r
  cases (show u2 = Value.ref tp from r2)
  cases (show u1 = Value.ref a from r1)
  obtain ⟨_, its, rv, o, h1, h2, n, h3⟩ := (show ObjOk X.prog X.w H s.heap tp (.tup cs) from I.hok tp _ hT)
  cases ClsV.all k rv
  obtain ⟨oc, od, dt, sl⟩ := o
  simp only at h2 h3
  subst h2 h3
  exact PySem.W.kia_tup (kitK C) I.kIn (kept_inst I hk) h1 e (fun z => nomatch z) fun tk => ⟨.bl b, H, I.tok tk, rfl, q⟩
end
/-- e.f, e a kept error -/
def tKf (K : PySem.W.Frag) (f : Str) (te : TE) : TE := fun σ H Q => te σ H fun x H1 => ∃ (a C dd : Addr) (fs : List (Str × V)) (v : V), x = .ref a ∧ XfC K C ∧ PySem.W.findIn K (.ref C) f = some none ∧ H1 a = some (ExK (.ref C) (some dd) a) ∧ H1 dd = some (.xd fs) ∧ fs.lookup f = some v ∧ Q v H1
theorem pe_kf {X : Cx} {e : Expr} {te : TE} {pos : Pos} {n : Str} (he : PE X e te) (hb : attributeBase e n X.env (eval e X.env) = eval e X.env := by rfl) : PE X (.Attribute e n pos) (tKf X.K n te) := by
  refine ⟨fun pins s σ H Q I h => ?_⟩
  refine attr_of hb (thn (he.run pins s σ H _ I h) fun u s1 hh => ?_)
  obtain ⟨x, H1, I1, rx, a, C, dd, fs, v, rfl, T, hno, ha, ea, l, q⟩ := hh
  obtain rfl : u = Value.ref a := rx
  obtain ⟨⟨oe, vs, h1, h2, h3⟩, _⟩ := (show ObjOk X.prog X.w H1 s1.heap a (ExK (.ref C) (some dd) a) from I1.hok a _ ha)
  obtain ⟨mA, hns, hr⟩ := (show ObjOk X.prog X.w H1 s1.heap dd (.xd fs) from I1.hok dd _ ea)
  obtain ⟨od, ho, hl⟩ := lookIn_ns hns
  obtain ⟨u, hu, ru⟩ := RelO.some_of (v := v) (o := mA n) (by rw [← l]; exact hr n)
  have J : PySem.W.InstAt s1.heap a oe C (some od) := ⟨h1, h2.1, by unfold PySem.W.notCls; rw [h3], by rw [h2.2]; exact ho⟩
  exact HandSPX.exc_get I1.kIn J T.ga T.gg T.exC (PySem.W.findObj_own T.hdC hno rfl (by rw [hl, hu])) (handed_of ru) ⟨v, H1, I1.tok _, ru, q⟩

/-! ### defs that may raise -/
/-- a def's promise where no repr is under way around the call, and it may raise -/
structure FnX (P : Program) (w : World) (K : PySem.W.Frag) (mg : Str → Option Value) (base : Heap) (k : Nat) (f : Addr) (fd : FuncData) (ps : List Str) (sp : Sp) : Prop where
  len : ∀ vs H Q E, sp vs H Q E → vs.length = ps.length
  go : ∀ (A : Around) (outer : List Env) (s : Shared) (H : Hp) (args : Args) (us : List Value) (vs : List V) (Q : VK) (E : XK), A.guards = some [] → Room k A → Env0 P w K mg base A outer s H →
    BindsTo s fd args (ps.zip us) → Vals vs us → sp vs H Q E → codeAny (model P w) A (.call (.ref f) args) (CR (L2.CX P w) outer P w H s Q E) s
theorem fnX_of {P : Program} {w : World} {K : PySem.W.Frag} {mg : Str → Option Value} {base : Heap} {x qual : Str} {st : Stmt} {f : Addr} {fd : FuncData} {N ps : List Str} {k : Nat} {sp : Sp} (F : Fun K x qual st f fd) (S : FnScope N ps (defScope st)) (len : ∀ vs H Q E, sp vs H Q E → vs.length = ps.length)
    (body : ∀ (cdv : Value) (A : Around) (outer : List Env) (s : Shared) (H : Hp) (vs : List V) (Q : VK) (E : XK), (A.deeper (envOfC qual (defScope st) s.heap.objs.size f cdv)).guards = some [] →
      Room k (A.deeper (envOfC qual (defScope st) s.heap.objs.size f cdv)) → sp vs H Q E →
      ∃ t, PSs (cxOf (L2.CX P w) P w K mg base N qual (defScope st) f cdv A outer s H E) (defBody st) t ∧ t { nx := fun _ H' => Q .non H', rt := Q } (start N vs) H) :
    FnX P w K mg base (k + 1) f fd ps sp := by
  obtain ⟨oc, od, kV, doc, pm, an, cdv, ct, osl, rfl, lk, hcd⟩ := F.ex
  constructor
  · exact len
  intro A outer s H args us vs Q E hG hr e0 hb r hsp
  have hl := len _ _ _ _ hsp
  have up : ∀ b o, base.get? b = some o → s.heap.get? b = some o := fun b o e => (e0.bs b o e).1
  have kin : K.In s.heap := e0.mod.kin.keeps up
  have nolim : s.heap.NoLimit := e0.mod.nolimit.keeps up
  have hkind : ((ps.zip us).all fun y => (defScope st).names.lookup y.1 == some .local || (defScope st).names.lookup y.1 == some .cell) = true := by
    rw [List.all_eq_true]
    rintro ⟨n, v⟩ hy
    rcases S.par n (List.of_mem_zip hy).1 with q | q
    · simp [q]
    · simp [q]
  obtain ⟨t, ht, hq⟩ := body cdv A outer s H vs Q E hG (hr.deeper _) hsp
  refine Att.call_fn kin nolim lk hcd hr.depth hb hkind (fun s1 x1 => ?_) S.co S.gen S.kind
  have I : Inv (cxOf (L2.CX P w) P w K mg base N qual (defScope st) f cdv A outer s H E) [] (start N vs) H s1 := inv_start S hr.hd e0 hl r x1
  refine wpAny_mono (ht.run [] s1 (start N vs) H _ I hq) ?_ (fun e s' hs => hs)
  intro fl s' hs
  cases fl with
  | ret u => obtain ⟨v, σ', H', J, rv, q⟩ := hs; exact ⟨v, H', J.os, J.bare, J.base, J.hok, rv, q⟩
  | next => obtain ⟨σ', H', J, q⟩ := hs; exact ⟨V.non, H', J.os, J.bare, J.base, J.hok, rfl, q⟩
  | brk => obtain ⟨_, _, _, q⟩ := hs; exact q.elim
  | cont => obtain ⟨_, _, _, q⟩ := hs; exact q.elim
section
variable {X : Cx} {k n : Nat} {f : Addr} {fd : FuncData} {ps ks : List Str} {sp : Sp} {E : L2.St → XK} {x : Str} {p pos : Pos} {e : Expr} {es : List Expr} {kws : List Keyword} {t tk : TA} {g : List Value → List Value → List Value} {gV : List V → List V → List V}
theorem after_callX {pins : List (Addr × Obj)} {σ : L2.St} {H : Hp} {s : Shared} {Q : VK} {a : Args} {E : XK} (hx : PassesAt (L2.CX X.prog X.w) X σ E) (I : Inv X pins σ H s) (h : codeAny (model X.prog X.w) X.A (.call (.ref f) a) (CR (L2.CX X.prog X.w) X.stack X.prog X.w H s Q E) s) :
    codeAny (model X.prog X.w) X.A (.call (.ref f) a) (fun r s' => match r with | .ok (.ret u) => EP X pins σ Q u s' | .ok _ => False | .error e => X.xe e s') s := by
  refine codeAny_mono h ?_
  intro r s' hq
  match r, hq with
  | .ok (.ret u), hq => exact I.after hq
  | .ok .next, hq => exact False.elim hq
  | .ok .brk, hq => exact False.elim hq
  | .ok .cont, hq => exact False.elim hq
  | .error e, hq => exact hx pins H s e s' I hq
/-- f(e, ..), f may raise -/
def tGoX (sp : Sp) (E : L2.St → XK) (t : TA) : TE := fun σ H Q => t σ H fun vs H1 => sp vs H1 Q (E σ)
theorem pe_goX (F : FnX X.prog X.w X.K X.mg X.base k f fd ps sp) (hG : X.A.guards = some []) (hr : Room k X.A) (hg : Gl X x) (hm : X.mg x = some (.ref f)) (hk : PySem.W.keepIn X.K (.ref f) = true) (hb : Binds X.K fd ps []) (hx : ∀ σ, PassesAt (L2.CX X.prog X.w) X σ (E σ))
    (ha : PA X (e :: es) t) (hdb : (x == ("__debug__" : Str)) = false := by decide) (he : starEach (e :: es) X.env = (false, eval e X.env) :: starEach es X.env := by rfl)
    (hpl : (backTo pos (starEach es X.env)).any (·.1) = false := by rfl) : PE X (.Call (.Name x p) (e :: es) [] pos) (tGoX sp E t) := by
  constructor
  intro pins s σ H Q I h
  refine wpAny_Call_Name_kw (ld_glob I hg hm ?_ hdb)
  refine PySem.W.callWith_K (h₀ := X.base) I.ok.mod.kin hk (thn (ha.run pos pins s σ H _ I h) ?_) he hpl
  rintro us s1 ⟨vs, H1, I1, r, q⟩
  refine ⟨I1.kIn, ?_⟩
  have hl : (us ++ []).length = ps.length := by rw [List.append_nil, ← r.length]; exact F.len _ _ _ _ q
  have b := hb s1 us I1.kIn hl
  rw [List.append_nil] at b
  refine wpAny_call (codeAny_mono (after_callX (pins := pins) (σ := σ) (hx σ) I1 (F.go X.A X.stack s1 H1 ⟨us, []⟩ us vs Q (E σ) hG hr I1.env0 b r q)) fun r s' hq => ?_)
  match r, hq with
  | .ok (.ret u), hq => exact hq
  | .ok .next, hq => exact False.elim hq
  | .ok .brk, hq => exact False.elim hq
  | .ok .cont, hq => exact False.elim hq
  | .error e, hq => exact hq
theorem runXK {pins : List (Addr × Obj)} {σ : L2.St} {H : Hp} {s : Shared} {Q : VK} {us ws : List Value} {vs zs : List V} {E : XK} (F : FnX X.prog X.w X.K X.mg X.base k f fd ps sp) (hG : X.A.guards = some []) (hr : Room k X.A) (hb : KBn X.K fd ps n ks g gV) (hx : PassesAt (L2.CX X.prog X.w) X σ E)
    (I : Inv X pins σ H s) (r : Vals vs us) (rz : Vals zs ws) (l1 : vs.length = n) (l2 : zs.length = ks.length) (h : sp (gV vs zs) H Q E) : wpAny (model X.prog X.w) X.A (call (.ref f) us (ks.zip ws)) (EP X pins σ Q) X.xe s := by
  have b := hb.to s us ws I.kIn (r.length.symm.trans l1) (rz.length.symm.trans l2)
  refine wpAny_call (codeAny_mono (after_callX (pins := pins) (σ := σ) hx I (F.go X.A X.stack s H ⟨us, ks.zip ws⟩ (g us ws) (gV vs zs) Q E hG hr I.env0 b (hb.rel r rz) h)) fun r s' hq => ?_)
  match r, hq with
  | .ok (.ret u), hq => exact hq
  | .ok .next, hq => exact False.elim hq
  | .ok .brk, hq => exact False.elim hq
  | .ok .cont, hq => exact False.elim hq
  | .error e, hq => exact hq
def tGoXK (n m : Nat) (sp : Sp) (gV : List V → List V → List V) (E : L2.St → XK) (t tk : TA) : TE := fun σ H Q => t σ H fun vs H1 => tk σ H1 fun zs H2 => vs.length = n ∧ zs.length = m ∧ sp (gV vs zs) H2 Q (E σ)
/-- f(e, .., k = v, ..), f may raise -/
theorem pe_goXK (F : FnX X.prog X.w X.K X.mg X.base k f fd ps sp) (hG : X.A.guards = some []) (hr : Room k X.A) (hg : Gl X x) (hm : X.mg x = some (.ref f)) (hk : PySem.W.keepIn X.K (.ref f) = true) (hb : KBn X.K fd ps n ks g gV) (hx : ∀ σ, PassesAt (L2.CX X.prog X.w) X σ (E σ))
    (ha : PA X (e :: es) t) (hkw : PK X kws tk) (hall : (backToKw pos (keywordEach kws X.env)).all (·.1.isSome) = true := by rfl) (hks : (backToKw pos (keywordEach kws X.env)).filterMap (·.1) = ks := by rfl)
    (hdb : (x == ("__debug__" : Str)) = false := by decide) (he : starEach (e :: es) X.env = (false, eval e X.env) :: starEach es X.env := by rfl)
    (hpl : ((backTo pos (starEach (e :: es) X.env)).any (·.1) || (backToKw pos (keywordEach kws X.env)).any (·.1.isNone)) = false := by rfl) : PE X (.Call (.Name x p) (e :: es) kws pos) (tGoXK n ks.length sp gV E t tk) := by
  constructor
  intro pins s σ H Q I h
  refine wpAny_Call_Name_kw (ld_glob I hg hm ?_ hdb)
  refine PySem.W.callWith_KW (h₀ := X.base) I.ok.mod.kin hk hall (thn (ha.run pos pins s σ H _ I h) ?_) hpl he
  rintro us s1 ⟨vs, H1, I1, r, q⟩
  refine thn (hkw.run pos pins s1 σ H1 _ I1 q) ?_
  rintro ws s2 ⟨zs, H2, I2, rz, l1, l2, q2⟩
  refine ⟨I2.kIn, ?_⟩
  rw [hks]
  exact runXK F hG hr hb (hx σ) I2 r rz l1 l2 q2
/-- f(k = v, ..), f may raise -/
theorem pe_goXK0 (F : FnX X.prog X.w X.K X.mg X.base k f fd ps sp) (hG : X.A.guards = some []) (hr : Room k X.A) (hg : Gl X x) (hm : X.mg x = some (.ref f)) (hk : PySem.W.keepIn X.K (.ref f) = true) (hb : KBn X.K fd ps 0 ks g gV) (hx : ∀ σ, PassesAt (L2.CX X.prog X.w) X σ (E σ))
    (hkw : PK X kws tk) (hall : (backToKw pos (keywordEach kws X.env)).all (·.1.isSome) = true := by rfl) (hks : (backToKw pos (keywordEach kws X.env)).filterMap (·.1) = ks := by rfl)
    (hdb : (x == ("__debug__" : Str)) = false := by decide)
    (hpl : ((backTo pos (starEach [] X.env)).any (·.1) || (backToKw pos (keywordEach kws X.env)).any (·.1.isNone)) = false := by rfl) : PE X (.Call (.Name x p) [] kws pos) (tGoXK 0 ks.length sp gV E tNil tk) := by
  constructor
  intro pins s σ H Q I h
  refine wpAny_Call_Name_kw (ld_glob I hg hm ?_ hdb)
  refine PySem.W.callWith_KW0 (h₀ := X.base) I.ok.mod.kin hk hall ?_ hpl
  refine thn (hkw.run pos pins s σ H _ I h) ?_
  rintro ws s2 ⟨zs, H2, I2, rz, l1, l2, q2⟩
  refine ⟨I2.kIn, ?_⟩
  rw [hks]
  exact runXK (us := []) F hG hr hb (hx σ) I2 .nil rz l1 l2 q2
end
end Gx
namespace Gx
open PySem PySem.Spec PySem.Calls PyProof.Rows L2
/-- an own error class straight under ValueError, without an __init__ of its own -/
structure ErrV (K : PySem.W.Frag) (C : Addr) : Prop where
  isE : PySem.W.excIn K C [.type "ValueError", .type "Exception", .type "BaseException", .type "object"] "ValueError.__new__" = true
  kept : PySem.W.keepIn K (.ref C) = true
  ty : PySem.W.typeIn K (.ref C) = some (.type "type")
  self : PySem.W.subIn K (.ref C) (.ref C) = some true
  exc : ExcC K C
theorem ErrV.raises {X : Cx} {C : Addr} (e : ErrV X.K C) : Raises X (.ref C) := raises_own e.exc.hs e.ty
theorem ErrV.exm {K : PySem.W.Frag} {C : Addr} (e : ErrV K C) : PySem.W.exmOne K (.ref C) (.ref C) = some true := PySem.W.exm_ref e.exc.hs e.exc.hd e.ty e.self
/-- where a call can't raise -/
theorem pass0 {X : Cx} : ∀ σ : L2.St, PassesAt (L2.CX X.prog X.w) X σ ((fun _ => E0) σ) := fun _ _ _ _ _ _ _ h => by
  obtain ⟨_, _, _, _, _, _, _, _, _, _, _, _, z⟩ := h
  exact z.elim
/-- (a, b, ..) = a tuple or a list of that length -/
def gAnyS (K : PySem.W.Frag) (n : Nat) (t : TGs) : TG := fun v σ H Q => ∃ a xs, v = .ref a ∧ (SqT K H a xs ∨ SqL K H a xs) ∧ xs.length = n ∧ t xs σ H Q
theorem pg_anyS {X : Cx} {pos : Pos} {es : List Expr} {k : Nat} {t : TGs} {n : Nat} (hc : X.calm = true) (h : PGs X es t)
    (hn : (assignEach es X.env).length = n := by rfl) (hst : (assignEach es X.env).findIdx? (·.1) = none := by rfl) : PG X (.Tuple es k pos) (gAnyS X.K n t) := by
  refine ⟨fun pins s σ H v u Q I r hw => ?_⟩
  obtain ⟨a, xs, e1, hq | hq, hl, hw⟩ := hw
  · exact (pg_tup hc h hn hst).run pins s σ H v u Q I r ⟨a, xs, e1, hq, hl, hw⟩
  · exact (pg_unl hc h hn hst).run pins s σ H v u Q I r ⟨a, xs, e1, hq, hl, hw⟩
theorem kit_own {K : PySem.W.Frag} {t : Value} {C : Addr} {b : Bool} (ne : (t == .ref C) = false) (hd : PySem.W.hasDictIn K C = true) (ty : PySem.W.typeIn K (.ref C) = some (.type "type")) (s : PySem.W.subIn K t (.ref C) = some b) : PySem.W.kitOne K t (.ref C) = some b := by
  obtain ⟨cd, hc, _⟩ := PySem.W.any_some hd
  unfold PySem.W.kitOne PySem.W.kitCls
  rw [ne, if_neg Bool.false_ne_true]
  simp only [hc, ty, Option.isSome_some, Bool.true_and, beq_self_eq_true, if_true]
  exact s
theorem kit_bt {K : PySem.W.Frag} {t : Value} {T : String} {b : Bool} (m : PySem.W.kitMeta T = true) (ne : (t == .type T) = false) (s : PySem.W.subIn K t (.type T) = some b) : PySem.W.kitOne K t (.type T) = some b := by
  unfold PySem.W.kitOne PySem.W.kitCls
  rw [ne, if_neg Bool.false_ne_true]
  simp only [m, if_true]
  exact s
theorem kitAny_f {K : PySem.W.Frag} {t c : Value} {cs : List Value} (h : PySem.W.kitOne K t c = some false) (r : PySem.W.kitAny K t cs = some false) : PySem.W.kitAny K t (c :: cs) = some false := kitAny_cons h (fun _ => r) (fun z => nomatch z)
end Gx
local macro_rules | `(tactic| walk_at "errV_is") => `(tactic| ((refine' ⟨?y1, ?y2, ?y3, ?y4, ⟨?y5, ?y6, ?y7, ?y8, ?y9, ?y10, ?y11, ?y12⟩⟩; (case y1 => k_exc); (case y2 => k_is); (case y3 => k_is); (case y4 => first | rfl | k_is); (case y5 => k_is); (case y6 => k_is); (case y7 => k_is); (case y8 => k_is); (case y9 => k_is); (case y10 => k_is); (case y11 => k_is); (case y12 => k_is))))
local macro_rules | `(tactic| walk_at "kit_one") => `(tactic| (first | exact Gx.kit_own (by decide +kernel) (by k_is) (by k_is) (by k_is) | exact Gx.kit_bt (by decide +kernel) (by decide +kernel) (by k_is)))
local macro_rules | `(tactic| walk_at "kit_none") => `(tactic| (repeat (first | exact L2.kitAny_nil | refine Gx.kitAny_f (by walk_at "kit_one") ?_)))

set_option maxHeartbeats 4000000
/-! Kx: defs with one keyword-only parameter that has a default: the calls that leave it out. -/
namespace Gx
open PySem PySem.Spec PySem.Calls PyProof.Rows L2
/-- such a def: z its default, as it lies in the def's own dict -/
structure FunZ (K : PySem.W.Frag) (x : Str) (st : Stmt) (f : Addr) (fd : FuncData) (nm : Str) (z : Value) : Prop where
  fn : Fun K x x st f fd
  df : ∃ (D : Addr) (doc pm : Value) (an : Option Addr) (cdv ct : Value), fd = PySem.W.fnOf x x (defArgs st) (defBody st) (defScope st) .none (.ref D) doc pm an cdv ct ∧ PySem.W.nsIn K D nm = some (some z)
theorem funZ_mk {K : PySem.W.Frag} {x : Str} {st : Stmt} {f D : Addr} {nm : Str} {z : Value} {oc : Value} {od an : Option Addr} {osl : Array (Option Value)} {doc pm cdv ct : Value} (l : K.lookup f = some ⟨oc, od, .func (PySem.W.fnOf x x (defArgs st) (defBody st) (defScope st) .none (.ref D) doc pm an cdv ct), osl⟩)
    (c : PySem.W.codeIn K cdv x = true) (k : PySem.W.keepIn K (.ref f) = true) (e : PySem.W.nsIn K D nm = some (some z)) : FunZ K x st f (PySem.W.fnOf x x (defArgs st) (defBody st) (defScope st) .none (.ref D) doc pm an cdv ct) nm z :=
  ⟨fun_mk l c k, D, doc, pm, an, cdv, ct, rfl, e⟩
section
variable {K : PySem.W.Frag} {x : Str} {st : Stmt} {f : Addr} {fd : FuncData} {nm : Str} {z : Value} {ps ks : List Str} {n : Nat}
/-- f(e, ..), all others written -/
theorem FunZ.binds (F : FunZ K x st f fd nm z)
    (h : ∀ (D : Addr) (doc pm : Value) (an : Option Addr) (cdv ct : Value) (us : List Value), us.length + 1 = ps.length → KwChain D [(nm, z)] (bindArgs (PySem.W.fnOf x x (defArgs st) (defBody st) (defScope st) .none (.ref D) doc pm an cdv ct) ⟨us, []⟩) (ps.zip (us ++ [z]))) : Binds K fd ps [z] := by
  obtain ⟨D, doc, pm, an, cdv, ct, rfl, e⟩ := F.df
  intro s us X hl
  refine BindsTo.of_looks fun M => KwChain.looks X (fun q hq => ?_) (h D doc pm an cdv ct us (by rw [← hl, List.length_append]; rfl))
  rw [List.mem_singleton.mp hq]
  exact e
/-- f(k = e, ..), all others written by their names -/
theorem FunZ.kbn (F : FunZ K x st f fd nm z) (is : List Nat) {zv : V} (rz : RelV zv z)
    (h : ∀ (D : Addr) (doc pm : Value) (an : Option Addr) (cdv ct : Value) (us ws : List Value), us.length = n → ws.length = ks.length → KwChain D [(nm, z)] (bindArgs (PySem.W.fnOf x x (defArgs st) (defBody st) (defScope st) .none (.ref D) doc pm an cdv ct) ⟨us, ks.zip ws⟩) (ps.zip (us ++ pick is ws ++ [z]))) :
    KBn K fd ps n ks (fun us ws => us ++ pick is ws ++ [z]) (fun vs zs => vs ++ pick is zs ++ [zv]) := by
  obtain ⟨D, doc, pm, an, cdv, ct, rfl, e⟩ := F.df
  refine ⟨fun s us ws X l1 l2 => ?_, fun r1 r2 => (r1.append (vals_pick r2 is)).append (.cons rz .nil)⟩
  refine BindsTo.of_looks fun M => KwChain.looks X (fun q hq => ?_) (h D doc pm an cdv ct us ws l1 l2)
  rw [List.mem_singleton.mp hq]
  exact e
end
section
variable {X : Cx} {k : Nat} {f : Addr} {fd : FuncData} {ps : List Str} {sp : Sp} {x : Str} {p pos : Pos} {e : Expr} {es : List Expr} {t : TA} {ds : List Value} {dvs : List V}
/-- f(e, ..), defaults filling up -/
def tGoD (sp : Sp) (dvs : List V) (t : TA) : TE := fun σ H Q => t σ H fun vs H1 => sp (vs ++ dvs) H1 Q E0
theorem pe_goD (F : FnG X.prog X.w X.K X.mg X.base k f fd ps sp) (hG : X.A.guards = some []) (hr : Room k X.A) (hg : Gl X x) (hm : X.mg x = some (.ref f)) (hk : PySem.W.keepIn X.K (.ref f) = true) (hb : Binds X.K fd ps ds) (hd : Vals dvs ds)
    (ha : PA X (e :: es) t) (hdb : (x == ("__debug__" : Str)) = false := by decide) (he : starEach (e :: es) X.env = (false, eval e X.env) :: starEach es X.env := by rfl)
    (hpl : (backTo pos (starEach es X.env)).any (·.1) = false := by rfl) : PE X (.Call (.Name x p) (e :: es) [] pos) (tGoD sp dvs t) := by
  constructor
  intro pins s σ H Q I h
  refine wpAny_Call_Name_kw (ld_glob I hg hm ?_ hdb)
  refine PySem.W.callWith_K (h₀ := X.base) I.ok.mod.kin hk (thn (ha.run pos pins s σ H _ I h) ?_) he hpl
  rintro us s1 ⟨vs, H1, I1, r, q⟩
  refine ⟨I1.kIn, ?_⟩
  have r2 : Vals (vs ++ dvs) (us ++ ds) := r.append hd
  have hl : (us ++ ds).length = ps.length := by rw [← r2.length]; exact F.len _ _ _ _ q
  have b := hb s1 us I1.kIn hl
  refine wpAny_call (codeAny_mono (after_call (pins := pins) (σ := σ) I1 (F.go X.A X.stack s1 H1 ⟨us, []⟩ (us ++ ds) (vs ++ dvs) Q hG hr I1.env0 b r2 q)) fun r s' hq => ?_)
  match r, hq with
  | .ok (.ret u), hq => exact hq
  | .ok .next, hq => exact False.elim hq
  | .ok .brk, hq => exact False.elim hq
  | .ok .cont, hq => exact False.elim hq
  | .error e, hq => exact hq
def tGoXD (sp : Sp) (dvs : List V) (E : L2.St → XK) (t : TA) : TE := fun σ H Q => t σ H fun vs H1 => sp (vs ++ dvs) H1 Q (E σ)
theorem pe_goXD {E : L2.St → XK} (F : FnX X.prog X.w X.K X.mg X.base k f fd ps sp) (hG : X.A.guards = some []) (hr : Room k X.A) (hg : Gl X x) (hm : X.mg x = some (.ref f)) (hk : PySem.W.keepIn X.K (.ref f) = true) (hb : Binds X.K fd ps ds) (hd : Vals dvs ds) (hx : ∀ σ, PassesAt (L2.CX X.prog X.w) X σ (E σ))
    (ha : PA X (e :: es) t) (hdb : (x == ("__debug__" : Str)) = false := by decide) (he : starEach (e :: es) X.env = (false, eval e X.env) :: starEach es X.env := by rfl)
    (hpl : (backTo pos (starEach es X.env)).any (·.1) = false := by rfl) : PE X (.Call (.Name x p) (e :: es) [] pos) (tGoXD sp dvs E t) := by
  constructor
  intro pins s σ H Q I h
  refine wpAny_Call_Name_kw (ld_glob I hg hm ?_ hdb)
  refine PySem.W.callWith_K (h₀ := X.base) I.ok.mod.kin hk (thn (ha.run pos pins s σ H _ I h) ?_) he hpl
  rintro us s1 ⟨vs, H1, I1, r, q⟩
  refine ⟨I1.kIn, ?_⟩
  have r2 : Vals (vs ++ dvs) (us ++ ds) := r.append hd
  have hl : (us ++ ds).length = ps.length := by rw [← r2.length]; exact F.len _ _ _ _ q
  have b := hb s1 us I1.kIn hl
  refine wpAny_call (codeAny_mono (after_callX (pins := pins) (σ := σ) (hx σ) I1 (F.go X.A X.stack s1 H1 ⟨us, []⟩ (us ++ ds) (vs ++ dvs) Q (E σ) hG hr I1.env0 b r2 q)) fun r s' hq => ?_)
  match r, hq with
  | .ok (.ret u), hq => exact hq
  | .ok .next, hq => exact False.elim hq
  | .ok .brk, hq => exact False.elim hq
  | .ok .cont, hq => exact False.elim hq
  | .error e, hq => exact hq
end
end Gx

set_option maxHeartbeats 4000000
/-! Bd: dicts whose keys are truths; list(range(a, b, c)); set(list of ints). -/
namespace Gx
open PySem PySem.Spec PyProof.Rows L2
/-- a dict whose keys are truths, its values addresses -/
def bdV (l : List (Bool × Addr)) : List (Bool × Value) := l.map fun p => (p.1, Value.ref p.2)
def BD (P : Program) (w : World) (a : Addr) (l : List (Bool × Addr)) : HO := .ext fun h => (a == sysModules) = false ∧ h.DictOf (PpSet.boolK P w) a (bdV l)
theorem bd_ok {P : Program} {w : World} {H : Hp} {h : Heap} {a : Addr} {l : List (Bool × Addr)} (hs : (a == sysModules) = false) (dd : h.DictOf (PpSet.boolK P w) a (bdV l)) : ObjOk P w H h a (BD P w a l) := by
  refine ⟨⟨hs, dd⟩, ?_, fun h1 h2 p k => ?_⟩
  · obtain ⟨o, _, _, ho, _⟩ := dd
    exact ⟨o, ho⟩
  · obtain ⟨q, o, es, ep, ho, r⟩ := p
    exact ⟨q, o, es, ep, k o ho, r⟩
def bdP (l : List (Bool × Addr)) : List (V × V) := l.map fun p => (V.bl p.1, V.ref p.2)
theorem bd_carries {P : Program} {w : World} : ∀ {l : List (Bool × Addr)} {ws : List (Value × Value)}, VV (bdP l) ws → Carries (PpSet.boolK P w) ws (bdV l)
  | [], _, r => by cases r; exact True.intro
  | (b, a) :: l, _, r => by
    cases r with
    | cons h t =>
      rename_i q _
      obtain ⟨q1, q2⟩ := q
      obtain ⟨h1, h2⟩ := h
      have e1 : q1 = Value.bool b := h1
      have e2 : q2 = Value.ref a := h2
      subst e1 e2
      exact ⟨PpSet.boolK_is P w b, rfl, bd_carries t⟩
def tDispB (P : Program) (w : World) (trs : List (TE × TE)) : TE := fun σ H Q => ∀ p, H p = none → tPairs trs σ (upd H p (BD P w p [])) fun ps H2 => H2 p = some (BD P w p []) ∧ ∃ l, ps = bdP l ∧ l.length ≤ 15 ∧ (l.map (·.1)).Nodup ∧ Q (.ref p) (upd H2 p (BD P w p l))
theorem merged_bd : ∀ (l acc : List (Bool × Addr)), ((acc ++ l).map (·.1)).Nodup → merged (bdV acc) (bdV l) = bdV (acc ++ l)
  | [], acc, _ => by rw [List.append_nil]; rfl
  | (b, a) :: l, acc, hn => by
    have hb : b ∉ acc.map (·.1) := by
      rw [List.map_append, List.nodup_append] at hn
      intro hm
      exact hn.2.2 b hm b (by simp) rfl
    have e : stored (bdV acc) b (Value.ref a) = bdV (acc ++ [(b, a)]) := by
      unfold stored
      rw [if_neg ?_]
      · simp [bdV]
      · rw [List.any_eq_true]
        rintro ⟨x, hx, h⟩
        obtain ⟨y, hy, rfl⟩ := List.mem_map.mp hx
        exact hb (List.mem_map.mpr ⟨y, hy, of_decide_eq_true h⟩)
    have := merged_bd l (acc ++ [(b, a)]) (by rw [List.append_assoc]; exact hn)
    rw [List.append_assoc] at this
    show merged (stored (bdV acc) b (Value.ref a)) (bdV l) = _
    rw [e]
    exact this
section
variable {X : Cx} {pos : Pos}
theorem pe_dispB {keys : List (Option Expr)} {values : List Expr} {trs : List (TE × TE)} (h : PPs X pos keys values trs) (hall : keys.all (·.isSome) = true) (hl : keys.length = values.length) (h0 : keys ≠ [])
    (h15 : keys.length ≤ 15) : PE X (.Dict keys values pos) (tDispB X.prog X.w trs) := by
  constructor
  intro pins s σ H Q I q
  have hn := I.hok.fresh (Nat.le_refl s.heap.objs.size)
  have hs0 : (s.heap.objs.size == sysModules) = false := beq_eq_false_iff_ne.mpr (Ne.symm (Nat.ne_of_lt I.big))
  have I1 := I.laid (a := s.heap.objs.size) (o := BD X.prog X.w s.heap.objs.size []) (h' := s.heap.push { cls := .type "dict", data := .dict #[] }) (t' := s.toks) (fun _ _ z => Heap.get?_push_of_some _ z) (Nat.le_refl _) (bd_ok hs0 (Heap.DictOf.new s.heap))
  refine wpAny_Dict_walk (knd := PpSet.boolK X.prog X.w) hall hl h0 h15 (thn (h.run pins _ σ _ _ I1 (q _ hn)) fun ws s2 z => ?_)
  obtain ⟨ps, H2, I2, rel, e, l, ep, lk, nd, q2⟩ := z
  subst ep
  have ok2 := I2.hok _ _ e
  refine ⟨bdV l, bd_carries rel, ok2.1.2, fun h' dd' hs => ⟨.ref s.heap.objs.size, _, ?_, rfl, q2⟩⟩
  have em : merged ([] : List (Bool × Value)) (bdV l) = bdV l := by
    have := merged_bd l [] (by simpa using nd)
    simpa [bdV] using this
  rw [em] at dd'
  have he : ∃ u, h'.get? s.heap.objs.size = some u := by
    obtain ⟨u, _, _, hu, _⟩ := dd'
    exact ⟨u, hu⟩
  exact d_write I2 (by rw [e]; exact True.intro) hs he (bd_ok hs0 dd')
def tDGetB (P : Program) (w : World) (td ty : TE) : TE := fun σ H Q => td σ H fun x H1 => ty σ H1 fun y H2 => ∃ (a : Addr) (b : Bool) (l : List (Bool × Addr)) (v : Addr), x = .ref a ∧ y = .bl b ∧ H2 a = some (BD P w a l) ∧ valueAt (bdV l) b = some (.ref v) ∧ Q (.ref v) H2
theorem pe_dgetB {o i : Expr} {td ty : TE} (ho : PE X o td) (hi : PE X i ty) (hs : NoSl i) : PE X (.Subscript o i pos) (tDGetB X.prog X.w td ty) := by
  constructor
  intro pins s σ H Q I h
  refine subD_of PySem.F.slot_dict_getitem.lookup hs (thn (ho.run pins s σ H _ I h) fun u s1 z => ?_)
  obtain ⟨x, H1, I1, rx, q1⟩ := z
  refine thn (hi.run pins s1 σ H1 _ I1 q1) fun iv s2 z => ?_
  obtain ⟨y, H2, I2, ry, a, b, l, v, rfl, rfl, e, hv, q2⟩ := z
  have eu : u = Value.ref a := rx
  have ei : iv = Value.bool b := ry
  subst eu ei
  have ok2 := (I2.hok _ _ e).1.2
  exact ⟨ok2.typeIs, wpAny_getItem_of (PpSet.boolK_is _ _ b) ok2.mapOf hv ⟨.ref v, H2, I2.tok _, rfl, q2⟩⟩
end
end Gx

set_option maxHeartbeats 4000000
/-! Be: set(list of ints), list(range(a, b, c)). -/
namespace Gx
open PySem PySem.Spec PyProof.Rows L2
section
variable {P : Program} {w : World} {A : Around} {E : Value → Shared → Prop} {s : Shared}
/-- a bare set, as it is laid -/
def bareSet (w : World) : Obj := { cls := .type "set", dict := none, data := .set #[] 0 (.fresh 0 0 (!w.params.followText "set-order")) }
/-- what the set's own __init__ comes to, of a list of ints -/
def SetDone (w : World) (s : Shared) (ns : List Int) (s2 : Shared) : Prop := ∃ (h2 : Heap) (tk c : Nat), s2 = { s with heap := h2, toks := tk } ∧ SetR w h2 s.heap.objs.size (fun j => decide (j ∈ ns)) c ∧ c ≤ ns.length ∧ ∀ b o, s.heap.get? b = some o → h2.get? b = some o
set_option maxHeartbeats 8000000 in
theorem set_init_list {l : Addr} {items : Array Value} {ns : List Int} {Q : Value → Shared → Prop} (hh : A.handled = none) (hl : s.heap.IsList l items) (hit : IntsAre items.toList ns) (hb : ns.length + 1 < scanBound)
    (q : ∀ s2, SetDone w s ns s2 → Q .none s2) :
    wpAny (model P w) A (Builtin.«set.__init__» ⟨[.ref s.heap.objs.size, .ref l], []⟩) (fun fin s' => ∃ v, fin = .done (.ret v) ∧ Q v s') E { s with heap := s.heap.push (bareSet w) } := by
  have hS : (s.heap.push (bareSet w)).get? s.heap.objs.size = some (bareSet w) := Heap.get?_push_size _ rfl
  have hn : items.size = ns.length := by
    have z := IntsAre.length hit
    rw [Array.length_toList] at z
    exact z
  obtain ⟨⟨c0, d0, t0, z0⟩, ho, e1, n0, e2⟩ := hl
  simp only at e1 e2
  subst e1 e2
  have lt := Heap.lt_size ho
  have ho1 : (s.heap.push (bareSet w)).get? l = some ⟨.type "list", d0, .seq items n0, z0⟩ := Heap.get?_push_of_some _ ho
  have hL : (s.heap.push (bareSet w)).IsList l items := ⟨_, ho1, rfl, n0, rfl⟩
  have k1 := F.sub_list_set
  have k2 := F.sub_list_frozenset
  have k3 : (Value.type "list" == Value.type "dict") = false := by decide
  unfold Builtin.«set.__init__» noKeywords Builtin.Frozenset.updateFrom
  unfold bareSet at *
  generalize hI : pyIter = IT
  wp_walk
  subst hI
  refine wpAny_pyIter_list hL (wpAny_bind (wpAny_runValue ?_))
  have hm : A.in1.handled = none := by simp [hh]
  have sz := Heap.size_push (h := s.heap) (o := bareSet w)
  unfold bareSet at sz
  have d1 : l ≠ (s.heap.push { cls := .type "set", dict := none, data := .set #[] 0 (.fresh 0 0 (!w.params.followText "set-order")) }).objs.size := by rw [sz]; exact Nat.ne_of_lt (Nat.lt_succ_of_lt lt)
  have d2 : s.heap.objs.size ∉ [(s.heap.push { cls := .type "set", dict := none, data := .set #[] 0 (.fresh 0 0 (!w.params.followText "set-order")) }).objs.size, l] := by
    rw [sz]
    intro hm
    rcases List.mem_cons.mp hm with e | e
    · exact absurd e (Nat.ne_of_lt (Nat.lt_succ_self _))
    · exact absurd (List.mem_singleton.mp e) (Nat.ne_of_gt lt)
  have vals : ∀ (i : Nat) (v : Value), items[i]? = some v → ∃ k t, ns[i]? = some k ∧ v = .int k t := fun i v hv => by
    have lt2 : i < ns.length := by rw [← hn]; exact (Array.getElem?_eq_some_iff.mp hv).1
    obtain ⟨t, e⟩ := PyProof.Rows.IntsAre.int_at hit i v (by rw [Array.getElem?_toList]; exact hv)
    exact ⟨ns[i], t, List.getElem?_eq_getElem lt2, by rw [e, List.getD_eq_getElem?_getD, List.getElem?_eq_getElem lt2]; rfl⟩
  refine set_update_ints ((Walks.list (by simpa using hh) _ l d1 items).toS) s.heap.objs.size d2 ns hn hb vals (items.size - 0) 0 _ (by omega) (Nat.zero_le _) ⟨⟨_, Heap.get?_push_size _ rfl, rfl, rfl⟩, hL.push _⟩ ⟨0, Nat.le_refl 0, setR_new_at (Heap.get?_push_of_some _ hS)⟩ fun s3 c3 mv hc R3 => ?_
  obtain ⟨h3, g3, dr3, tk3, os3⟩ := s3
  have eg : g3 = s.gens := mv.gens
  have ed : dr3 = s.drawn := mv.drawn
  have eo : os3 = s.os := mv.os
  subst eg ed eo
  refine wpAny_pure ?_
  show wpAny _ _ (ret Value.none) _ _ _
  refine wpAny_pure ⟨_, rfl, q _ ⟨h3, tk3, c3, rfl, R3, by omega, fun b o e => ?_⟩⟩
  have lb := Heap.lt_size e
  refine mv.heap b o ?_ (Heap.get?_push_of_some _ (Heap.get?_push_of_some _ e))
  intro hm
  rcases List.mem_cons.mp hm with e | e
  · exact absurd e (Nat.ne_of_lt lb)
  · have := List.mem_singleton.mp e
    rw [sz] at this
    exact absurd this (Nat.ne_of_lt (Nat.lt_succ_of_lt lb))
end
end Gx
namespace Gx
open PySem PySem.Spec PyProof.Rows L2
section
variable {P : Program} {w : World} {A : Around} {E : Value → Shared → Prop} {s : Shared}
set_option maxHeartbeats 8000000 in
theorem call_set_lst {l : Addr} {items : Array Value} {ns : List Int} {Q : Value → Shared → Prop} (hh : A.handled = none) (hl : s.heap.IsList l items) (hit : IntsAre items.toList ns) (hb : ns.length + 1 < scanBound)
    (q : ∀ s2, SetDone w s ns s2 → Q (.ref s.heap.objs.size) s2) : wpAny (model P w) A (call (.type "set") [.ref l]) Q E s := by
  have C := F.called_set
  obtain ⟨c, tl, hm⟩ := C.mro
  have z1 := C.made
  have z2 := C.sub
  have z3 := C.notType
  have z4 := C.canCreate
  have z5 := F.typeCall_set_1 (.ref l)
  refine wpAny_call (codeAny_of_tree ?_)
  show wpAny _ _ (callAny (.type "set") _) _ _ _
  refine wpAny_pure ⟨Code.quiet_builtin _ (by decide +kernel), codeAny_builtin F.entry_type_call ?_⟩
  rw [Around.under_plain (weight_type_call_type "set" [.ref l] []) rfl]
  repeat (any_goals (first | assumption | wp_step))
  refine codeAny_mono (code_set_led1 (.ref l) (E := E) (Q₁ := fun o s1 => o = .ref s.heap.objs.size ∧ s1 = { s with heap := s.heap.push (bareSet w) }) ⟨rfl, rfl⟩) fun r s1 h1 => ?_
  match r, h1 with
  | .error e, h1 => exact h1
  | .ok .next, h1 => exact False.elim h1
  | .ok .brk, h1 => exact False.elim h1
  | .ok .cont, h1 => exact False.elim h1
  | .ok (.ret o), h1 =>
    obtain ⟨rfl, rfl⟩ := h1
    have hS : (s.heap.push (bareSet w)).get? s.heap.objs.size = some (bareSet w) := Heap.get?_push_size _ rfl
    have hT : Shared.TypeIs { s with heap := s.heap.push (bareSet w) } (.ref s.heap.objs.size) "set" := ⟨_, hS, rfl⟩
    have y1 := C.init.lookup
    have y2 := C.init.bind (.ref s.heap.objs.size)
    repeat (any_goals (first | assumption | wp_step))
    refine codeAny_mono (codeAny_call_builtin (R := wants (fun r s2 => r = .none ∧ SetDone w s ns s2) E) C.init.plain F.entry_set_init (check_set_init_1 hT (wpAny_mono (set_init_list (Q := fun r s2 => r = .none ∧ SetDone w s ns s2) (by simpa using hh) hl hit hb fun s2 d => ⟨rfl, d⟩) (fun fin s' h => ?_) fun _ _ h => h))) fun r s2 h2 => ?_
    · obtain ⟨v, rfl, h⟩ := h
      exact h
    · match r, h2 with
      | .error e, h2 => exact h2
      | .ok .next, h2 => exact False.elim h2
      | .ok .brk, h2 => exact False.elim h2
      | .ok .cont, h2 => exact False.elim h2
      | .ok (.ret v), h2 =>
        obtain ⟨rfl, d⟩ := h2
        repeat (any_goals (first | assumption | wp_step))
        exact q _ d
end
section
variable {X : Cx}
/-- set(xs) of a list of ints -/
def rSetL (K : PySem.W.Frag) (w : World) : List V → Hp → VK → Prop := fun xs H Q => ∃ (a : Addr) (ns : List Int), xs = [.ref a] ∧ SqL K H a (ns.map V.int) ∧ ns.length ≤ 1000 ∧
  ∀ (p : Addr) (c : Nat), H p = none → c ≤ ns.length → Q (.ref p) (upd H p (SetO w p (fun j => decide (j ∈ ns)) c))
theorem cr_setL (hc : X.calm = true) : CallR X (.type "set") (rSetL X.K X.w) := by
  intro pins s σ H xs us Q I r h
  obtain ⟨a, ns, rfl, hs, hn, q⟩ := h
  rw [Vals.ref1 r]
  obtain ⟨its, rv, pl, hz⟩ := I.list hs
  refine call_set_lst (I.ok.hd hc) pl.isList (by simpa using ints_of_vals rv) (by show ns.length + 1 < 4096; omega) fun s2 d => ?_
  obtain ⟨h2, tk, c, rfl, R, hcn, hk⟩ := d
  exact ⟨.ref s.heap.objs.size, _, I.laid (t' := tk) hk (Nat.le_refl _) (setO_new R), rfl, q _ c (I.hok.fresh (Nat.le_refl _)) hcn⟩
/-- list(range(a, b, c)) -/
def rgC (a c : Int) (n : Nat) : List Int := (List.range n).map fun i => a + (i : Nat) * c
def tLstRg3 (ta : TA) : TE := fun σ H Q => ta σ H fun vs H1 => ∃ (i j c : Int) (n : Nat), vs = [.int i, .int j, .int c] ∧ RgC i j c n ∧ n ≤ 100000 ∧ ∀ q, H1 q = none → Q (.ref q) (upd H1 q (.lst ((rgC i c n).map V.int)))
theorem vals_rgC {a c : Int} {n : Nat} {acc : Array Value} (h : ItemsOf (fun i v => ∃ t, v = .int (a + i * c) t) acc n) : Vals ((rgC a c n).map V.int) acc.toList := by
  have e : acc.toList.length = n := by rw [Array.length_toList]; exact h.1
  unfold rgC
  rw [List.map_map, ← e]
  refine vals_of_get acc.toList _ fun j u hj => ?_
  obtain ⟨t, rfl⟩ := h.2 j u (by rw [← hj, Array.getElem?_toList])
  exact ⟨t, rfl⟩
theorem pe_listRg3 {a b c : Expr} {ta : TA} {p pos p2 pos2 : Pos} (hc : X.calm = true) (hgl : Gl X "list") (hml : X.mg "list" = none) (hg : Gl X "range") (hm : X.mg "range" = none) (ha : PA X [a, b, c] ta)
    (hs : starEach [a, b, c] X.env = (false, eval a X.env) :: starEach [b, c] X.env := by rfl) (hpl : (backTo pos2 (starEach [b, c] X.env)).any (·.1) = false := by rfl)
    (na : starEach [.Call (.Name "range" p2) [a, b, c] [] pos2] X.env = (false, eval (.Call (.Name "range" p2) [a, b, c] [] pos2) X.env) :: starEach [] X.env := by rfl) :
    PE X (.Call (.Name "list" p) [.Call (.Name "range" p2) [a, b, c] [] pos2] [] pos) (tLstRg3 ta) := by
  constructor
  intro pins s σ H Q I h
  refine Call_ (ld_blt I hgl hml boot_list (PyProof.Rows.callWith_type1 (args_cons ?_ na) na))
  refine Call_ (ld_blt I hg hm boot_range (PyProof.Rows.callWith_type1 (thn (ha.run pos2 pins s σ H _ I h) fun us s1 z => ?_) hs hpl))
  obtain ⟨vs, H1, I1, r1, i, j, k, n, rfl, hk, hn, q⟩ := z
  obtain ⟨c0, c1, c2, c3⟩ := hk
  match us, r1 with
  | [x, y, z], .cons r (.cons r' (.cons r'' .nil)) =>
    obtain ⟨t, rfl⟩ := r
    obtain ⟨t', rfl⟩ := r'
    obtain ⟨t'', rfl⟩ := r''
    refine call_range_3 c0 ?_ (.inl (PyProof.noPylong_small c1))
    refine args_nil ?_
    have I2 : Inv X pins σ H1 { s1 with heap := s1.heap.push { cls := .type "range", data := .fields #[.int i t, .int j t', .int k t''] } } := I1.kept (t' := s1.toks) fun b o e => Heap.get?_push_of_some _ e
    refine call_list_range (n := n) (I2.ok.hd hc) (IsRange.new ..) c2 c3 (by omega) fun h' tk acc c' hk' e' hi => ?_
    refine ⟨.ref _, upd H1 _ (.lst ((rgC i k n).map V.int)), I2.laid hk' (Nat.le_refl _) ⟨?_, acc.toList, c', vals_rgC hi, ?_⟩, rfl, q _ (I2.hok.fresh (Nat.le_refl _))⟩
    · unfold rgC
      rw [List.length_map, List.length_map, List.length_range, sizeLine_eq]
      omega
    · rw [Array.toArray_toList]; exact e'
end
end Gx

set_option maxHeartbeats 4000000
namespace K05
open PySem PySem.Spec PyProof.Rows L2 Gx
def topS (i : Nat) : Stmt := PySem.Challenge.pw_typedahead_k05_places_shifted.main.body.getD i (.Pass ⟨0, 0, 0, 0⟩)
abbrev s_shifted : Stmt := topS 1
abbrev s_L_box : Stmt := topS 3
abbrev s_L_take : Stmt := topS 4
abbrev s_L_cells : Stmt := topS 5
abbrev s_L_one_of : Stmt := topS 6
abbrev s_L_row : Stmt := topS 7
abbrev s_L_text : Stmt := topS 8
abbrev s_L_edit : Stmt := topS 9
abbrev s_L_done : Stmt := topS 10
abbrev s_L_due : Stmt := topS 11
abbrev s_L_right : Stmt := topS 12
abbrev s_law : Stmt := topS 13
theorem sc_shifted : FnScope ["at", "edit", "ahead", "start", "cut", "put", "stays", "goes"] ["at", "edit", "ahead"] (defScope s_shifted) := ⟨rfl, rfl, rfl, by decide +kernel, rfl, by decide +kernel, by decide +kernel⟩
theorem sc_L_box : FnScope ["_law_cells_here", "_law_k", "_law_cell"] ["_law_cells_here", "_law_k"] (defScope s_L_box) := ⟨rfl, rfl, rfl, by decide +kernel, rfl, by decide +kernel, by decide +kernel⟩
theorem sc_L_take : FnScope ["_law_box_here", "_law_many", "_law_found", "_law_mixed"] ["_law_box_here", "_law_many"] (defScope s_L_take) := ⟨rfl, rfl, rfl, by decide +kernel, rfl, by decide +kernel, by decide +kernel⟩
theorem sc_L_cells : FnScope ["_law_script", "_law_utmost", "_law_cells_here", "_law_k", "_law_cell"] ["_law_script", "_law_utmost"] (defScope s_L_cells) := ⟨rfl, rfl, rfl, by decide +kernel, rfl, by decide +kernel, by decide +kernel⟩
theorem sc_L_one_of : FnScope ["_law_box_here", "_law_some"] ["_law_box_here", "_law_some"] (defScope s_L_one_of) := ⟨rfl, rfl, rfl, by decide +kernel, rfl, by decide +kernel, by decide +kernel⟩
theorem sc_L_row : FnScope ["_law_box_here", "_law_some", "_law_row_here", "_law_way", "_law_signs", "_law_k"] ["_law_box_here"] (defScope s_L_row) := ⟨rfl, rfl, rfl, by decide +kernel, rfl, by decide +kernel, by decide +kernel⟩
theorem sc_L_text : FnScope ["_law_box_here", "_law_many", "_law_k"] ["_law_box_here", "_law_many"] (defScope s_L_text) := ⟨rfl, rfl, rfl, by decide +kernel, rfl, by decide +kernel, by decide +kernel⟩
theorem sc_L_edit : FnScope ["_law_box_here", "_law_writing", "_law_size", "_law_feeds", "_law_begin", "_law_cut", "_law_some", "_law_put", "_law_k", "_law_sign"] ["_law_box_here", "_law_writing"] (defScope s_L_edit) := ⟨rfl, rfl, rfl, by decide +kernel, rfl, by decide +kernel, by decide +kernel⟩
theorem sc_L_done : FnScope ["_law_writing", "_law_change", "_law_begin", "_law_cut", "_law_put"] ["_law_writing", "_law_change"] (defScope s_L_done) := ⟨rfl, rfl, rfl, by decide +kernel, rfl, by decide +kernel, by decide +kernel⟩
theorem sc_L_due : FnScope ["_law_place", "_law_change", "_law_stays", "_law_begin", "_law_cut", "_law_put"] ["_law_place", "_law_change", "_law_stays"] (defScope s_L_due) := ⟨rfl, rfl, rfl, by decide +kernel, rfl, by decide +kernel, by decide +kernel⟩
theorem sc_L_right : FnScope ["_law_box_here", "_law_turn", "_law_writing", "_law_change", "_law_made", "_law_found", "_law_places", "_law_some", "_law_place", "_law_stays", "_law_told"] ["_law_box_here"] (defScope s_L_right) := ⟨rfl, rfl, rfl, by decide +kernel, rfl, by decide +kernel, by decide +kernel⟩
theorem sc_law : FnScope ["_law_script", "_law_cells_here", "_law_k"] ["_law_script"] (defScope s_law) := ⟨rfl, rfl, rfl, by decide +kernel, rfl, by decide +kernel, by decide +kernel⟩
/-- what the top leaves -/
structure Facts (K : PySem.W.Frag) (mg : Str → Option Value) : Type where
  f_shifted : Addr
  d_shifted : FuncData
  F_shifted : Fun K "shifted" "shifted" s_shifted f_shifted d_shifted
  g_shifted : mg "shifted" = some (.ref f_shifted)
  Z_shifted : FunZ K "shifted" s_shifted f_shifted d_shifted "ahead" (.bool true)
  f_L_box : Addr
  d_L_box : FuncData
  F_L_box : Fun K "_law_box" "_law_box" s_L_box f_L_box d_L_box
  g_L_box : mg "_law_box" = some (.ref f_L_box)
  b_L_box : Binds K d_L_box ["_law_cells_here", "_law_k"] []
  f_L_take : Addr
  d_L_take : FuncData
  F_L_take : Fun K "_law_take" "_law_take" s_L_take f_L_take d_L_take
  g_L_take : mg "_law_take" = some (.ref f_L_take)
  b_L_take : Binds K d_L_take ["_law_box_here", "_law_many"] []
  f_L_cells : Addr
  d_L_cells : FuncData
  F_L_cells : Fun K "_law_cells" "_law_cells" s_L_cells f_L_cells d_L_cells
  g_L_cells : mg "_law_cells" = some (.ref f_L_cells)
  b_L_cells : Binds K d_L_cells ["_law_script", "_law_utmost"] []
  f_L_one_of : Addr
  d_L_one_of : FuncData
  F_L_one_of : Fun K "_law_one_of" "_law_one_of" s_L_one_of f_L_one_of d_L_one_of
  g_L_one_of : mg "_law_one_of" = some (.ref f_L_one_of)
  b_L_one_of : Binds K d_L_one_of ["_law_box_here", "_law_some"] []
  f_L_row : Addr
  d_L_row : FuncData
  F_L_row : Fun K "_law_row" "_law_row" s_L_row f_L_row d_L_row
  g_L_row : mg "_law_row" = some (.ref f_L_row)
  b_L_row : Binds K d_L_row ["_law_box_here"] []
  f_L_text : Addr
  d_L_text : FuncData
  F_L_text : Fun K "_law_text" "_law_text" s_L_text f_L_text d_L_text
  g_L_text : mg "_law_text" = some (.ref f_L_text)
  b_L_text : Binds K d_L_text ["_law_box_here", "_law_many"] []
  f_L_edit : Addr
  d_L_edit : FuncData
  F_L_edit : Fun K "_law_edit" "_law_edit" s_L_edit f_L_edit d_L_edit
  g_L_edit : mg "_law_edit" = some (.ref f_L_edit)
  b_L_edit : Binds K d_L_edit ["_law_box_here", "_law_writing"] []
  f_L_done : Addr
  d_L_done : FuncData
  F_L_done : Fun K "_law_done" "_law_done" s_L_done f_L_done d_L_done
  g_L_done : mg "_law_done" = some (.ref f_L_done)
  b_L_done : Binds K d_L_done ["_law_writing", "_law_change"] []
  f_L_due : Addr
  d_L_due : FuncData
  F_L_due : Fun K "_law_due" "_law_due" s_L_due f_L_due d_L_due
  g_L_due : mg "_law_due" = some (.ref f_L_due)
  b_L_due : Binds K d_L_due ["_law_place", "_law_change", "_law_stays"] []
  f_L_right : Addr
  d_L_right : FuncData
  F_L_right : Fun K "_law_right" "_law_right" s_L_right f_L_right d_L_right
  g_L_right : mg "_law_right" = some (.ref f_L_right)
  b_L_right : Binds K d_L_right ["_law_box_here"] []
  f_law : Addr
  d_law : FuncData
  F_law : Fun K "law" "law" s_law f_law d_law
  g_law : mg "law" = some (.ref f_law)
  b_law : Binds K d_law ["_law_script"] []
  n_len : mg "len" = none
  n_abs : mg "abs" = none
  n_int : mg "int" = none
  n_enumerate : mg "enumerate" = none
  n_list : mg "list" = none
  n_range : mg "range" = none
  n_min : mg "min" = none
  n_sorted : mg "sorted" = none
  n_repr : mg "repr" = none
  n_set : mg "set" = none
  n_all : mg "all" = none
structure HasDef (K : PySem.W.Frag) (x : Str) (st : Stmt) (f : Addr) (fd : FuncData) : Prop where
  at_ : PySem.W.nsIn K mainGlobals x = some (some (.ref f))
  fn : Fun K x x st f fd
theorem hasDef_mk {K : PySem.W.Frag} {x : Str} {st : Stmt} {f : Addr} {oc : Value} {od an : Option Addr} {osl : Array (Option Value)} {kV doc pm cdv ct : Value} (a : PySem.W.nsIn K mainGlobals x = some (some (.ref f)))
    (l : K.lookup f = some ⟨oc, od, .func (PySem.W.fnOf x x (defArgs st) (defBody st) (defScope st) .none kV doc pm an cdv ct), osl⟩) (c : PySem.W.codeIn K cdv x = true) (k : PySem.W.keepIn K (.ref f) = true) :
    HasDef K x st f (PySem.W.fnOf x x (defArgs st) (defBody st) (defScope st) .none kV doc pm an cdv ct) := ⟨a, fun_mk l c k⟩
structure HasDefZ (K : PySem.W.Frag) (x : Str) (st : Stmt) (f : Addr) (fd : FuncData) (nm : Str) (z : Value) : Prop where
  at_ : PySem.W.nsIn K mainGlobals x = some (some (.ref f))
  fz : FunZ K x st f fd nm z
theorem hasDefZ_mk {K : PySem.W.Frag} {x : Str} {st : Stmt} {f D : Addr} {nm : Str} {z : Value} {oc : Value} {od an : Option Addr} {osl : Array (Option Value)} {doc pm cdv ct : Value} (a : PySem.W.nsIn K mainGlobals x = some (some (.ref f)))
    (l : K.lookup f = some ⟨oc, od, .func (PySem.W.fnOf x x (defArgs st) (defBody st) (defScope st) .none (.ref D) doc pm an cdv ct), osl⟩) (c : PySem.W.codeIn K cdv x = true) (k : PySem.W.keepIn K (.ref f) = true) (e : PySem.W.nsIn K D nm = some (some z)) :
    HasDefZ K x st f (PySem.W.fnOf x x (defArgs st) (defBody st) (defScope st) .none (.ref D) doc pm an cdv ct) nm z := ⟨a, funZ_mk l c k e⟩
theorem bd_shifted {K : PySem.W.Frag} {mg : Str → Option Value} (T : Facts K mg) : Binds K T.d_shifted ["at", "edit", "ahead"] [.bool true] := T.Z_shifted.binds fun _ _ _ _ _ _ us hl => match us, hl with | [_, _], _ => ⟨_, _, _, _, _, _, rfl, rfl, rfl⟩
theorem bd_L_box {K : PySem.W.Frag} {f : Addr} {fd : FuncData} (F : Fun K "_law_box" "_law_box" s_L_box f fd) : Binds K fd ["_law_cells_here", "_law_k"] [] := F.binds fun _ _ _ _ _ _ us hl => match us, hl with | [_, _], _ => rfl
theorem bd_L_take {K : PySem.W.Frag} {f : Addr} {fd : FuncData} (F : Fun K "_law_take" "_law_take" s_L_take f fd) : Binds K fd ["_law_box_here", "_law_many"] [] := F.binds fun _ _ _ _ _ _ us hl => match us, hl with | [_, _], _ => rfl
theorem bd_L_cells {K : PySem.W.Frag} {f : Addr} {fd : FuncData} (F : Fun K "_law_cells" "_law_cells" s_L_cells f fd) : Binds K fd ["_law_script", "_law_utmost"] [] := F.binds fun _ _ _ _ _ _ us hl => match us, hl with | [_, _], _ => rfl
theorem bd_L_one_of {K : PySem.W.Frag} {f : Addr} {fd : FuncData} (F : Fun K "_law_one_of" "_law_one_of" s_L_one_of f fd) : Binds K fd ["_law_box_here", "_law_some"] [] := F.binds fun _ _ _ _ _ _ us hl => match us, hl with | [_, _], _ => rfl
theorem bd_L_row {K : PySem.W.Frag} {f : Addr} {fd : FuncData} (F : Fun K "_law_row" "_law_row" s_L_row f fd) : Binds K fd ["_law_box_here"] [] := F.binds fun _ _ _ _ _ _ us hl => match us, hl with | [_], _ => rfl
theorem bd_L_text {K : PySem.W.Frag} {f : Addr} {fd : FuncData} (F : Fun K "_law_text" "_law_text" s_L_text f fd) : Binds K fd ["_law_box_here", "_law_many"] [] := F.binds fun _ _ _ _ _ _ us hl => match us, hl with | [_, _], _ => rfl
theorem bd_L_edit {K : PySem.W.Frag} {f : Addr} {fd : FuncData} (F : Fun K "_law_edit" "_law_edit" s_L_edit f fd) : Binds K fd ["_law_box_here", "_law_writing"] [] := F.binds fun _ _ _ _ _ _ us hl => match us, hl with | [_, _], _ => rfl
theorem bd_L_done {K : PySem.W.Frag} {f : Addr} {fd : FuncData} (F : Fun K "_law_done" "_law_done" s_L_done f fd) : Binds K fd ["_law_writing", "_law_change"] [] := F.binds fun _ _ _ _ _ _ us hl => match us, hl with | [_, _], _ => rfl
theorem bd_L_due {K : PySem.W.Frag} {f : Addr} {fd : FuncData} (F : Fun K "_law_due" "_law_due" s_L_due f fd) : Binds K fd ["_law_place", "_law_change", "_law_stays"] [] := F.binds fun _ _ _ _ _ _ us hl => match us, hl with | [_, _, _], _ => rfl
theorem bd_L_right {K : PySem.W.Frag} {f : Addr} {fd : FuncData} (F : Fun K "_law_right" "_law_right" s_L_right f fd) : Binds K fd ["_law_box_here"] [] := F.binds fun _ _ _ _ _ _ us hl => match us, hl with | [_], _ => rfl
theorem bd_law {K : PySem.W.Frag} {f : Addr} {fd : FuncData} (F : Fun K "law" "law" s_law f fd) : Binds K fd ["_law_script"] [] := F.binds fun _ _ _ _ _ _ us hl => match us, hl with | [_], _ => rfl
def txt_mk {K : PySem.W.Frag} {h : Heap} {mg : Str → Option Value} (X : K.In h) (G : h.Ns mainGlobals mg)
    {f_shifted : Addr} {d_shifted : FuncData} (h_shifted : HasDefZ K "shifted" s_shifted f_shifted d_shifted "ahead" (.bool true)) {f_L_box : Addr} {d_L_box : FuncData} (h_L_box : HasDef K "_law_box" s_L_box f_L_box d_L_box) {f_L_take : Addr} {d_L_take : FuncData} (h_L_take : HasDef K "_law_take" s_L_take f_L_take d_L_take) {f_L_cells : Addr} {d_L_cells : FuncData} (h_L_cells : HasDef K "_law_cells" s_L_cells f_L_cells d_L_cells) {f_L_one_of : Addr} {d_L_one_of : FuncData} (h_L_one_of : HasDef K "_law_one_of" s_L_one_of f_L_one_of d_L_one_of) {f_L_row : Addr} {d_L_row : FuncData} (h_L_row : HasDef K "_law_row" s_L_row f_L_row d_L_row) {f_L_text : Addr} {d_L_text : FuncData} (h_L_text : HasDef K "_law_text" s_L_text f_L_text d_L_text) {f_L_edit : Addr} {d_L_edit : FuncData} (h_L_edit : HasDef K "_law_edit" s_L_edit f_L_edit d_L_edit) {f_L_done : Addr} {d_L_done : FuncData} (h_L_done : HasDef K "_law_done" s_L_done f_L_done d_L_done) {f_L_due : Addr} {d_L_due : FuncData} (h_L_due : HasDef K "_law_due" s_L_due f_L_due d_L_due) {f_L_right : Addr} {d_L_right : FuncData} (h_L_right : HasDef K "_law_right" s_L_right f_L_right d_L_right) {f_law : Addr} {d_law : FuncData} (h_law : HasDef K "law" s_law f_law d_law)    
    (z_len : PySem.W.nsIn K mainGlobals "len" = some none) (z_abs : PySem.W.nsIn K mainGlobals "abs" = some none) (z_int : PySem.W.nsIn K mainGlobals "int" = some none) (z_enumerate : PySem.W.nsIn K mainGlobals "enumerate" = some none) (z_list : PySem.W.nsIn K mainGlobals "list" = some none) (z_range : PySem.W.nsIn K mainGlobals "range" = some none) (z_min : PySem.W.nsIn K mainGlobals "min" = some none) (z_sorted : PySem.W.nsIn K mainGlobals "sorted" = some none) (z_repr : PySem.W.nsIn K mainGlobals "repr" = some none) (z_set : PySem.W.nsIn K mainGlobals "set" = some none) (z_all : PySem.W.nsIn K mainGlobals "all" = some none)
     : Facts K mg where
  f_shifted := f_shifted
  d_shifted := d_shifted
  F_shifted := h_shifted.fz.fn
  g_shifted := PySem.W.mg_of X G h_shifted.at_
  Z_shifted := h_shifted.fz
  f_L_box := f_L_box
  d_L_box := d_L_box
  F_L_box := h_L_box.fn
  g_L_box := PySem.W.mg_of X G h_L_box.at_
  b_L_box := bd_L_box h_L_box.fn
  f_L_take := f_L_take
  d_L_take := d_L_take
  F_L_take := h_L_take.fn
  g_L_take := PySem.W.mg_of X G h_L_take.at_
  b_L_take := bd_L_take h_L_take.fn
  f_L_cells := f_L_cells
  d_L_cells := d_L_cells
  F_L_cells := h_L_cells.fn
  g_L_cells := PySem.W.mg_of X G h_L_cells.at_
  b_L_cells := bd_L_cells h_L_cells.fn
  f_L_one_of := f_L_one_of
  d_L_one_of := d_L_one_of
  F_L_one_of := h_L_one_of.fn
  g_L_one_of := PySem.W.mg_of X G h_L_one_of.at_
  b_L_one_of := bd_L_one_of h_L_one_of.fn
  f_L_row := f_L_row
  d_L_row := d_L_row
  F_L_row := h_L_row.fn
  g_L_row := PySem.W.mg_of X G h_L_row.at_
  b_L_row := bd_L_row h_L_row.fn
  f_L_text := f_L_text
  d_L_text := d_L_text
  F_L_text := h_L_text.fn
  g_L_text := PySem.W.mg_of X G h_L_text.at_
  b_L_text := bd_L_text h_L_text.fn
  f_L_edit := f_L_edit
  d_L_edit := d_L_edit
  F_L_edit := h_L_edit.fn
  g_L_edit := PySem.W.mg_of X G h_L_edit.at_
  b_L_edit := bd_L_edit h_L_edit.fn
  f_L_done := f_L_done
  d_L_done := d_L_done
  F_L_done := h_L_done.fn
  g_L_done := PySem.W.mg_of X G h_L_done.at_
  b_L_done := bd_L_done h_L_done.fn
  f_L_due := f_L_due
  d_L_due := d_L_due
  F_L_due := h_L_due.fn
  g_L_due := PySem.W.mg_of X G h_L_due.at_
  b_L_due := bd_L_due h_L_due.fn
  f_L_right := f_L_right
  d_L_right := d_L_right
  F_L_right := h_L_right.fn
  g_L_right := PySem.W.mg_of X G h_L_right.at_
  b_L_right := bd_L_right h_L_right.fn
  f_law := f_law
  d_law := d_law
  F_law := h_law.fn
  g_law := PySem.W.mg_of X G h_law.at_
  b_law := bd_law h_law.fn
  n_len := PySem.W.mg_none_of X G z_len
  n_abs := PySem.W.mg_none_of X G z_abs
  n_int := PySem.W.mg_none_of X G z_int
  n_enumerate := PySem.W.mg_none_of X G z_enumerate
  n_list := PySem.W.mg_none_of X G z_list
  n_range := PySem.W.mg_none_of X G z_range
  n_min := PySem.W.mg_none_of X G z_min
  n_sorted := PySem.W.mg_none_of X G z_sorted
  n_repr := PySem.W.mg_none_of X G z_repr
  n_set := PySem.W.mg_none_of X G z_set
  n_all := PySem.W.mg_none_of X G z_all
theorem kb_shifted_0_edit_at {K : PySem.W.Frag} {mg : Str → Option Value} (T : Facts K mg) : KBn K T.d_shifted ["at", "edit", "ahead"] 0 ["edit", "at"] (fun us ws => us ++ pick [1, 0] ws ++ [.bool true]) (fun vs zs => vs ++ pick [1, 0] zs ++ [.bl true]) :=
  T.Z_shifted.kbn [1, 0] rfl fun _ _ _ _ _ _ us ws h1 h2 => match us, ws, h1, h2 with | [], [_, _], _, _ => ⟨_, _, _, _, _, _, rfl, rfl, rfl⟩
theorem kb_shifted_2_ahead {K : PySem.W.Frag} {mg : Str → Option Value} (T : Facts K mg) : KBn K T.d_shifted ["at", "edit", "ahead"] 2 ["ahead"] (fun us ws => us ++ pick [0] ws) (fun vs zs => vs ++ pick [0] zs) :=
  kbn_pick T.F_shifted [0] fun _ _ _ _ _ _ us ws h1 h2 => match us, ws, h1, h2 with | [_, _], [_], _, _ => rfl
end K05

set_option maxHeartbeats 4000000
/-! Mx: things of any kind, as data: their kinds, and that they stay. -/
namespace Gx
open PySem PySem.Spec PyProof.Rows L2
theorem same_tup {K : PySem.W.Frag} {H H' : Hp} {a : Addr} {xs : List V} (e : Same H H') (h : SqT K H a xs) : SqT K H' a xs := by
  rcases h with (h | ⟨o, h⟩) | h
  · exact .inl (.inl (e _ _ h))
  · exact .inl (.inr ⟨o, e _ _ h⟩)
  · exact .inr h
mutual
theorem Dp.same {K : PySem.W.Frag} {H H' : Hp} (s : Same H H') : ∀ {v : V} {d : PyData}, Dp K H v d → Dp K H' v d
  | _, _, .non => .non
  | _, _, .bl b => .bl b
  | _, _, .int i => .int i
  | _, _, .str x => .str x
  | _, _, .lst h t => .lst (s.seq h) (DpAll.same s t)
  | _, _, .tup h t => .tup (same_tup s h) (DpAll.same s t)
theorem DpAll.same {K : PySem.W.Frag} {H H' : Hp} (s : Same H H') : ∀ {vs : List V} {ds : List PyData}, DpAll K H vs ds → DpAll K H' vs ds
  | _, _, .nil => .nil
  | _, _, .cons h t => .cons (Dp.same s h) (DpAll.same s t)
end
def tyD : PyData → String
  | .none => "NoneType"
  | .bool _ => "bool"
  | .int _ => "int"
  | .str _ => "str"
  | .list _ => "list"
  | .tuple _ => "tuple"
  | _ => "dict"
theorem dp_ty {K : PySem.W.Frag} {H : Hp} {v : V} {d : PyData} (h : Dp K H v d) : TyX K H v (.type (tyD d)) := by
  cases h with
  | non => exact .base .non
  | bl b => exact .base (.bl b)
  | int i => exact .base (.int i)
  | str x => exact .base (.str x)
  | lst h t =>
    rcases h with (h | ⟨o, h⟩) | ⟨o, its, n, e, c, _⟩
    · exact .base (.lst h)
    · exact .base (.frz h)
    · exact .kList e c
  | tup h t =>
    rcases h with (h | ⟨o, h⟩) | ⟨o, its, n, e, c, _⟩
    · exact .base (.tup h)
    · exact .fTuple h
    · exact .kTuple e c
def isI : PyData → Bool
  | .int _ => true
  | .bool _ => true
  | _ => false
def isB : PyData → Bool
  | .bool _ => true
  | _ => false
def isS : PyData → Bool
  | .str _ => true
  | _ => false
def isT : PyData → Bool
  | .tuple _ => true
  | _ => false
section
variable {K : PySem.W.Frag} {H : Hp} {v : V} {d : PyData} {Q : VK}
theorem k_int (h : Dp K H v d) : PySem.W.kitOne K (.type (tyD d)) (.type "int") = some (isI d) := kit_ty (by cases h <;> rfl)
theorem k_bool (h : Dp K H v d) : PySem.W.kitOne K (.type (tyD d)) (.type "bool") = some (isB d) := kit_ty (by cases h <;> rfl)
theorem k_str (h : Dp K H v d) : PySem.W.kitOne K (.type (tyD d)) (.type "str") = some (isS d) := kit_ty (by cases h <;> rfl)
theorem k_tuple (h : Dp K H v d) : PySem.W.kitOne K (.type (tyD d)) (.type "tuple") = some (isT d) := kit_ty (by cases h <;> rfl)
end
/-- [e for y in a tuple], by the place -/
theorem lc_tupI {K : PySem.W.Frag} {te0 te : TE} {j : Nat} {vs : List Nat} {σ : L2.St} {H : Hp} {Q : VK} {xs : List V} (f : Nat → V) (h0 : Ev1 te0 σ H fun v H1 => ∃ a, v = .ref a ∧ SqT K H1 a xs) (hx : xs.length ≤ 1000000)
    (hs : ∀ i y H', xs[i]? = some y → Same H H' → ∀ Qv : VK, (∀ H'', Same H' H'' → Qv (f i) H'') → te ((wipe σ vs).set j (some y)) H' Qv)
    (hd : ∀ D H', H D = none → Same H H' → H' D = some (.lst ((List.range xs.length).map f)) → Q (.ref D) H') (hw : ∀ x, wipe ((wipe σ vs).set j (some x)) vs = wipe σ vs := by intro x; rfl) :
    tLc (iTup K te0) (gName j) tYes te vs σ H Q := by
  refine h0 _ fun v H1 s1 e => ?_
  obtain ⟨a, rfl, hS⟩ := e
  refine ⟨a, rfl, ⟨xs, hS⟩, fun D hD => ?_⟩
  have hn : xs.length < sizeLine := Nat.lt_of_le_of_lt hx (by decide)
  refine lc_pure walk_tup f hD hn (fun H2 s2 => same_tup s2 hS) (fun i H x H' _ _ y => y.1 ▸ Same.refl _) (fun i v H2 H' hi s2 y Qv q => ?_) (fun H2 s2 e2 => ?_) hw
  · obtain ⟨rfl, hc⟩ := y
    exact hs i v _ hc (s1.trans s2) Qv q
  · exact hd D H2 (s1.free hD) (s1.trans s2) e2
end Gx

set_option maxHeartbeats 4000000
/-! Rx: things that a law bends: small numbers and texts, at times in a tuple or list of one, three or four of them together; they stay while the box is drawn from; repr of them. -/
namespace Gx
open PySem PySem.Spec PyProof.Rows L2
/-- the heap without the box -/
def off (b : Addr) (H : Hp) : Hp := fun a => if a = b then none else H a
theorem off_same {b : Addr} {H : Hp} : Same (off b H) H := fun a o h => by
  unfold off at h
  by_cases e : a = b
  · rw [if_pos e] at h; cases h
  · rw [if_neg e] at h; exact h
theorem off_at {b a : Addr} {H : Hp} {o : HO} (n : a ≠ b) (h : H a = some o) : off b H a = some o := by
  unfold off; rw [if_neg n]; exact h
theorem Drawn.off {b : Addr} {H H' : Hp} (d : Drawn b H H') : Same (off b H) (off b H') := fun a o h => by
  by_cases e : a = b
  · unfold Gx.off at h; rw [if_pos e] at h; cases h
  · exact off_at e (d.2 a o e (off_same a o h))
theorem same_off {b : Addr} {H H' : Hp} (s : Same H H') : Same (off b H) (off b H') := fun a o h => by
  by_cases e : a = b
  · unfold Gx.off at h; rw [if_pos e] at h; cases h
  · exact off_at e (s a o (off_same a o h))
/-- a number, a text, a truth, nothing -/
def Bs (B M : Nat) (d : PyData) : Prop := d = .none ∨ (∃ b, d = .bool b) ∨ (∃ i : Int, d = .int i ∧ i.natAbs ≤ B) ∨ ∃ z : Str, d = .str z ∧ z.length ≤ M ∧ ∀ c ∈ z.cps.toList, c < 1114112
/-- such a thing, or one of them in a tuple or a list -/
def PD (B M : Nat) (d : PyData) : Prop := Bs B M d ∨ ∃ e, Bs B M e ∧ (d = .tuple [e] ∨ d = .list [e])
/-- a tuple or a list of at most four of these -/
def MD (B M : Nat) (d : PyData) : Prop := ∃ ds, (d = .tuple ds ∨ d = .list ds) ∧ ds.length ≤ 4 ∧ ∀ e ∈ ds, PD B M e
theorem Bs.mono {B M B' M' : Nat} {d : PyData} (hB : B ≤ B') (hM : M ≤ M') (h : Bs B M d) : Bs B' M' d := by
  rcases h with h | h | ⟨i, h, hi⟩ | ⟨z, h, hz, hc⟩
  · exact .inl h
  · exact .inr (.inl h)
  · exact .inr (.inr (.inl ⟨i, h, by omega⟩))
  · exact .inr (.inr (.inr ⟨z, h, by omega, hc⟩))
theorem PD.mono {B M B' M' : Nat} {d : PyData} (hB : B ≤ B') (hM : M ≤ M') (h : PD B M d) : PD B' M' d := by
  rcases h with h | ⟨e, h, k⟩
  · exact .inl (h.mono hB hM)
  · exact .inr ⟨e, h.mono hB hM, k⟩
theorem ofs_lt (x : String) : ∀ c ∈ (Str.ofString x).cps.toList, c < 1114112 := by
  intro c hc
  rw [Str.ofString_eq_toList] at hc
  obtain ⟨k, _, rfl⟩ := List.mem_map.mp hc
  have := k.valid
  unfold UInt32.isValidChar Nat.isValidChar at this
  show k.val.toNat < _
  omega
/-- what repr of it asks -/
def Rp (n p : Nat) (d : PyData) : Prop := d.showable = true ∧ d.hasDict = false ∧ d.depth ≤ p ∧ d.shown.length ≤ n
theorem log_small {n : Nat} (h : n ≤ 1000000000) : n.log2 < 64 := by
  by_cases h0 : n = 0
  · subst h0; decide
  · exact (Nat.log2_lt h0).mpr (by omega)
theorem bs_rp {B M : Nat} {d : PyData} (hB : B ≤ 1000000000) (h : Bs B M d) : Rp (10 * M + 100) 0 d := by
  rcases h with rfl | ⟨b, rfl⟩ | ⟨i, rfl, hi⟩ | ⟨z, rfl, hz, hc⟩
  · exact ⟨rfl, rfl, Nat.le_refl _, by show (4 : Nat) ≤ _; omega⟩
  · refine ⟨rfl, rfl, Nat.le_refl _, ?_⟩
    cases b
    · show (5 : Nat) ≤ _; omega
    · show (4 : Nat) ≤ _; omega
  · have h64 := log_small (n := i.natAbs) (by omega)
    refine ⟨?_, rfl, Nat.le_refl _, ?_⟩
    · rw [PyData.showable]; exact decide_eq_true (by omega)
    · rw [PyData.shown]
      have h4 := int_text_length_le (a := i) (k := 64) (by decide) h64
      show (Str.ofString (toString i)).length ≤ _
      rw [PySem.ofString_length]
      omega
  · refine ⟨rfl, rfl, Nat.le_refl _, ?_⟩
    rw [PyData.shown]
    have := StrLaws.reprText_len z fun c h => Nat.lt_trans (hc c h) (by decide)
    omega
theorem all_rp {n p : Nat} : ∀ {ds : List PyData}, (∀ e ∈ ds, Rp n p e) → PyData.showableAll ds = true ∧ PyData.hasDictAll ds = false ∧ PyData.depthAll ds ≤ p ∧ ((PyData.shownAll ds).map (·.length)).sum ≤ n * ds.length ∧ (PyData.shownAll ds).length = ds.length
  | [], _ => ⟨rfl, rfl, Nat.zero_le _, Nat.le_refl _, rfl⟩
  | d :: ds, h => by
    obtain ⟨h1, h2, h3, h4, h5⟩ := all_rp (ds := ds) fun e he => h e (List.mem_cons_of_mem _ he)
    obtain ⟨k1, k2, k3, k4⟩ := h d (List.mem_cons_self ..)
    refine ⟨?_, ?_, ?_, ?_, ?_⟩
    · rw [PyData.showableAll, k1, h1]; rfl
    · rw [PyData.hasDictAll, k2, h2]; rfl
    · rw [PyData.depthAll]; omega
    · rw [PyData.shownAll, List.map_cons, List.sum_cons, List.length_cons, Nat.mul_add, Nat.mul_one]; omega
    · rw [PyData.shownAll, List.length_cons, h5, List.length_cons]
theorem seq_rp {n p : Nat} {ds : List PyData} (h : ∀ e ∈ ds, Rp n p e) (hl : ds.length ≤ 10) {d : PyData} (hd : d = .tuple ds ∨ d = .list ds) : Rp (n * ds.length + 23) (p + 1) d := by
  obtain ⟨h1, h2, h3, h4, h5⟩ := all_rp h
  rcases hd with rfl | rfl
  · refine ⟨by rw [PyData.showable]; exact h1, by rw [PyData.hasDict]; exact h2, by rw [PyData.depth]; omega, ?_⟩
    rw [PyData.shown]
    have := tupleText_len_le (PyData.shownAll ds)
    omega
  · refine ⟨by rw [PyData.showable]; exact h1, by rw [PyData.hasDict]; exact h2, by rw [PyData.depth]; omega, ?_⟩
    rw [PyData.shown]
    have := listText_len_le (PyData.shownAll ds)
    omega
theorem Rp.mono {n p n' p' : Nat} {d : PyData} (h : Rp n p d) (hn : n ≤ n') (hp : p ≤ p') : Rp n' p' d := ⟨h.1, h.2.1, Nat.le_trans h.2.2.1 hp, Nat.le_trans h.2.2.2 hn⟩
theorem pd_rp {B M : Nat} {d : PyData} (hB : B ≤ 1000000000) (h : PD B M d) : Rp (10 * M + 123) 1 d := by
  rcases h with h | ⟨e, h, k⟩
  · exact (bs_rp hB h).mono (by omega) (by omega)
  · have := seq_rp (ds := [e]) (fun x hx => by rw [List.mem_singleton.mp hx]; exact bs_rp hB h) (by show 1 ≤ 10; decide) k
    exact this.mono (by rw [List.length_singleton]; omega) (Nat.le_refl _)
theorem md_rp {B M : Nat} {d : PyData} (hB : B ≤ 1000000000) (hM : M ≤ 100000) (h : MD B M d) : Rp 5000000 2 d := by
  obtain ⟨ds, hd, hl, h⟩ := h
  have := seq_rp (fun e he => pd_rp hB (h e he)) (by omega) hd
  refine this.mono ?_ (Nat.le_refl _)
  have h2 := Nat.mul_le_mul_left (10 * M + 123) hl
  omega
end Gx

set_option maxHeartbeats 4000000
namespace K05
open PySem PySem.Spec PyProof.Rows L2 Gx Lx
local macro_rules | `(tactic| walk_at "rd") => `(tactic| simp only [tRet, tAndV, tOrV, tNotV, tChain, tOp, tUn, tCB, tCons, tNil, tVar, tC, tGo, tTup, tLst, tSl, tM1, tM0, tSeq, tAsg, gName, tIfS, tNext, rNe, rEq, rI, rI0, rU, tB, tTest, tNot, tAnd, tOr, tIf, L2.start, wipe, List.map_cons, List.map_nil, List.cons_append, List.nil_append, List.replicate_succ, List.replicate_zero, List.set_cons_zero, List.set_cons_succ, List.getElem?_cons_zero, List.getElem?_cons_succ, List.length_cons, List.length_nil, Option.some.injEq, exists_eq_left', exists_eq_left, V.str.injEq, V.bl.injEq, V.int.injEq, V.ref.injEq, List.cons.injEq, and_true, true_and, exists_and_left, Bool.false_eq_true, if_false, if_true, if_pos])
variable {P : Program} {w : World} {K : PySem.W.Frag} {mg : Str → Option Value} {base : Heap}
theorem lt1 (a b : Nat) : ([a] < [b]) ↔ a < b := by
  constructor
  · intro h
    cases h with
    | rel h => exact h
    | cons h => cases h
  · exact fun h => List.Lex.rel h
def ok1 (c : Nat) : Bool := (!decide (c < 32) && !decide (126 < c)) && !decide (c = 37)
def rowOk (l : List Nat) : Bool := decide ((l.length : Int) ≤ 60) && l.all ok1
def signsL : List Nat := (" !\"#$&'()*+,-./0123456789:;<=>?@ABCDEFGHIJKLMNOPQRSTUVWXYZ[\\]^_`abcdefghijklmnopqrstuvwxyz{|}~" : Str).cps.toList
theorem signs_ok : ∀ c : Nat, decide (c ∈ signsL) = ok1 c := by
  have h1 : ∀ c, c < 128 → decide (c ∈ signsL) = ok1 c := by decide +kernel
  have h2 : ∀ c ∈ signsL, c < 128 := by decide +kernel
  intro c
  by_cases h : c < 128
  · exact h1 c h
  · rw [decide_eq_false fun hc => h (h2 c hc)]
    unfold ok1
    rw [decide_eq_true (show 126 < c by omega)]
    simp
end K05

set_option maxHeartbeats 4000000
namespace K05
open PySem PySem.Spec PyProof.Rows L2 Gx Lx
local macro_rules | `(tactic| walk_at "rd") => `(tactic| simp only [tRet, tAndV, tOrV, tNotV, tChain, tOp, tUn, tCB, tCons, tNil, tVar, tC, tGo, tTup, tLst, tSl, tM1, tM0, tSeq, tAsg, gName, tIfS, tNext, rNe, rEq, rI, rI0, rU, tB, tTest, tNot, tAnd, tOr, tIf, L2.start, wipe, List.map_cons, List.map_nil, List.cons_append, List.nil_append, List.replicate_succ, List.replicate_zero, List.set_cons_zero, List.set_cons_succ, List.getElem?_cons_zero, List.getElem?_cons_succ, List.length_cons, List.length_nil, Option.some.injEq, exists_eq_left', exists_eq_left, V.str.injEq, V.bl.injEq, V.int.injEq, V.ref.injEq, List.cons.injEq, and_true, true_and, exists_and_left, Bool.false_eq_true, if_false, if_true, if_pos])
variable {P : Program} {w : World} {K : PySem.W.Frag} {mg : Str → Option Value} {base : Heap}
theorem ok_L_take (T : Facts K mg) : FnG P w K mg base 1 T.f_L_take T.d_L_take ["_law_box_here", "_law_many"] sp_take := by
  refine fnG_of T.F_L_take sc_L_take (fun vs H Q E h => ?_) (fun cdv A outer s H vs Q hG hr h => ?_)
  · obtain ⟨c, _, rfl, _⟩ := h; rfl
  · obtain ⟨b, n, rfl, ⟨i, j, k, hb⟩, h0, h1, q⟩ := h
    refine ⟨_, (pss_cons (ps_if (pt_cmpR op_gt (pe_ix ix_list (pv 0) pe_int (fun _ _ => rfl)) pe_int (nomark _)) (pss_cons (ps_set (i := 2) sc_L_take.nd rfl (.inl rfl) (pe_op op_mod (pe_ix ix_list (pv 0) pe_int (fun _ _ => rfl)) (pv 1)))
        (pss_cons (ps_asg (pe_op op_fdiv (pe_ix ix_list (pv 0) pe_int (fun _ _ => rfl)) (pv 1)) (pg_sub (pv 0) pe_int set_list))
        (pss_one (ps_ret (pv 2))))) pss_nil)
        (pss_cons (ps_asg (pe_op op_add (pe_ix ix_list (pv 0) pe_int (fun _ _ => rfl)) pe_int) (pg_sub (pv 0) pe_int set_list))
        (pss_cons (ps_set (i := 3) sc_L_take.nd rfl (.inl rfl) (pe_op op_mod (pe_op op_add (pe_ix ix_list (pv 0) pe_int (fun _ _ => rfl)) (pe_op op_mul pe_int (pe_ix ix_list (pv 0) pe_int (fun _ _ => rfl)))) pe_int))
        (pss_cons (ps_set (i := 3) sc_L_take.nd rfl (.inl rfl) (pe_op op_mod (pe_op op_add (pe_op op_add (pe_op op_mul (pv 3) (pv 3)) (pe_op op_mul pe_int (pe_ix ix_list (pv 0) pe_int (fun _ _ => rfl)))) pe_int) pe_int))
        (pss_cons (ps_set (i := 3) sc_L_take.nd rfl (.inl rfl) (pe_op op_mod (pe_op op_add (pe_op op_mul (pv 3) (pe_op op_add (pe_op op_fdiv (pv 3) pe_int) pe_int)) (pe_ix ix_list (pv 0) pe_int (fun _ _ => rfl))) pe_int))
        (pss_one (ps_ret (pe_op op_mod (pe_op op_fdiv (pv 3) pe_int) (pv 1))))))))), ?_⟩
    have at0 : ∀ a b' c : V, atI [a, b', c] 0 = some a := fun a b' c => atI_nat (j := 0) rfl
    have at1 : ∀ a b' c : V, atI [a, b', c] 1 = some b' := fun a b' c => atI_nat (j := 1) rfl
    have at2 : ∀ a b' c : V, atI [a, b', c] 2 = some c := fun a b' c => atI_nat (j := 2) rfl
    have hS : SqL K H b [.int i, .int j, .int k] := SqL.of hb
    refine ⟨.ref b, rfl, b, _, 0, _, rfl, rfl, hS, at0 _ _ _, _, _, rfl, rfl, _, rfl, ite2 (fun hi => ?_) (fun hi => ?_)⟩
    · have hi' : 0 < i := of_decide_eq_true hi
      refine ⟨.ref b, rfl, b, _, 0, _, rfl, rfl, hS, at0 _ _ _, _, rfl, _, _, rfl, rfl, h0, ?_⟩
      refine ⟨.ref b, rfl, b, _, 0, _, rfl, rfl, hS, at0 _ _ _, _, rfl, _, _, rfl, rfl, ⟨h0, h1⟩, ?_⟩
      refine ⟨.ref b, rfl, b, _, 0, 0, rfl, rfl, hb, rfl, ?_⟩
      refine ⟨_, rfl, q _ _ (Int.emod_nonneg _ (by omega)) (Int.emod_lt_of_pos _ h0) ?_⟩
      exact Drawn.set fun a o _ h => h
    · refine ⟨.ref b, rfl, b, _, 2, _, rfl, rfl, hS, at2 _ _ _, _, _, rfl, rfl, ?_⟩
      refine ⟨.ref b, rfl, b, _, 2, 2, rfl, rfl, hb, rfl, ?_⟩
      have hb2 : upd H b (.lst ([V.int i, .int j, .int k].set 2 (.int (k + 1)))) b = some (.lst [.int i, .int j, .int (k + 1)]) := upd_same
      have hd : ∀ a o, a ≠ b → H a = some o → upd H b (.lst ([V.int i, .int j, .int k].set 2 (.int (k + 1)))) a = some o := fun a o n h => by rw [upd_ne n]; exact h
      generalize upd H b (.lst ([V.int i, .int j, .int k].set 2 (.int (k + 1)))) = H1 at hb2 hd ⊢
      have hS1 : SqL K H1 b [.int i, .int j, .int (k + 1)] := SqL.of hb2
      -- mixed
      refine ⟨.ref b, rfl, b, _, 1, _, rfl, rfl, hS1, at1 _ _ _, .ref b, rfl, b, _, 2, _, rfl, rfl, hS1, at2 _ _ _, _, _, rfl, rfl, .inl (by decide), _, _, rfl, rfl, _, _, rfl, rfl, (by decide : (0 : Int) < 2305843009213693951), ?_⟩
      have hm1 := Int.emod_nonneg (j + 1442695040888963407 * (k + 1)) (show (2305843009213693951 : Int) ≠ 0 by decide)
      have hm2 := Int.emod_lt_of_pos (j + 1442695040888963407 * (k + 1)) (show (0 : Int) < 2305843009213693951 by decide)
      dsimp only
      generalize (j + 1442695040888963407 * (k + 1)) % 2305843009213693951 = m at hm1 hm2
      refine ⟨.int m, rfl, .int m, rfl, _, _, rfl, rfl, .inl (by omega), .ref b, rfl, b, _, 2, _, rfl, rfl, hS1, at2 _ _ _, _, _, rfl, rfl, .inl (by decide), _, _, rfl, rfl, _, _, rfl, rfl, _, _, rfl, rfl, (by decide : (0 : Int) < 2305843009213693921), ?_⟩
      have hm3 := Int.emod_nonneg (m * m + 39373 * (k + 1) + 7) (show (2305843009213693921 : Int) ≠ 0 by decide)
      have hm4 := Int.emod_lt_of_pos (m * m + 39373 * (k + 1) + 7) (show (0 : Int) < 2305843009213693921 by decide)
      dsimp only
      generalize (m * m + 39373 * (k + 1) + 7) % 2305843009213693921 = m' at hm3 hm4
      refine ⟨.int m', rfl, .int m', rfl, _, _, rfl, rfl, ⟨by decide, by decide⟩, _, _, rfl, rfl, _, _, rfl, rfl, .inl (by omega), .ref b, rfl, b, _, 2, _, rfl, rfl, hS1, at2 _ _ _, _, _, rfl, rfl, _, _, rfl, rfl, (by decide : (0 : Int) < 2305843009213693907), ?_⟩
      dsimp only
      generalize (m' * (m' / 65536 + 3) + (k + 1)) % 2305843009213693907 = m''
      refine ⟨.int m'', rfl, _, _, rfl, rfl, ⟨by decide, by decide⟩, .int n, rfl, _, _, rfl, rfl, h0, q _ _ (Int.emod_nonneg _ (by omega)) (Int.emod_lt_of_pos _ h0) ⟨⟨_, _, _, hb2⟩, hd⟩⟩
/-! ### one of some -/
def sp_oneG : Sp := fun vs H Q _ => ∃ (b : Addr) (v : V) (xs : List V), vs = [.ref b, v] ∧ IsBox H b ∧ xs ≠ [] ∧ xs.length ≤ 100000 ∧
  ((∃ a, v = .ref a ∧ a ≠ b ∧ H a = some (.lst xs)) ∨ ∃ x : Str, v = .str x ∧ xs = x.cps.toList.map fun c => .str (SX.S [c])) ∧ ∀ y H', y ∈ xs → Drawn b H H' → Q y H'
theorem oneG_of {vs : List V} {H : Hp} {Q : VK} {E : XK} (h : sp_one_of vs H Q E) : sp_oneG vs H Q E := by
  obtain ⟨b, v, ls, rfl, hb, hne, hlen, hv, q⟩ := h
  refine ⟨b, v, txts ls, rfl, hb, ?_, by unfold txts; rw [List.length_map]; omega, ?_, fun y H' hy d => ?_⟩
  · intro e
    exact hne (List.map_eq_nil_iff.mp e)
  · rcases hv with ⟨a, rfl, ha⟩ | ⟨x, rfl, hx⟩
    · refine .inl ⟨a, rfl, fun e => ?_, ha⟩
      subst e
      obtain ⟨i, j, k, z⟩ := hb
      rw [ha] at z
      cases ls with
      | nil => exact hne rfl
      | cons l r => cases z
    · exact .inr ⟨x, rfl, by rw [hx]; unfold txts; rw [List.map_map]; rfl⟩
  · obtain ⟨l, hl, rfl⟩ := List.mem_map.mp hy
    exact q l H' hl d
theorem ok_L_one_of (T : Facts K mg) : FnG P w K mg base 2 T.f_L_one_of T.d_L_one_of ["_law_box_here", "_law_some"] sp_oneG := by
  refine fnG_of T.F_L_one_of sc_L_one_of (fun vs H Q E h => ?_) (fun cdv A outer s H vs Q hG hr h => ?_)
  · obtain ⟨c, _, _, rfl, _⟩ := h; rfl
  · obtain ⟨b, v, ls, rfl, hb, hne, hlen, hv, q⟩ := h
    refine ⟨_, (pss_one (ps_ret (pe_ix ix_seq (pv 1) (pe_go (ok_L_take T) hG (hr.mono (by decide)) (by rfl) T.g_L_take T.F_L_take.kp T.b_L_take (pa_cons (pv 0) (pa_cons (pe_callB call_len (by rfl) T.n_len PySem.boot_len (pa_cons (pv 1) pa_nil)) pa_nil))) (fun _ _ => rfl)))), ?_⟩
    have hpos : 0 < ls.length := List.length_pos_iff.mpr hne
    rcases hv with ⟨a, rfl, hab, ha⟩ | ⟨x, rfl, hx⟩
    · refine ⟨_, rfl, _, rfl, _, rfl, _, ls.length, rfl, .inl ⟨_, SqL.of ha, rfl⟩, b, _, rfl, hb, by omega, by omega, fun z H' h0 h1 hd => ?_⟩
      have hz : ls[z.toNat]? = some (ls[z.toNat]'(by omega)) := List.getElem?_eq_getElem (by omega)
      refine .inl ⟨a, ls, z, _, rfl, rfl, SqL.of (hd.2 _ _ hab ha), at_of (j := z.toNat) (by omega) hz, q _ _ (List.getElem_mem _) hd⟩
    · have hline : (100000 : Nat) ≤ sizeLine := by decide
      have hxl : x.length = ls.length := by rw [hx, List.length_map, Array.length_toList]; rfl
      refine ⟨_, rfl, _, rfl, _, rfl, _, ls.length, rfl, ⟨by omega, hxl.symm⟩, b, _, rfl, hb, by omega, by omega, fun z H' h0 h1 hd => ?_⟩
      have hz2 : z.toNat < x.cps.toList.length := by rw [Array.length_toList]; show z.toNat < x.length; omega
      obtain ⟨c, hz⟩ : ∃ c, x.cps.toList[z.toNat]? = some c := ⟨_, List.getElem?_eq_getElem hz2⟩
      have ez := atI_nat (j := z.toNat) hz
      rw [show ((z.toNat : Nat) : Int) = z by omega] at ez
      exact .inr (.inr ⟨x, z, c, rfl, rfl, by omega, ez, q _ _ (by rw [hx]; exact List.mem_map.mpr ⟨_, List.mem_of_getElem? hz, rfl⟩) hd⟩)
/-! ### the box, the cells -/
def sp_box (K : PySem.W.Frag) : Sp := fun vs H Q _ => ∃ (a : Addr) (cs : List Int) (k : Nat), vs = [.ref a, .int (k : Int)] ∧ SqL K H a (cs.map V.int) ∧ k < cs.length ∧ cs.length ≤ 1000 ∧ ∀ p H', H p = none → Same H H' → IsBox H' p → Q (.ref p) H'
theorem ok_L_box (T : Facts K mg) : FnG P w K mg base 1 T.f_L_box T.d_L_box ["_law_cells_here", "_law_k"] (sp_box K) := by
  refine fnG_of T.F_L_box sc_L_box (fun vs H Q E h => ?_) (fun cdv A outer s H vs Q hG hr h => ?_)
  · obtain ⟨c, _, _, rfl, _⟩ := h; rfl
  · obtain ⟨a, cs, k, rfl, hS, hk, hz, q⟩ := h
    refine ⟨_, (pss_cons (ps_set (i := 2) sc_L_box.nd rfl (.inl rfl) (pe_ix ix_list (pv 0) (pv 1) (fun _ _ => rfl)))
        (pss_one (ps_ret (pe_lst (pa_cons (pe_op op_mul (pe_callB call_abs (by rfl) T.n_abs (by decide +kernel) (pa_cons (pv 2) pa_nil)) (pe_callTy call_int1 (by rfl) T.n_int (by decide +kernel) (pa_cons (pe_cmpR op_ge (pe_callB call_abs (by rfl) T.n_abs (by decide +kernel) (pa_cons (pv 2) pa_nil)) (pe_op op_pow pe_int pe_int) (nomark _)) pa_nil))) (pa_cons (pe_op op_add (pe_op op_add (pe_op op_mod (pv 2) pe_int) (pe_op op_mul pe_int (pv 1))) pe_int) (pa_cons pe_int pa_nil))))))), ?_⟩
    have hc : (cs.map V.int)[k]? = some (.int cs[k]) := by rw [List.getElem?_map, List.getElem?_eq_getElem hk]; rfl
    refine ⟨_, rfl, _, rfl, a, _, _, _, rfl, rfl, hS, atI_nat hc, ?_⟩
    generalize cs[k] = c
    refine ⟨.int c, rfl, c, rfl, .int c, rfl, c, rfl, 10, 18, rfl, rfl, ⟨by decide, by decide, by decide⟩, _, _, rfl, rfl, .inr ⟨_, rfl, ?_⟩⟩
    refine ⟨_, _, rfl, rfl, .inr ?_, .int c, rfl, c, _, rfl, rfl, (by decide : (0 : Int) < 2305843009213693951), .int k, rfl, _, _, rfl, rfl, .inl (by decide), _, _, rfl, rfl, _, _, rfl, rfl, ?_⟩
    · exact (by decide : ∀ d : Bool, -(2 : Int) ^ 64 < (if d = true then (1 : Int) else 0) ∧ (if d = true then (1 : Int) else 0) < 2 ^ 64) _
    · refine ⟨by show 3 ≤ sizeLine; decide, fun p hp => q p _ hp (same_new hp) ⟨_, _, _, upd_same⟩⟩
end K05

set_option maxHeartbeats 4000000
namespace K05
open PySem PySem.Spec PyProof.Rows L2 Gx Lx
local macro_rules | `(tactic| walk_at "rd") => `(tactic| simp only [tRet, tAndV, tOrV, tNotV, tChain, tOp, tUn, tCB, tCons, tNil, tVar, tC, tGo, tTup, tLst, tSl, tM1, tM0, tSeq, tAsg, gName, tIfS, tNext, rNe, rEq, rI, rI0, rU, tB, tTest, tNot, tAnd, tOr, tIf, L2.start, wipe, List.map_cons, List.map_nil, List.cons_append, List.nil_append, List.replicate_succ, List.replicate_zero, List.set_cons_zero, List.set_cons_succ, List.getElem?_cons_zero, List.getElem?_cons_succ, List.length_cons, List.length_nil, Option.some.injEq, exists_eq_left', exists_eq_left, V.str.injEq, V.bl.injEq, V.int.injEq, V.ref.injEq, List.cons.injEq, and_true, true_and, exists_and_left, Bool.false_eq_true, if_false, if_true, if_pos])
variable {P : Program} {w : World} {K : PySem.W.Frag} {mg : Str → Option Value} {base : Heap}
def sp_cells (K : PySem.W.Frag) : Sp := fun vs H Q _ => ∃ (a : Addr) (ns : List Int) (u : Nat), vs = [.ref a, .int (u : Int)] ∧ SqL K H a (ns.map V.int) ∧ ns.length ≤ 63 ∧ 0 < u ∧ u ≤ 63 ∧
  ∀ (p : Addr) (cs : List Int) (H' : Hp), 0 < cs.length → cs.length ≤ u → H p = none → Same H H' → H' p = some (.lst (cs.map V.int)) → Q (.ref p) H'
theorem or_cells {ta : TE} {σ : L2.St} {H : Hp} {Q0 : VK} {ns : List Int} {u : Nat} (hu0 : 0 < u)
    (hta : ∀ R : VK, (∀ l H1, H l = none → Same H H1 → H1 l = some (.lst ((ns.take u).map V.int)) → R (.ref l) H1) → ta σ H R)
    (rest : ∀ p H1 (cs : List Int), H p = none → Same H H1 → H1 p = some (.lst (cs.map V.int)) → 0 < cs.length → (u < ns.length → cs.length = u) → cs.length ≤ u → Q0 (.ref p) H1) :
    tOrT K ta (tLst (tCons (tC (.int 0)) tNil)) σ H Q0 := by
  refine hta _ fun l H1 hl s1 e1 => ⟨_, .inl ⟨_, SqL.of e1, rfl⟩, ite2 (fun h => ?_) (fun h => ?_)⟩
  · exact rest l _ (ns.take u) hl s1 e1 (by cases ns with
      | nil => simp at h
      | cons n r => rw [List.length_take, List.length_cons]; omega) (fun h => by rw [List.length_take]; omega) (by rw [List.length_take]; omega)
  · refine ⟨by show 1 ≤ sizeLine; decide, fun p hp => rest p _ [0] (s1.free hp) (s1.trans (same_new hp)) upd_same (by decide) (fun h2 => ?_) (by show 1 ≤ u; omega)⟩
    exfalso
    apply h
    cases ns with
    | nil => simp at h2
    | cons n r => cases u with
      | zero => omega
      | succ u => rfl
theorem ok_L_cells (T : Facts K mg) : FnG P w K mg base 1 T.f_L_cells T.d_L_cells ["_law_script", "_law_utmost"] (sp_cells K) := by
  refine fnG_of T.F_L_cells sc_L_cells (fun vs H Q E h => ?_) (fun cdv A outer s H vs Q hG hr h => ?_)
  · obtain ⟨c, _, _, rfl, _⟩ := h; rfl
  · obtain ⟨a, ns, u, rfl, hS, hz, hu0, hu, q⟩ := h
    refine ⟨_, (pss_cons (ps_set (i := 2) sc_L_cells.nd rfl (.inl rfl) (pe_orT (pe_callTy call_list_of (by rfl) T.n_list (by decide +kernel) (pa_cons (pe_slice sl_list (pv 0) po_none (po_some (pv 1))) pa_nil)) (pe_one (pe_lst (pa_cons pe_int pa_nil)))))
        (pss_cons (ps_for PassesOwn.never rfl (pi_enum (by rfl) T.n_enumerate (pa_cons (pe_slice sl_list (pv 0) (po_some (pv 1)) (po_some pe_int)) pa_nil)) (pg_tup rfl (pgs_cons (pg_name (i := 3) sc_L_cells.nd rfl (.inl rfl)) (pgs_cons (pg_name (i := 4) sc_L_cells.nd rfl (.inl rfl)) pgs_nil))) (pss_one (ps_asg (pe_op op_add (pe_ix ix_list (pv 2) (pe_op op_mod (pv 3) (pv 1)) (fun _ _ => rfl)) (pe_op op_mul (pv 4) (pe_op op_add (pv 3) pe_int))) (pg_sub (pv 2) (pe_op op_mod (pv 3) (pv 1)) set_list))))
        (pss_one (ps_ret (pv 2))))), ?_⟩
    refine or_cells (K := K) (ns := ns) hu0 (fun R r => ?_) (fun p H1 cs hp s1 e1 h0 h2 h3 => ?_)
    · refine ⟨.ref a, rfl, .int u, rfl, u, rfl, a, _, rfl, hS, fun p1 hp1 => ?_⟩
      rw [cutV_to, ← List.map_take]
      exact ⟨p1, _, rfl, .inl (SqL.of upd_same), fun l hl => r l _ ((same_new hp1).free hl) ((same_new hp1).trans (same_new hl)) upd_same⟩
    · have hS1 := s1.seq hS
      refine ⟨.ref a, rfl, .int u, rfl, u, rfl, 63, rfl, a, _, rfl, hS1, fun sl hsl => ?_⟩
      rw [show (63 : Int) = ((63 : Nat) : Int) from rfl, cutV_mid, ← List.map_take, List.take_of_length_le hz, ← List.map_drop]
      have hne : p ≠ sl := ne_of_none e1 hsl
      refine ⟨sl, _, rfl, SqL.of upd_same, ?_⟩
      refine for_it (walk_enum (K := K) (a := sl) (xs := (ns.drop u).map V.int)) (fun i σ H' => ∃ cs' y3 y4, σ = [some (.ref a), some (.int u), some (.ref p), y3, y4] ∧ cs'.length = cs.length ∧ H' p = some (.lst (cs'.map V.int)) ∧ H' sl = some (.lst ((ns.drop u).map V.int)) ∧ Same H H')
        ⟨cs, none, none, rfl, rfl, ?_, upd_same, s1.trans (same_new hsl)⟩ (fun i σ H' _ hP => ?_) (fun i v σ H2 H3 hi hP hy => ?_) (fun σ H2 hP => ?_)
      · rw [upd_ne hne]; exact e1
      · obtain ⟨_, _, _, _, _, _, e, _⟩ := hP; exact SqL.of e
      · obtain ⟨cs', y3, y4, rfl, el, ep, es, sm⟩ := hP
        obtain ⟨t, x, y, rfl, ht, rfl, e3, e4⟩ := hy
        have hi' : i < (ns.drop u).length := by rw [List.length_map] at hi; exact hi
        have ex : x = .int (i : Nat) := (Option.some.inj e3).symm
        have ey : y = .int (ns.drop u)[i] := by
          have e5 : ((ns.drop u).map V.int)[i]? = some y := e4
          rw [List.getElem?_map, List.getElem?_eq_getElem hi'] at e5
          exact (Option.some.inj e5).symm
        subst ex ey
        generalize (ns.drop u)[i] = c
        have hcu : cs'.length = u := by rw [el]; exact h2 (by rw [List.length_drop] at hi'; omega)
        refine ⟨t, _, rfl, SqT.of upd_same, rfl, _, _, rfl, _, _, rfl, rfl, ?_⟩
        have hpt : p ≠ t := ne_of_none ep ht
        have hst : sl ≠ t := ne_of_none es ht
        have ep2 : (upd H2 t (.tup [.int (i : Nat), .int c])) p = some (.lst (cs'.map V.int)) := by rw [upd_ne hpt]; exact ep
        have hm : (((i : Nat) : Int) % ((u : Nat) : Int)) = ((i % u : Nat) : Int) := rfl
        have hlt : i % u < cs'.length := by rw [hcu]; exact Nat.mod_lt _ hu0
        have hget : (cs'.map V.int)[i % u]? = some (.int cs'[i % u]) := by rw [List.getElem?_map, List.getElem?_eq_getElem hlt]; rfl
        have hilt : i < 63 := by rw [List.length_drop] at hi'; omega
        refine ⟨_, rfl, _, rfl, .int u, rfl, _, _, rfl, rfl, (by show (0 : Int) < (u : Int); omega), p, _, _, _, rfl, rfl, SqL.of ep2, atI_nat hget, ?_⟩
        refine ⟨.int c, rfl, .int i, rfl, _, _, rfl, rfl, _, _, rfl, rfl, .inr ⟨by show -(2 : Int) ^ 64 < (i : Int) + 2; omega, by show (i : Int) + 2 < (2 : Int) ^ 64; omega⟩, _, _, rfl, rfl, ?_⟩
        refine ⟨_, rfl, .int i, rfl, .int u, rfl, _, _, rfl, rfl, (by show (0 : Int) < (u : Int); omega), p, _, _, i % u, rfl, rfl, ep2, ?_, ?_⟩
        · show ixN _ (((i : Nat) : Int) % ((u : Nat) : Int)) = _
          rw [hm]
          unfold ixN
          rw [List.length_map, if_pos (by omega), if_pos (by omega), Int.toNat_natCast]
        · refine ⟨cs'.set (i % u) (cs'[i % u] + c * ((i : Int) + 2)), _, _, rfl, by rw [List.length_set]; exact el, ?_, ?_, ?_⟩
          · rw [upd_same, List.map_set]
          · rw [upd_ne (Ne.symm hne), upd_ne hst]; exact es
          · exact same_at (sm.trans (same_new ht)) hp
      · obtain ⟨cs', y3, y4, rfl, el, ep, es, sm⟩ := hP
        exact ⟨_, rfl, q p cs' H2 (by omega) (by omega) hp sm ep⟩
theorem joinL_nil (ls : List (List Nat)) : TL.joinL [] ls = ls.flatten := by
  induction ls with
  | nil => rfl
  | cons a t ih =>
    cases t with
    | nil => simp [TL.joinL]
    | cons b r => 
      show a ++ ([] ++ TL.joinL [] (b :: r)) = _
      rw [ih]; simp
def rowGood (l : List Nat) : Prop := l.length ≤ 20 ∧ l.all ok1 = true
def sp_row : Sp := fun vs H Q _ => ∃ b : Addr, vs = [.ref b] ∧ IsBox H b ∧ ∀ l H', rowGood l → Drawn b H H' → Q (.str (SX.S l)) H'
def rowsC : List Str := ["", "let a = 1", "let bc = a + 20", "def f(x num) = x * 2", "take b", "let s = \"begin b\"", "a b", "if yes", "]"]
theorem rowsC_good : ∀ l ∈ rowsC.map (fun z => z.cps.toList), rowGood l := by
  unfold rowGood; decide +kernel
def rowS : Str := " ab19=+()\",[]&<*-~!.Z"
theorem rowS_good : ∀ l ∈ rowS.cps.toList.map (fun c => [c]), l.length = 1 ∧ l.all ok1 = true := by decide +kernel
theorem rowGood.take {l : List Nat} (h : rowGood l) (n : Nat) : rowGood (l.take n) := by
  refine ⟨by rw [List.length_take]; have := h.1; omega, ?_⟩
  rw [List.all_eq_true]
  exact fun x hx => List.all_eq_true.mp h.2 x (List.mem_of_mem_take hx)
theorem ok_L_row (T : Facts K mg) : FnG P w K mg base 3 T.f_L_row T.d_L_row ["_law_box_here"] sp_row := by
  refine fnG_of T.F_L_row sc_L_row (fun vs H Q E h => ?_) (fun cdv A outer s H vs Q hG hr h => ?_)
  · obtain ⟨c, rfl, _⟩ := h; rfl
  · obtain ⟨b, rfl, hb, q⟩ := h
    refine ⟨_, (pss_cons (ps_set (i := 1) sc_L_row.nd rfl (.inl rfl) (pe_lst (pa_cons pe_str (pa_cons pe_str (pa_cons pe_str (pa_cons pe_str (pa_cons pe_str (pa_cons pe_str pa_nil))))))))
        (pss_cons (ps_set (i := 1) sc_L_row.nd rfl (.inl rfl) (pe_op op_cat (pv 1) (pe_lst (pa_cons pe_str (pa_cons pe_str (pa_cons pe_str pa_nil))))))
        (pss_cons (ps_par (i := 2) (j := 3) (by rfl) sc_L_row.nd rfl rfl (by decide) rfl rfl (pa_cons (pe_go (ok_L_one_of T) hG (hr.mono (by decide)) (by rfl) T.g_L_one_of T.F_L_one_of.kp T.b_L_one_of (pa_cons (pv 0) (pa_cons (pv 1) pa_nil))) (pa_cons (pe_go (ok_L_take T) hG (hr.mono (by decide)) (by rfl) T.g_L_take T.F_L_take.kp T.b_L_take (pa_cons (pv 0) (pa_cons pe_int pa_nil))) pa_nil)) (by rfl))
        (pss_cons (ps_if (pt_cmpR op_eq (pv 3) pe_int (nomark _)) (pss_one (ps_ret (pe_slice sl_str (pv 2) po_none (po_some (pe_go (ok_L_take T) hG (hr.mono (by decide)) (by rfl) T.g_L_take T.F_L_take.kp T.b_L_take (pa_cons (pv 0) (pa_cons (pe_op op_add (pe_callB call_len_str (by rfl) T.n_len PySem.boot_len (pa_cons (pv 2) pa_nil)) pe_int) pa_nil))))))) pss_nil)
        (pss_cons (ps_if (pt_cmpR op_eq (pv 3) pe_int (nomark _)) (pss_cons (ps_set (i := 4) sc_L_row.nd rfl (.inr rfl) pe_str)
        (pss_one (ps_ret (pe_join pe_str (pe_lc (own := [("_law_k", 5)]) rfl sc_L_row.nd (pi_range1 (by rfl) T.n_range (pa_cons (pe_go (ok_L_take T) hG (hr.mono (by decide)) (by rfl) T.g_L_take T.F_L_take.kp T.b_L_take (pa_cons (pv 0) (pa_cons pe_int pa_nil))) pa_nil)) (blkOk_by (own := [("_law_k", 5)]) (N := ["_law_box_here", "_law_some", "_law_row_here", "_law_way", "_law_signs", "_law_k"]) (sc := defScope s_L_row) (by decide +kernel)) (fun _ _ _ _ _ => (pg_name (i := 5) sc_L_row.nd rfl (.inl rfl))) (fun _ _ _ _ _ => pts_nil) (fun _ _ _ _ _ => (pe_go (ok_L_one_of T) hG (hr.mono (by decide)) (by rfl) T.g_L_one_of T.F_L_one_of.kp T.b_L_one_of (pa_cons (pv 0) (pa_cons (pv 4) pa_nil))))))))) pss_nil)
        (pss_one (ps_ret (pv 2)))))))), ?_⟩
    have hline : (1000 : Nat) ≤ sizeLine := by decide
    refine ⟨by show 6 ≤ sizeLine; decide, fun p1 hp1 => ?_⟩
    refine ⟨_, rfl, by show 3 ≤ sizeLine; decide, fun p2 hp2 => ⟨p1, p2, _, _, rfl, rfl, same_new hp2 _ _ upd_same, upd_same, by show 6 + 3 ≤ sizeLine; decide, fun p3 hp3 => ?_⟩⟩
    generalize hH1 : upd (upd (upd H p1 _) p2 _) p3 _ = H1
    have s1 : Same H H1 := by rw [← hH1]; exact ((same_new hp1).trans (same_new hp2)).trans (same_new hp3)
    have e1 : H1 p3 = some (.lst (txts (rowsC.map fun z => z.cps.toList))) := by rw [← hH1, upd_same, txts_of]; rfl
    clear hH1
    have d1 : Drawn b H H1 := Drawn.of hb s1
    refine ⟨_, rfl, _, rfl, oneG_of (E := E0) ⟨b, _, rowsC.map (fun z => z.cps.toList), rfl, d1.1, by decide, by decide, .inl ⟨p3, rfl, e1⟩, fun l H2 hl d2 => ?_⟩⟩
    have hlg := rowsC_good l hl
    refine ⟨_, rfl, b, 4, rfl, d2.1, by decide, by decide, fun way H3 h0 h1 d3 => ?_⟩
    have d4 := (d1.trans d2).trans d3
    refine ⟨_, _, rfl, ?_⟩
    refine ⟨_, rfl, rfl, _, rfl, ite2 (fun hw => ?_) (fun hw => ?_)⟩
    · refine ⟨_, rfl, _, rfl, _, rfl, SX.S l, rfl, by rw [SX.S_len]; have := hlg.1; omega, _, _, rfl, rfl, b, _, rfl, d3.1, by show (0 : Int) < _ + 1; omega, by show ((SX.S l).length : Int) + 1 < 1073741824; rw [SX.S_len]; have := hlg.1; omega, fun v H4 h2 h3 d5 => ?_⟩
      refine ⟨v, rfl, SX.S l, rfl, by rw [SX.S_len]; have := hlg.1; omega, ?_⟩
      have e := cutS_to (SX.S l) v.toNat
      rw [show ((v.toNat : Nat) : Int) = v by omega] at e
      have q1 := q (l.take v.toNat) H4 (hlg.take _) (d4.trans d5)
      rw [← SX.S_tl (cutS (SX.S l) none (some v)), e]
      exact q1
    · refine ⟨_, rfl, rfl, _, rfl, ite2 (fun hw2 => ?_) (fun hw2 => ?_)⟩
      · refine ⟨⟨_, rfl⟩, ?_⟩
        have eS : V.str rowS = V.str (SX.S rowS.cps.toList) := by rw [SX.S_tl]
        refine lc_drawn (b := b) (j := 5) (vs := [5]) (fun m => m ≤ 8) (fun l => l.length = 1 ∧ l.all ok1 = true) d4.1 (fun m h => by omega) (fun R r => ?_) (fun k H' hb' Qv q1 => ?_) (fun D ls H' h8 hR hD d5 => ?_) (fun x => rfl)
        · exact ⟨_, rfl, b, 9, rfl, d4.1, by decide, by decide, fun v H4 h2 h3 d5 => by
            have e := r H4 v.toNat (by omega) d5
            rw [show ((v.toNat : Nat) : Int) = v by omega] at e
            exact e⟩
        · exact ⟨_, rfl, _, rfl, oneG_of (E := E0) ⟨b, _, rowS.cps.toList.map (fun c => [c]), rfl, hb', by decide +kernel, by decide +kernel, .inr ⟨rowS, rfl, rfl⟩, fun l' H4 hl' d5 => q1 l' H4 (rowS_good l' hl') d5⟩⟩
        · have hfl : ls.flatten.length = ls.length := by
            rw [List.length_flatten]
            have : ∀ ys : List (List Nat), (∀ l ∈ ys, l.length = 1 ∧ l.all ok1 = true) → (ys.map List.length).sum = ys.length := by
              intro ys
              induction ys with
              | nil => exact fun _ => rfl
              | cons y ys ih => exact fun h => by rw [List.map_cons, List.sum_cons, ih fun l hl => h l (List.mem_cons_of_mem _ hl), (h y (List.mem_cons_self ..)).1, List.length_cons]; omega
            exact this ls hR
          refine ⟨SX.S [], D, ls.map SX.S, rfl, rfl, .inl (SqL.of (by rw [← txts_eq]; exact hD)), ?_, ?_⟩
          · rw [SX.lens, SX.S_len, List.length_nil, Nat.mul_zero, Nat.add_zero, ← List.length_flatten, hfl]; omega
          · rw [SX.join_S, joinL_nil]
            refine q ls.flatten H' ⟨by omega, ?_⟩ (d4.trans d5)
            rw [List.all_eq_true]
            intro x hx
            obtain ⟨l', hl', hx'⟩ := List.mem_flatten.mp hx
            exact List.all_eq_true.mp (hR l' hl').2 x hx'
      · exact ⟨_, rfl, q l H3 hlg d4⟩
/-! ### a text -/
def sp_ltext : Sp := fun vs H Q _ => ∃ (b : Addr) (n : Int), vs = [.ref b, .int n] ∧ IsBox H b ∧ 0 < n ∧ n ≤ 24 ∧ ∀ (ls : List (List Nat)) (H' : Hp), 0 < ls.length → ls.length ≤ 24 → (∀ l ∈ ls, rowGood l) → Drawn b H H' → Q (.str (SX.S (TL.joinL [10] ls))) H'
theorem ok_L_text (T : Facts K mg) : FnG P w K mg base 4 T.f_L_text T.d_L_text ["_law_box_here", "_law_many"] sp_ltext := by
  refine fnG_of T.F_L_text sc_L_text (fun vs H Q E h => ?_) (fun cdv A outer s H vs Q hG hr h => ?_)
  · obtain ⟨c, _, rfl, _⟩ := h; rfl
  · obtain ⟨b, n, rfl, hb, h0, h1, q⟩ := h
    refine ⟨_, (pss_one (ps_ret (pe_join pe_str (pe_lc (own := [("_law_k", 2)]) rfl sc_L_text.nd (pi_range1 (by rfl) T.n_range (pa_cons (pe_op op_add pe_int (pe_go (ok_L_take T) hG (hr.mono (by decide)) (by rfl) T.g_L_take T.F_L_take.kp T.b_L_take (pa_cons (pv 0) (pa_cons (pv 1) pa_nil)))) pa_nil)) (blkOk_by (own := [("_law_k", 2)]) (N := ["_law_box_here", "_law_many", "_law_k"]) (sc := defScope s_L_text) (by decide +kernel)) (fun _ _ _ _ _ => (pg_name (i := 2) sc_L_text.nd rfl (.inl rfl))) (fun _ _ _ _ _ => pts_nil) (fun _ _ _ _ _ => (pe_go (ok_L_row T) hG (hr.mono (by decide)) (by rfl) T.g_L_row T.F_L_row.kp T.b_L_row (pa_cons (pv 0) pa_nil))))))), ?_⟩
    refine ⟨⟨_, rfl⟩, ?_⟩
    refine lc_drawn (b := b) (j := 2) (vs := [2]) (fun m => 0 < m ∧ m ≤ 24) rowGood hb (fun m h => by omega) (fun R r => ?_) (fun k H' hb' Qv q1 => ?_) (fun D ls H' h8 hR hD d5 => ?_) (fun x => rfl)
    · exact ⟨_, rfl, _, rfl, b, n, rfl, hb, h0, by omega, fun v H4 h2 h3 d5 => ⟨_, _, rfl, rfl, by
        have e := r H4 (1 + v).toNat (by omega) d5
        rw [show (((1 + v).toNat : Nat) : Int) = 1 + v by omega] at e
        exact e⟩⟩
    · exact ⟨_, rfl, b, rfl, hb', fun l H4 hl d5 => q1 l H4 hl d5⟩
    · refine ⟨nl, D, ls.map SX.S, rfl, rfl, .inl (SqL.of (by rw [← txts_eq]; exact hD)), join_room ?_, ?_⟩
      · have : ∀ ys : List (List Nat), (∀ l ∈ ys, rowGood l) → (ys.map fun l => l.length + 1).sum ≤ 21 * ys.length := by
          intro ys
          induction ys with
          | nil => exact fun _ => Nat.le_refl _
          | cons y ys ih =>
            intro h
            rw [List.map_cons, List.sum_cons, List.length_cons]
            have h3 := ih fun l hl => h l (List.mem_cons_of_mem _ hl)
            have h4 := (h y (List.mem_cons_self ..)).1
            omega
        have := this ls hR
        omega
      · rw [join_S ⟨#[]⟩ ls]
        exact q ls H' h8.1 h8.2 hR d5
theorem flat_le (m : Nat) : ∀ ys : List (List Nat), (∀ l ∈ ys, l.length ≤ m) → (ys.map fun l => l.length + 1).sum ≤ (m + 1) * ys.length
  | [], _ => Nat.zero_le _
  | y :: ys, h => by
    have h3 := flat_le m ys fun l hl => h l (List.mem_cons_of_mem _ hl)
    have h4 := h y (List.mem_cons_self ..)
    rw [List.map_cons, List.sum_cons, List.length_cons, Nat.mul_add, Nat.mul_one]
    omega
theorem joinL_len : ∀ ys : List (List Nat), (TL.joinL [10] ys).length ≤ (ys.map fun l => l.length + 1).sum
  | [] => Nat.le_refl _
  | [y] => by show y.length ≤ _; simp
  | y :: z :: ys => by
    have h := joinL_len (z :: ys)
    show (y ++ ([10] ++ TL.joinL [10] (z :: ys))).length ≤ _
    rw [List.map_cons, List.sum_cons, List.length_append, List.length_append, List.length_singleton]
    omega
theorem rowGood.no10 {l : List Nat} (h : rowGood l) : 10 ∉ l := fun hc => by
  have := List.all_eq_true.mp h.2 10 hc
  revert this; decide
theorem ok1_lt {c : Nat} (h : ok1 c = true) : c < 1114112 := by
  unfold ok1 at h
  rw [Bool.and_eq_true, Bool.and_eq_true, Bool.not_eq_true', Bool.not_eq_true'] at h
  have := of_decide_eq_false h.1.2
  omega
theorem rowGood.ok {l : List Nat} (h : rowGood l) : rowOk l = true := by
  unfold rowOk
  rw [decide_eq_true (show ((l.length : Int) ≤ 60) by have := h.1; omega), h.2]; rfl
structure Wr (ls : List (List Nat)) (x : Str) : Prop where
  tl : x.cps.toList = TL.joinL [10] ls
  ln : lines x.cps.toList = ls
  many : 0 < ls.length ∧ ls.length ≤ 24
  good : ∀ l ∈ ls, rowGood l
  short : x.length ≤ 520
theorem wr_of {ls : List (List Nat)} (h0 : 0 < ls.length) (h1 : ls.length ≤ 24) (h : ∀ l ∈ ls, rowGood l) : Wr ls (SX.S (TL.joinL [10] ls)) := by
  refine ⟨rfl, lines_join (List.length_pos_iff.mp h0) fun r hr => (h r hr).no10, ⟨h0, h1⟩, h, ?_⟩
  rw [SX.S_len]
  have h2 := joinL_len ls
  have h3 := flat_le 20 ls fun l hl => (h l hl).1
  have h4 := Nat.mul_le_mul_left 21 h1
  omega
theorem Wr.cps {ls : List (List Nat)} {x : Str} (h : Wr ls x) : ∀ l ∈ ls, ∀ c ∈ l, c < 1114112 := fun l hl c hc => ok1_lt (List.all_eq_true.mp (h.good l hl).2 c hc)
end K05

set_option maxHeartbeats 4000000
namespace K05
open PySem PySem.Spec PyProof.Rows L2 Gx Lx
variable {P : Program} {w : World} {K : PySem.W.Frag} {mg : Str → Option Value} {base : Heap}
def ok2 (c : Nat) : Bool := decide (c = 10) || ok1 c
theorem cutS_mem {x : Str} {lo hi : Option Int} {k : Nat} (h : k ∈ (cutS x lo hi).cps.toList) : k ∈ x.cps.toList := by
  unfold cutS at h
  exact List.mem_of_mem_drop (List.mem_of_mem_take h)
def sp_edit : Sp := fun vs H Q _ => ∃ (b : Addr) (x : Str), vs = [.ref b, .str x] ∧ IsBox H b ∧ x.length ≤ 10000 ∧ x.cps.toList.all ok2 = true ∧
  ∀ (t : Addr) (a c : Nat) (z : Str) (H' : Hp), H t = none → t ≠ b → Drawn b H H' → H' t = some (.tup [.int (a : Int), .int (c : Int), .str z]) → a + c ≤ x.length → z.length ≤ x.length + 20 → z.cps.toList.all ok2 = true → Q (.ref t) H'
theorem ok_L_edit (T : Facts K mg) : FnG P w K mg base 4 T.f_L_edit T.d_L_edit ["_law_box_here", "_law_writing"] sp_edit := by
  refine fnG_of T.F_L_edit sc_L_edit (fun vs H Q E h => ?_) (fun cdv A outer s H vs Q hG hr h => ?_)
  · obtain ⟨c, _, rfl, _⟩ := h; rfl
  · obtain ⟨b, x, rfl, hb, hx, hxo, q⟩ := h
    refine ⟨_, (pss_cons (ps_par (i := 2) (j := 3) (by rfl) sc_L_edit.nd rfl rfl (by decide) rfl rfl (pa_cons (pe_callB call_len_str (by rfl) T.n_len PySem.boot_len (pa_cons (pv 1) pa_nil)) (pa_cons (pe_lc (own := [("_law_k", 8), ("_law_sign", 9)]) rfl sc_L_edit.nd (pi_enumS (by rfl) T.n_enumerate (pa_cons (pv 1) pa_nil)) (blkOk_by (own := [("_law_k", 8), ("_law_sign", 9)]) (N := ["_law_box_here", "_law_writing", "_law_size", "_law_feeds", "_law_begin", "_law_cut", "_law_some", "_law_put", "_law_k", "_law_sign"]) (sc := defScope s_L_edit) (by decide +kernel)) (fun _ _ _ _ _ => (pg_tupK (K := K) (n := 2) rfl rfl (pgs_cons (pg_name (i := 8) sc_L_edit.nd rfl (.inl rfl)) (pgs_cons (pg_name (i := 9) sc_L_edit.nd rfl (.inl rfl)) pgs_nil)))) (fun _ _ _ _ _ => (pts_one (pt_cmpR op_eq (pv 9) pe_str (nomark _)))) (fun _ _ _ _ _ => (pv 8))) pa_nil)) (by rfl))
        (pss_cons (ps_set (i := 4) sc_L_edit.nd rfl (.inl rfl) (pe_ix ix_list (pe_lst (pa_cons (pe_go (ok_L_take T) hG (hr.mono (by decide)) (by rfl) T.g_L_take T.F_L_take.kp T.b_L_take (pa_cons (pv 0) (pa_cons (pe_op op_add (pv 2) pe_int) pa_nil))) (pa_cons (pe_go (ok_L_take T) hG (hr.mono (by decide)) (by rfl) T.g_L_take T.F_L_take.kp T.b_L_take (pa_cons (pv 0) (pa_cons (pe_op op_add (pv 2) pe_int) pa_nil))) (pa_cons pe_int (pa_cons (pv 2) pa_nil))))) (pe_go (ok_L_take T) hG (hr.mono (by decide)) (by rfl) T.g_L_take T.F_L_take.kp T.b_L_take (pa_cons (pv 0) (pa_cons pe_int pa_nil))) (fun _ _ => rfl)))
        (pss_cons (ps_if (PW.pt (pw_and (pt_cmpR (op_neD hr.units) (pv 3) (pe_lst pa_nil) (nomark _)) (pw_and1 (pt_cmpR op_eq (pe_go (ok_L_take T) hG (hr.mono (by decide)) (by rfl) T.g_L_take T.F_L_take.kp T.b_L_take (pa_cons (pv 0) (pa_cons pe_int pa_nil))) pe_int (nomark _))))) (pss_one (ps_set (i := 4) sc_L_edit.nd rfl (.inl rfl) (pe_op op_add (pe_go (ok_L_one_of T) hG (hr.mono (by decide)) (by rfl) T.g_L_one_of T.F_L_one_of.kp T.b_L_one_of (pa_cons (pv 0) (pa_cons (pv 3) pa_nil))) (pe_go (ok_L_take T) hG (hr.mono (by decide)) (by rfl) T.g_L_take T.F_L_take.kp T.b_L_take (pa_cons (pv 0) (pa_cons pe_int pa_nil)))))) pss_nil)
        (pss_cons (ps_set (i := 5) sc_L_edit.nd rfl (.inl rfl) (pe_callB (call_min2 rfl) (by rfl) T.n_min (by decide +kernel) (pa_cons (pe_op op_sub (pv 2) (pv 4)) (pa_cons (pe_ix ix_list (pe_lst (pa_cons pe_int (pa_cons pe_int (pa_cons pe_int (pa_cons (pe_go (ok_L_take T) hG (hr.mono (by decide)) (by rfl) T.g_L_take T.F_L_take.kp T.b_L_take (pa_cons (pv 0) (pa_cons pe_int pa_nil))) (pa_cons (pe_go (ok_L_take T) hG (hr.mono (by decide)) (by rfl) T.g_L_take T.F_L_take.kp T.b_L_take (pa_cons (pv 0) (pa_cons (pe_op op_add (pv 2) pe_int) pa_nil))) pa_nil)))))) (pe_go (ok_L_take T) hG (hr.mono (by decide)) (by rfl) T.g_L_take T.F_L_take.kp T.b_L_take (pa_cons (pv 0) (pa_cons pe_int pa_nil))) (fun _ _ => rfl)) pa_nil))))
        (pss_cons (ps_set (i := 6) sc_L_edit.nd rfl (.inl rfl) (pe_lst (pa_cons pe_str (pa_cons pe_str (pa_cons pe_str (pa_cons pe_str (pa_cons pe_str (pa_cons pe_str (pa_cons (pe_go (ok_L_row T) hG (hr.mono (by decide)) (by rfl) T.g_L_row T.F_L_row.kp T.b_L_row (pa_cons (pv 0) pa_nil)) (pa_cons (pe_slice sl_str (pv 1) (po_some (pv 4)) (po_some (pe_op op_add (pv 4) (pv 5)))) pa_nil))))))))))
        (pss_cons (ps_set (i := 7) sc_L_edit.nd rfl (.inl rfl) (pe_go (ok_L_one_of T) hG (hr.mono (by decide)) (by rfl) T.g_L_one_of T.F_L_one_of.kp T.b_L_one_of (pa_cons (pv 0) (pa_cons (pe_op op_cat (pv 6) (pe_lst (pa_cons (pe_slice sl_str (pv 1) po_none (po_some pe_int)) pa_nil))) pa_nil))))
        (pss_one (ps_ret (pe_tup (pa_cons (pv 4) (pa_cons (pv 5) (pa_cons (pv 7) pa_nil)))))))))))), ?_⟩
    have hline : (1000000 : Nat) ≤ sizeLine := by decide
    refine ⟨_, rfl, x, rfl, by omega, ?_⟩
    refine ⟨_, rfl, x, rfl, fun D hD => ?_⟩
    refine lc_it walk_enumS (fun i H2 => Drawn b H H2 ∧ ∃ fs : List Nat, H2 D = some (.lst (fs.map fun i => V.int ((i : Nat) : Int))) ∧ (∀ f ∈ fs, f < x.length) ∧ fs.length ≤ i) ?h0 (fun _ _ _ _ => trivial) (fun i v H2 H3 hi hP hy => ?hs) (fun H2 hP => ?hd)
    case h0 =>
      exact ⟨(Drawn.refl hb).new hD, [], upd_same, (fun _ h => absurd h List.not_mem_nil), Nat.le_refl _⟩
    case hs =>
      obtain ⟨d, fs, e, hf, hl⟩ := hP
      obtain ⟨t, c, rfl, ht, rfl, hc⟩ := hy
      have hDt : D ≠ t := ne_of_none e ht
      have hDb : D ≠ b := fun e2 => by
        subst e2
        obtain ⟨i, j, k, z⟩ := hb
        rw [z] at hD; cases hD
      have d1 : Drawn b H (upd H2 t (.tup [.int (i : Int), .str ⟨#[c]⟩])) := d.new ht
      have e1 : (upd H2 t (.tup [.int (i : Int), .str ⟨#[c]⟩])) D = some (.lst (fs.map fun i => V.int ((i : Nat) : Int))) := by rw [upd_ne hDt]; exact e
      refine ⟨t, _, rfl, SqT.of upd_same, rfl, _, _, rfl, _, _, rfl, rfl, rfl, ?_⟩
      refine ⟨_, rfl, rfl, _, rfl, ite2 (fun h => ?_) (fun h => ?_)⟩
      · refine ⟨_, rfl, _, e1, ?_, d1.at hD hDb _, fs ++ [i], ?_, ?_, ?_⟩
        · have := hi
          rw [List.length_map]
          have hxx : x.cps.size = x.length := rfl
          omega
        · rw [upd_same, List.map_append]; rfl
        · intro f hf'
          rcases List.mem_append.mp hf' with h' | h'
          · exact hf f h'
          · rw [List.mem_singleton.mp h']; exact hi
        · rw [List.length_append]; show fs.length + 1 ≤ i + 1; omega
      · exact ⟨d1, fs, e1, hf, by omega⟩
    case hd =>
      obtain ⟨d, fs, e, hf, hl⟩ := hP
      have hfl : fs.length ≤ 10000 := Nat.le_trans hl hx
      have hDb : D ≠ b := fun e2 => by
        subst e2
        obtain ⟨i, j, k, z⟩ := hb
        rw [z] at hD; cases hD
      refine ⟨_, _, rfl, ?_⟩
      refine ⟨_, rfl, _, rfl, _, _, rfl, rfl, b, _, rfl, d.1, by show (0 : Int) < _ + 1; omega, by show ((x.length : Nat) : Int) + 1 < 1073741824; omega, fun v1 H3 h0 h1 d3 => ?_⟩
      refine ⟨_, rfl, _, rfl, _, _, rfl, rfl, b, _, rfl, d3.1, by show (0 : Int) < _ + 1; omega, by show ((x.length : Nat) : Int) + 1 < 1073741824; omega, fun v2 H4 h2 h3 d4 => ?_⟩
      refine ⟨_, rfl, by show 4 ≤ sizeLine; decide, fun p1 hp1 => ?_⟩
      have d5 := (d3.trans d4).new (o := .lst [.int v1, .int v2, .int 0, .int (x.length : Int)]) hp1
      refine ⟨_, rfl, b, 4, rfl, d5.1, by decide, by decide, fun v3 H5 h4 h5 d6 => ?_⟩
      have e5 := d6.2 _ _ ((d3.trans d4).nb hp1) upd_same
      have d7 := d5.trans d6
      have hv : ∃ a : Nat, atI [V.int v1, V.int v2, V.int 0, V.int (x.length : Int)] v3 = some (.int (a : Int)) ∧ a ≤ x.length := by
        have : v3 = 0 ∨ v3 = 1 ∨ v3 = 2 ∨ v3 = 3 := by omega
        rcases this with rfl | rfl | rfl | rfl
        · exact ⟨v1.toNat, by rw [show ((v1.toNat : Nat) : Int) = v1 by omega]; exact atI_nat (j := 0) rfl, by omega⟩
        · exact ⟨v2.toNat, by rw [show ((v2.toNat : Nat) : Int) = v2 by omega]; exact atI_nat (j := 1) rfl, by omega⟩
        · exact ⟨0, atI_nat (j := 2) rfl, by omega⟩
        · exact ⟨x.length, atI_nat (j := 3) rfl, Nat.le_refl _⟩
      obtain ⟨a0, ha0, hal0⟩ := hv
      refine ⟨p1, _, v3, _, rfl, rfl, SqL.of e5, ha0, ?_⟩
      dsimp only [gName]
      refine seq_via (fun σ' H' => Drawn b H2 H' ∧ ∃ a : Nat, a ≤ x.length ∧ σ' = [some (.ref b), some (.str x), some (.int (x.length : Int)), some (.ref D), some (.int (a : Int)), none, none, none, none, none]) (fun D' k => ?_) (fun σ' H' hP => ?_)
      · refine ⟨_, rfl, Nat.zero_le _, fun p2 hp2 => ?_⟩
        have d8 := d7.new (o := .lst []) hp2
        have eD : (upd H5 p2 (.lst [])) D = some (.lst (fs.map fun i => V.int ((i : Nat) : Int))) := by
          rw [upd_ne (ne_of_none (d7.2 _ _ hDb e) hp2)]; exact d7.2 _ _ hDb e
        refine ne_nats (SqL.of eD) (SqL.of upd_same) ⟨_, rfl, ite2 (fun hf0 => ?_) (fun hf0 => ?_)⟩
        · refine ⟨_, rfl, b, 4, rfl, d8.1, by decide, by decide, fun v4 H6 h6 h7 d9 => ?_⟩
          have d10 := d8.trans d9
          refine ⟨rfl, _, rfl, ite2 (fun hw => ?_) (fun hw => ?_)⟩
          · refine ⟨_, rfl, _, rfl, b, _, fs.map (fun i => V.int ((i : Nat) : Int)), rfl, d9.1, ?_, by rw [List.length_map]; omega, .inl ⟨D, rfl, hDb, d9.2 _ _ hDb eD⟩, fun y H7 hy d11 => ?_⟩
            · intro h
              rw [List.map_eq_nil_iff] at h
              rw [h] at hf0; cases hf0
            · obtain ⟨f, hfm, rfl⟩ := List.mem_map.mp hy
              have hfx := hf f hfm
              refine ⟨_, rfl, b, 2, rfl, d11.1, by decide, by decide, fun v5 H8 h8 h9 d12 => ⟨_, _, rfl, rfl, ?_⟩⟩
              exact k _ _ ⟨(d10.trans d11).trans d12, f + v5.toNat, by omega, by
                show [some (V.ref b), some (.str x), some (.int (x.length : Int)), some (.ref D), some (.int ((f : Int) + v5)), none, none, none, none, none] = _
                rw [show (((f + v5.toNat : Nat) : Int)) = (f : Int) + v5 by omega]⟩
          · exact k _ _ ⟨d10, a0, hal0, rfl⟩
        · exact k _ _ ⟨d8, a0, hal0, rfl⟩
      · obtain ⟨dA, a, ha, rfl⟩ := hP
        -- cut
        refine ⟨_, rfl, _, rfl, _, _, rfl, rfl, ?_⟩
        refine ⟨_, rfl, b, 6, rfl, dA.1, by decide, by decide, fun w1 H6 g0 g1 dB => ?_⟩
        refine ⟨_, rfl, _, rfl, _, _, rfl, rfl, b, _, rfl, dB.1, by show (0 : Int) < _ + 1; omega, by show ((x.length : Nat) : Int) + 1 < 1073741824; omega, fun w2 H7 g2 g3 dC => ?_⟩
        refine ⟨by show 5 ≤ sizeLine; decide, fun p3 hp3 => ?_⟩
        have dD := ((dA.trans dB).trans dC).new (o := .lst [.int 0, .int 0, .int 1, .int w1, .int w2]) hp3
        have n3 := ((dA.trans dB).trans dC).nb hp3
        refine ⟨_, rfl, b, 5, rfl, dD.1, by decide, by decide, fun w3 H8 g4 g5 dE => ?_⟩
        have e8 := dE.2 _ _ n3 upd_same
        have dF := dD.trans dE
        have hv : ∃ c : Int, atI [V.int 0, V.int 0, V.int 1, V.int w1, V.int w2] w3 = some (.int c) ∧ 0 ≤ c := by
          have : w3 = 0 ∨ w3 = 1 ∨ w3 = 2 ∨ w3 = 3 ∨ w3 = 4 := by omega
          rcases this with rfl | rfl | rfl | rfl | rfl
          · exact ⟨0, atI_nat (j := 0) rfl, by omega⟩
          · exact ⟨0, atI_nat (j := 1) rfl, by omega⟩
          · exact ⟨1, atI_nat (j := 2) rfl, by omega⟩
          · exact ⟨w1, atI_nat (j := 3) rfl, g0⟩
          · exact ⟨w2, atI_nat (j := 4) rfl, g2⟩
        obtain ⟨c0, hc0, hcn⟩ := hv
        refine ⟨p3, _, w3, _, rfl, rfl, SqL.of e8, hc0, _, _, rfl, ?_⟩
        obtain ⟨c, ec, hac⟩ : ∃ c : Nat, (if c0 < (x.length : Int) - (a : Int) then c0 else (x.length : Int) - (a : Int)) = (c : Int) ∧ a + c ≤ x.length := by
          by_cases h : c0 < (x.length : Int) - (a : Int)
          · rw [if_pos h]; exact ⟨c0.toNat, by omega, by omega⟩
          · rw [if_neg h]; exact ⟨x.length - a, by omega, by omega⟩
        rw [ec]
        clear ec hc0 e8 n3 hcn
        -- put
        refine ⟨_, rfl, b, rfl, dF.1, fun l H9 hl9 dG => ?_⟩
        refine ⟨_, rfl, _, rfl, _, rfl, _, rfl, _, rfl, _, _, rfl, rfl, _, rfl, x, rfl, by omega, ?_⟩
        refine ⟨by show 8 ≤ sizeLine; decide, fun p5 hp5 => ?_⟩
        have n5 := (dF.trans dG).nb hp5
        have dK := (dF.trans dG).new (o := .lst [.str "", .str "", .str "x", .str "\n", .str " = 1", .str "let d = 4\n", .str (SX.S l), .str (cutS x (some (a : Int)) (some ((a : Int) + (c : Int))))]) hp5
        have e5 : (upd H9 p5 (.lst [.str "", .str "", .str "x", .str "\n", .str " = 1", .str "let d = 4\n", .str (SX.S l), .str (cutS x (some (a : Int)) (some ((a : Int) + (c : Int))))])) p5 = _ := upd_same
        generalize upd H9 p5 (.lst [.str "", .str "", .str "x", .str "\n", .str " = 1", .str "let d = 4\n", .str (SX.S l), .str (cutS x (some (a : Int)) (some ((a : Int) + (c : Int))))]) = HB at dK e5 ⊢
        refine ⟨_, rfl, _, rfl, _, rfl, 3, rfl, x, rfl, by omega, by show 1 ≤ sizeLine; decide, fun p6 hp6 => ?_⟩
        have n6 := dK.nb hp6
        have dL := dK.new (o := .lst [.str (cutS x none (some 3))]) hp6
        have e6 : (upd HB p6 (.lst [.str (cutS x none (some 3))])) p6 = _ := upd_same
        have e5' := (upd_ne (H := HB) (o := .lst [.str (cutS x none (some 3))]) (ne_of_none e5 hp6)).trans e5
        generalize upd HB p6 (.lst [.str (cutS x none (some 3))]) = HC at dL e5' e6 ⊢
        refine ⟨p5, p6, _, _, rfl, rfl, e5', e6, by show 9 ≤ sizeLine; decide, fun p4 hp4 => ?_⟩
        have n4 := dL.nb hp4
        have dH := dL.new (o := .lst [.str "", .str "", .str "x", .str "\n", .str " = 1", .str "let d = 4\n", .str (SX.S l), .str (cutS x (some (a : Int)) (some ((a : Int) + (c : Int)))), .str (cutS x none (some 3))]) hp4
        refine ⟨b, _, _, rfl, dH.1, List.cons_ne_nil _ _, by show 9 ≤ 100000; decide, .inl ⟨p4, rfl, n4, upd_same⟩, fun y HA hy dI => ?_⟩
        have dJ := d.trans (dH.trans dI)
        have hall : ∀ z : List Nat, z.all ok1 = true → z.all ok2 = true := fun z hz => by
          rw [List.all_eq_true] at hz ⊢
          intro k hk
          unfold ok2
          rw [hz k hk, Bool.or_true]
        have hcut : ∀ lo hi : Option Int, (cutS x lo hi).length ≤ x.length + 20 ∧ (cutS x lo hi).cps.toList.all ok2 = true := fun lo hi => ⟨Nat.le_trans (cutS_short x lo hi (Nat.le_refl _)) (by omega), by
          rw [List.all_eq_true] at hxo ⊢
          exact fun k hk => hxo k (cutS_mem hk)⟩
        have hy2 : ∃ z : Str, y = .str z ∧ z.length ≤ x.length + 20 ∧ z.cps.toList.all ok2 = true := by
          have hy : y ∈ ([.str "", .str "", .str "x", .str "\n", .str " = 1", .str "let d = 4\n", .str (SX.S l), .str (cutS x (some (a : Int)) (some ((a : Int) + (c : Int)))), .str (cutS x none (some 3))] : List V) := hy
          simp only [List.mem_cons, List.not_mem_nil, or_false] at hy
          rcases hy with rfl | rfl | rfl | rfl | rfl | rfl | rfl | rfl | rfl
          · exact ⟨_, rfl, Nat.le_trans (by decide +kernel : _ ≤ 20) (by omega), by decide +kernel⟩
          · exact ⟨_, rfl, Nat.le_trans (by decide +kernel : _ ≤ 20) (by omega), by decide +kernel⟩
          · exact ⟨_, rfl, Nat.le_trans (by decide +kernel : _ ≤ 20) (by omega), by decide +kernel⟩
          · exact ⟨_, rfl, Nat.le_trans (by decide +kernel : _ ≤ 20) (by omega), by decide +kernel⟩
          · exact ⟨_, rfl, Nat.le_trans (by decide +kernel : _ ≤ 20) (by omega), by decide +kernel⟩
          · exact ⟨_, rfl, Nat.le_trans (by decide +kernel : _ ≤ 20) (by omega), by decide +kernel⟩
          · exact ⟨_, rfl, by rw [SX.S_len]; have := hl9.1; omega, hall _ hl9.2⟩
          · exact ⟨_, rfl, hcut _ _⟩
          · exact ⟨_, rfl, hcut _ _⟩
        obtain ⟨z, rfl, hz, hzo⟩ := hy2
        refine ⟨_, rfl, _, rfl, _, rfl, by show 3 ≤ sizeLine; decide, fun t ht => ?_⟩
        exact q t a c z _ (dJ.free hb ht) (dJ.nb ht) (dJ.new ht) upd_same hac hz hzo
end K05

set_option maxHeartbeats 4000000
namespace K05
open PySem PySem.Spec PyProof.Rows L2 Gx Lx
variable {P : Program} {w : World} {K : PySem.W.Frag} {mg : Str → Option Value} {base : Heap}
theorem seq_viaR {t rest : TS} {D : Ends} {σ : L2.St} {H : Hp} (P : L2.St → Hp → Prop) (h1 : ∀ nx' : L2.St → Hp → Prop, (∀ σ' H', P σ' H' → nx' σ' H') → t { D with nx := nx' } σ H) (k : ∀ σ' H', P σ' H' → rest D σ' H') : tSeq t rest D σ H := h1 _ k
theorem same_lst {K : PySem.W.Frag} {H H' : Hp} {a : Addr} {xs : List V} (e : Same H H') (h : SqL K H a xs) : SqL K H' a xs := by
  rcases h with (h | ⟨o, h⟩) | h
  · exact .inl (.inl (e _ _ h))
  · exact .inl (.inr ⟨o, e _ _ h⟩)
  · exact .inr h
/-- an edit, as a tuple or a list -/
def Sq3 (K : PySem.W.Frag) (H : Hp) (t : Addr) (a c : Nat) (z : Str) : Prop := SqT K H t [.int (a : Int), .int (c : Int), .str z] ∨ SqL K H t [.int (a : Int), .int (c : Int), .str z]
theorem Sq3.same {H H' : Hp} {t : Addr} {a c : Nat} {z : Str} (s : Same H H') (h : Sq3 K H t a c z) : Sq3 K H' t a c z := h.imp (same_tup s) (same_lst s)
/-- where a place is behind an edit -/
def dueS (i a c : Nat) (z : Str) (s : Bool) : Nat := if i ≤ a ∧ (s = true ∨ i < a + c) then i else if a + c ≤ i then i - c + z.length else a
def sp_shifted (K : PySem.W.Frag) : Sp := fun vs H Q _ => ∃ (i : Nat) (t : Addr) (a c : Nat) (z : Str) (s : Bool), vs = [.int (i : Int), .ref t, .bl s] ∧ Sq3 K H t a c z ∧ z.length ≤ 100000 ∧ Q (.int ((dueS i a c z s : Nat) : Int)) H
theorem ok_shifted (T : Facts K mg) : FnG P w K mg base 1 T.f_shifted T.d_shifted ["at", "edit", "ahead"] (sp_shifted K) := by
  refine fnG_of T.F_shifted sc_shifted (fun vs H Q E h => ?_) (fun cdv A outer s H vs Q hG hr h => ?_)
  · obtain ⟨_, _, _, _, _, _, rfl, _⟩ := h; rfl
  · obtain ⟨i, t, a, c, z, s, rfl, h3, hz, q⟩ := h
    refine ⟨_, (pss_cons (ps_asg (pv 1) (pg_anyS rfl (pgs_cons (pg_name (i := 3) sc_shifted.nd rfl (.inl rfl)) (pgs_cons (pg_name (i := 4) sc_shifted.nd rfl (.inl rfl)) (pgs_cons (pg_name (i := 5) sc_shifted.nd rfl (.inl rfl)) pgs_nil)))))
        (pss_cons (ps_set (i := 6) sc_shifted.nd rfl (.inl rfl) (pe_cmpR op_le (pv 0) (pv 3) (nomark _)))
        (pss_cons (ps_set (i := 7) sc_shifted.nd rfl (.inl rfl) (pe_cmpR op_ge (pv 0) (pe_op op_add (pv 3) (pv 4)) (nomark _)))
        (pss_cons (ps_if (PW.pt (pw_and (pt_val (pv 6)) (pw_and1 (PW.pt (pw_or (pt_val (pv 2)) (pw_or1 (pt_not (pt_val (pv 7))))))))) (pss_one (ps_ret (pv 0))) pss_nil)
        (pss_one (ps_ret (pe_ifExp (pt_val (pv 7)) (pe_op op_sub (pe_op op_add (pv 0) (pe_callB call_len_str (by rfl) T.n_len PySem.boot_len (pa_cons (pv 5) pa_nil))) (pv 4)) (pv 3)))))))), ?_⟩
    have hline : (1000000 : Nat) ≤ sizeLine := by decide
    refine ⟨_, rfl, t, _, rfl, h3, rfl, _, _, rfl, _, _, rfl, _, _, rfl, rfl, ?_⟩
    refine ⟨_, rfl, _, rfl, _, _, rfl, rfl, ?_⟩
    refine ⟨_, rfl, _, rfl, _, rfl, _, _, rfl, rfl, _, _, rfl, rfl, ?_⟩
    dsimp only
    refine seq_viaR (fun σ' H' => H' = H ∧ ¬ (i ≤ a ∧ (s = true ∨ i < a + c)) ∧ σ' = [some (.int (i : Int)), some (.ref t), some (.bl s), some (.int (a : Int)), some (.int (c : Int)), some (.str z), some (.bl (decide ((i : Int) ≤ (a : Int)))), some (.bl (decide ((i : Int) ≥ (a : Int) + (c : Int))))]) (fun nx kk => ?_) (fun σ' H' hP => ?_)
    · have hd : (i ≤ a ∧ (s = true ∨ i < a + c)) → Q (.int (i : Int)) H := fun h => by
        unfold dueS at q
        rw [if_pos h] at q
        exact q
      refine ⟨_, rfl, _, rfl, ite2 (fun h1 => ?_) (fun h1 => ?_)⟩
      · have e1 : (i : Int) ≤ (a : Int) := of_decide_eq_true h1
        refine ⟨_, rfl, _, rfl, ite2 (fun h2 => ?_) (fun h2 => ?_)⟩
        · exact ⟨_, rfl, hd ⟨by omega, .inl h2⟩⟩
        · refine ⟨_, rfl, _, rfl, ite2 (fun h3 => ?_) (fun h3 => ?_)⟩
          · have e2 : ¬ ((i : Int) ≥ (a : Int) + (c : Int)) := by simpa using h3
            exact ⟨_, rfl, hd ⟨by omega, .inr (by omega)⟩⟩
          · have e2 : (i : Int) ≥ (a : Int) + (c : Int) := by simpa using h3
            exact kk _ _ ⟨rfl, by rintro ⟨_, h | h⟩; exact h2 h; omega, rfl⟩
      · have e1 : ¬ ((i : Int) ≤ (a : Int)) := fun h => h1 (decide_eq_true h)
        refine ite2 (fun h => by cases h) (fun _ => ?_)
        exact kk _ _ ⟨rfl, by omega, rfl⟩
    · obtain ⟨rfl, hn, rfl⟩ := hP
      unfold dueS at q
      rw [if_neg hn] at q
      refine ⟨_, rfl, _, rfl, ite2 (fun h1 => ?_) (fun h1 => ?_)⟩
      · have e1 : (i : Int) ≥ (a : Int) + (c : Int) := by simpa using h1
        rw [if_pos (by omega)] at q
        refine ⟨_, rfl, _, rfl, z, rfl, by omega, _, _, rfl, rfl, _, rfl, _, _, rfl, rfl, ?_⟩
        rw [show ((i - c + z.length : Nat) : Int) = (i : Int) + ((z.length : Nat) : Int) - (c : Int) by omega] at q
        exact q
      · have e1 : ¬ ((i : Int) ≥ (a : Int) + (c : Int)) := by simpa using h1
        rw [if_neg (by omega)] at q
        exact ⟨_, rfl, q⟩
def sp_due (K : PySem.W.Frag) : Sp := fun vs H Q _ => ∃ (i : Nat) (t : Addr) (a c : Nat) (z : Str) (s : Bool), vs = [.int (i : Int), .ref t, .bl s] ∧ SqT K H t [.int (a : Int), .int (c : Int), .str z] ∧ z.length ≤ 100000 ∧ Q (.int ((dueS i a c z s : Nat) : Int)) H
theorem ok_L_due (T : Facts K mg) : FnG P w K mg base 1 T.f_L_due T.d_L_due ["_law_place", "_law_change", "_law_stays"] (sp_due K) := by
  refine fnG_of T.F_L_due sc_L_due (fun vs H Q E h => ?_) (fun cdv A outer s H vs Q hG hr h => ?_)
  · obtain ⟨_, _, _, _, _, _, rfl, _⟩ := h; rfl
  · obtain ⟨i, t, a, c, z, s, rfl, h3, hz, q⟩ := h
    refine ⟨_, (pss_cons (ps_asg (pv 1) (pg_tup rfl (pgs_cons (pg_name (i := 3) sc_L_due.nd rfl (.inl rfl)) (pgs_cons (pg_name (i := 4) sc_L_due.nd rfl (.inl rfl)) (pgs_cons (pg_name (i := 5) sc_L_due.nd rfl (.inl rfl)) pgs_nil)))))
        (pss_cons (ps_if (PW.pt (pw_or (pt_cmpR op_lt (pv 0) (pv 3) (nomark _)) (pw_or1 (PW.pt (pw_and (pt_cmpR op_eq (pv 0) (pv 3) (nomark _)) (pw_and1 (PW.pt (pw_or (pt_cmpR op_gt (pv 4) pe_int (nomark _)) (pw_or1 (pt_val (pv 2))))))))))) (pss_one (ps_ret (pv 0))) pss_nil)
        (pss_cons (ps_if (pt_cmpR op_lt (pv 0) (pe_op op_add (pv 3) (pv 4)) (nomark _)) (pss_one (ps_ret (pv 3))) pss_nil)
        (pss_one (ps_ret (pe_op op_add (pe_op op_sub (pv 0) (pv 4)) (pe_callB call_len_str (by rfl) T.n_len PySem.boot_len (pa_cons (pv 5) pa_nil)))))))), ?_⟩
    have hline : (1000000 : Nat) ≤ sizeLine := by decide
    refine ⟨_, rfl, t, _, rfl, h3, rfl, _, _, rfl, _, _, rfl, _, _, rfl, rfl, ?_⟩
    dsimp only
    refine seq_viaR (fun σ' H' => H' = H ∧ ¬ (i ≤ a ∧ (s = true ∨ i < a + c)) ∧ σ' = [some (.int (i : Int)), some (.ref t), some (.bl s), some (.int (a : Int)), some (.int (c : Int)), some (.str z)]) (fun nx kk => ?_) (fun σ' H' hP => ?_)
    · have hd : (i ≤ a ∧ (s = true ∨ i < a + c)) → Q (.int (i : Int)) H := fun h => by
        unfold dueS at q
        rw [if_pos h] at q
        exact q
      refine ⟨_, rfl, _, rfl, _, _, rfl, rfl, _, rfl, ite2 (fun h1 => ?_) (fun h1 => ?_)⟩
      · have e1 : (i : Int) < (a : Int) := of_decide_eq_true h1
        exact ⟨_, rfl, hd ⟨by omega, .inr (by omega)⟩⟩
      · have e1 : ¬ ((i : Int) < (a : Int)) := fun h => h1 (decide_eq_true h)
        refine ⟨_, rfl, _, rfl, rfl, _, rfl, ite2 (fun h2 => ?_) (fun h2 => ?_)⟩
        · have e2 : (i : Int) = (a : Int) := by simpa using h2
          have e2 : i = a := by omega
          subst e2
          refine ⟨_, rfl, _, _, rfl, rfl, _, rfl, ite2 (fun h3 => ?_) (fun h3 => ?_)⟩
          · have e3 : (c : Int) > 0 := by simpa using h3
            exact ⟨_, rfl, hd ⟨by omega, .inr (by omega)⟩⟩
          · have e3 : ¬ ((c : Int) > 0) := by simpa using h3
            refine ⟨_, rfl, _, rfl, ite2 (fun h4 => ?_) (fun h4 => ?_)⟩
            · exact ⟨_, rfl, hd ⟨by omega, .inl h4⟩⟩
            · exact kk _ _ ⟨rfl, by rintro ⟨_, h | h⟩; exact h4 h; omega, rfl⟩
        · have e2 : ¬ ((i : Int) = (a : Int)) := by simpa using h2
          refine ite2 (fun h => by cases h) (fun _ => ?_)
          exact kk _ _ ⟨rfl, by omega, rfl⟩
    · obtain ⟨rfl, hn, rfl⟩ := hP
      unfold dueS at q
      rw [if_neg hn] at q
      refine ⟨_, rfl, _, rfl, _, rfl, _, _, rfl, rfl, _, _, rfl, rfl, _, rfl, ite2 (fun h1 => ?_) (fun h1 => ?_)⟩
      · have e1 : (i : Int) < (a : Int) + (c : Int) := of_decide_eq_true h1
        rw [if_neg (by omega)] at q
        exact ⟨_, rfl, q⟩
      · have e1 : ¬ ((i : Int) < (a : Int) + (c : Int)) := fun h => h1 (decide_eq_true h)
        rw [if_pos (by omega)] at q
        refine ⟨_, rfl, _, rfl, _, _, rfl, rfl, _, rfl, z, rfl, by omega, _, _, rfl, rfl, ?_⟩
        rw [show ((i - c + z.length : Nat) : Int) = (i : Int) - (c : Int) + ((z.length : Nat) : Int) by omega] at q
        exact q
end K05

set_option maxHeartbeats 4000000
namespace K05
open PySem PySem.Spec PyProof.Rows L2 Gx Lx
variable {P : Program} {w : World} {K : PySem.W.Frag} {mg : Str → Option Value} {base : Heap}
/-- the text with c signs at a gone and z put there -/
def dn (x : Str) (a c : Nat) (z : Str) : Str := SX.S (x.cps.toList.take a ++ z.cps.toList ++ x.cps.toList.drop (a + c))
theorem dn_eq (x : Str) (a c : Nat) (z : Str) : (cutS x none (some (a : Int)) ++ z) ++ cutS x (some ((a : Int) + (c : Int))) none = dn x a c z := by
  unfold dn
  apply TL.ext_tl
  show (cutS x none (some (a : Int)) ++ z ++ cutS x (some ((a : Int) + (c : Int))) none).cps.toList = x.cps.toList.take a ++ z.cps.toList ++ x.cps.toList.drop (a + c)
  rw [Str.cps_append, Array.toList_append, Str.cps_append, Array.toList_append, cutS_to, show (a : Int) + (c : Int) = ((a + c : Nat) : Int) by omega, cutS_from]
theorem dn_len (x : Str) (a c : Nat) (z : Str) (h : a + c ≤ x.length) : (dn x a c z).length + c = x.length + z.length := by
  unfold dn
  rw [SX.S_len, List.length_append, List.length_append, List.length_take, List.length_drop]
  have h1 : x.cps.toList.length = x.length := Array.length_toList
  have h2 : z.cps.toList.length = z.length := Array.length_toList
  rw [h1, h2]; omega
def sp_done (K : PySem.W.Frag) : Sp := fun vs H Q _ => ∃ (x : Str) (t : Addr) (a c : Nat) (z : Str), vs = [.str x, .ref t] ∧ SqT K H t [.int (a : Int), .int (c : Int), .str z] ∧ x.length ≤ 100000 ∧ z.length ≤ 100000 ∧ Q (.str (dn x a c z)) H
theorem ok_L_done (T : Facts K mg) : FnG P w K mg base 1 T.f_L_done T.d_L_done ["_law_writing", "_law_change"] (sp_done K) := by
  refine fnG_of T.F_L_done sc_L_done (fun vs H Q E h => ?_) (fun cdv A outer s H vs Q hG hr h => ?_)
  · obtain ⟨c, _, _, _, _, rfl, _⟩ := h; rfl
  · obtain ⟨x, t, a, c, z, rfl, hS, hx, hz, q⟩ := h
    refine ⟨_, (pss_cons (ps_asg (pv 1) (pg_tup rfl (pgs_cons (pg_name (i := 2) sc_L_done.nd rfl (.inl rfl)) (pgs_cons (pg_name (i := 3) sc_L_done.nd rfl (.inl rfl)) (pgs_cons (pg_name (i := 4) sc_L_done.nd rfl (.inl rfl)) pgs_nil)))))
        (pss_one (ps_ret (pe_op op_add_str (pe_op op_add_str (pe_slice sl_str (pv 0) po_none (po_some (pv 2))) (pv 4)) (pe_slice sl_str (pv 0) (po_some (pe_op op_add (pv 2) (pv 3))) po_none))))), ?_⟩
    have hline : (1000000 : Nat) ≤ sizeLine := by decide
    have hc1 := cutS_length x none (some (a : Int))
    have hc2 := cutS_length x (some ((a : Int) + (c : Int))) none
    refine ⟨_, rfl, t, _, rfl, hS, rfl, _, _, rfl, _, _, rfl, _, _, rfl, rfl, ?_⟩
    refine ⟨_, rfl, _, rfl, _, rfl, x, rfl, by omega, ?_⟩
    refine ⟨_, rfl, _, z, rfl, rfl, by omega, ?_⟩
    refine ⟨_, rfl, _, rfl, _, rfl, _, _, rfl, rfl, _, rfl, x, rfl, by omega, _, _, rfl, rfl, by rw [app_len]; omega, ?_⟩
    rw [dn_eq]
    exact q
end K05

set_option maxHeartbeats 4000000
namespace K05
open PySem PySem.Spec PyProof.Rows L2 Gx Lx
variable {P : Program} {w : World} {K : PySem.W.Frag} {mg : Str → Option Value} {base : Heap}
theorem joinL_all {p : Nat → Bool} (h10 : p 10 = true) : ∀ ls : List (List Nat), (∀ l ∈ ls, l.all p = true) → (TL.joinL [10] ls).all p = true
  | [], _ => rfl
  | [l], h => h l (List.mem_cons_self ..)
  | l :: m :: ls, h => by
    show (l ++ ([10] ++ TL.joinL [10] (m :: ls))).all p = true
    rw [List.all_append, List.all_append, h l (List.mem_cons_self ..), joinL_all h10 (m :: ls) fun y hy => h y (List.mem_cons_of_mem _ hy), Bool.true_and, Bool.and_true]
    show (p 10 && true) = true
    rw [h10]; rfl
theorem Wr.ok2 {ls : List (List Nat)} {x : Str} (h : Wr ls x) : x.cps.toList.all ok2 = true := by
  rw [h.tl]
  refine joinL_all rfl ls fun l hl => ?_
  have := (h.good l hl).2
  rw [List.all_eq_true] at this ⊢
  intro k hk
  unfold K05.ok2
  rw [this k hk, Bool.or_true]
theorem ok2_lt {z : Str} (h : z.cps.toList.all ok2 = true) : ∀ c ∈ z.cps.toList, c < 1114112 := fun c hc => by
  have := List.all_eq_true.mp h c hc
  unfold ok2 at this
  rw [Bool.or_eq_true] at this
  rcases this with h | h
  · rw [of_decide_eq_true h]; decide
  · exact ok1_lt h
/-- a text of the laws: not too long, of signs and line feeds -/
def Tx2 (n : Nat) (x : Str) : Prop := x.length ≤ n ∧ x.cps.toList.all ok2 = true
theorem Tx2.mono {m n : Nat} {x : Str} (h : Tx2 m x) (hm : m ≤ n) : Tx2 n x := ⟨Nat.le_trans h.1 hm, h.2⟩
theorem Tx2.cut {n : Nat} {x : Str} (lo hi : Option Int) (h : Tx2 n x) : Tx2 n (cutS x lo hi) := ⟨cutS_short x lo hi h.1, by
  have := h.2
  rw [List.all_eq_true] at this ⊢
  exact fun k hk => this k (cutS_mem hk)⟩
theorem Tx2.app {m n : Nat} {x y : Str} (h : Tx2 m x) (h' : Tx2 n y) : Tx2 (m + n) (x ++ y) := ⟨by rw [app_len]; have := h.1; have := h'.1; omega, by
  rw [Str.cps_append, Array.toList_append, List.all_append, h.2, h'.2]; rfl⟩
theorem Tx2.times {n k : Nat} {x : Str} (h : Tx2 n x) : Tx2 (n * k) (timesS x k) := ⟨by rw [timesS_len]; exact Nat.mul_le_mul_right k h.1, by
  have := h.2
  rw [List.all_eq_true] at this ⊢
  intro c hc
  obtain ⟨l, hl, hcl⟩ := List.mem_flatten.mp (show c ∈ (List.replicate k x.cps.toList).flatten from hc)
  rw [(List.mem_replicate.mp hl).2] at hcl
  exact this c hcl⟩
theorem Tx2.dn {x z : Str} {a c n m : Nat} (h : Tx2 n x) (h' : Tx2 m z) : Tx2 (n + m) (dn x a c z) := by
  refine ⟨?_, ?_⟩
  · unfold K05.dn
    have h1 : x.cps.toList.length = x.length := Array.length_toList
    have h2 : z.cps.toList.length = z.length := Array.length_toList
    rw [SX.S_len, List.length_append, List.length_append, List.length_take, List.length_drop, h1, h2]
    have := h.1; have := h'.1
    omega
  · have hx := h.2
    have hz := h'.2
    unfold K05.dn
    show (x.cps.toList.take a ++ z.cps.toList ++ x.cps.toList.drop (a + c)).all ok2 = true
    rw [List.all_eq_true] at hx hz ⊢
    intro k hk
    rcases List.mem_append.mp hk with hk | hk
    · rcases List.mem_append.mp hk with hk | hk
      · exact hx k (List.mem_of_mem_take hk)
      · exact hz k hk
    · exact hx k (List.mem_of_mem_drop hk)
theorem Wr.tx2 {ls : List (List Nat)} {x : Str} (h : Wr ls x) : Tx2 520 x := ⟨h.short, h.ok2⟩
end K05

set_option maxHeartbeats 4000000
namespace K05
open PySem PySem.Spec PyProof.Rows L2 Gx Lx
variable {P : Program} {w : World} {K : PySem.W.Frag} {mg : Str → Option Value} {base : Heap}
theorem dueS_mono {i j a c : Nat} {z : Str} {s : Bool} (h : i ≤ j) : dueS i a c z s ≤ dueS j a c z s := by
  unfold dueS
  cases s <;> (repeat' split) <;> simp_all <;> omega
theorem dueS_le {i a c n : Nat} {z : Str} {s : Bool} (hi : i ≤ n) (hac : a + c ≤ n) : dueS i a c z s + c ≤ n + z.length := by
  unfold dueS
  (repeat' split) <;> omega
theorem dueS_sign {x z : Str} {a c i : Nat} (hac : a + c ≤ x.length) (hi : i < x.length) (hn : ¬ (a ≤ i ∧ i < a + c)) : (dn x a c z).cps.toList[dueS i a c z false]? = x.cps.toList[i]? := by
  have hx : x.cps.toList.length = x.length := Array.length_toList
  have hz : z.cps.toList.length = z.length := Array.length_toList
  have e : (dn x a c z).cps.toList = x.cps.toList.take a ++ z.cps.toList ++ x.cps.toList.drop (a + c) := by unfold dn; simp [SX.S]
  have hl : (x.cps.toList.take a).length = a := by rw [List.length_take]; omega
  rw [e]
  unfold dueS
  by_cases h1 : i ≤ a ∧ (false = true ∨ i < a + c)
  · rw [if_pos h1]
    have h2 : i < a := by
      rcases h1 with ⟨h1, h | h⟩
      · cases h
      · omega
    rw [List.append_assoc, List.getElem?_append_left (by omega), List.getElem?_take_of_lt h2]
  · rw [if_neg h1]
    have h3 : a + c ≤ i := by
      by_cases h4 : i ≤ a
      · by_cases h5 : i < a + c
        · exact absurd ⟨h4, .inr h5⟩ h1
        · omega
      · omega
    rw [if_pos h3, List.getElem?_append_right (by rw [List.length_append]; omega), List.length_append, hl, hz, List.getElem?_drop]
    congr 1
    omega
theorem nats_same {K : PySem.W.Frag} {H : Hp} {p q : Addr} {fs : List Nat} {Q : VK} (hp : SqL K H p (fs.map fun i => V.int ((i : Nat) : Int))) (hq : SqL K H q (fs.map fun i => V.int ((i : Nat) : Int))) (k : Q (.bl false) H) : rNeD K (.ref p) (.ref q) H Q := by
  have hs := shaped_nats fs
  have hc : (dNats fs).canLay0 = true := by
    unfold SeqAt.shaped at hs
    rw [Bool.and_eq_true] at hs
    exact hs.1
  exact ⟨dNats fs, dNats fs, dp_nats hp, dp_nats hq, hs, hs, by rw [SeqAt.eqv_refl _ hc]; exact k⟩
def l3 (a c : Nat) (z : Str) : PyData := .list [.int (a : Int), .int (c : Int), .str z]
theorem dp_l3 {H : Hp} {t : Addr} {a c : Nat} {z : Str} (h : SqL K H t [.int (a : Int), .int (c : Int), .str z]) : Dp K H (.ref t) (l3 a c z) := .lst h (.cons (.int _) (.cons (.int _) (.cons (.str _) .nil)))
theorem strOk_of {z : Str} (h : ∀ k ∈ z.cps.toList, k < 1114112) : PyData.strOk z = true := by
  unfold PyData.strOk
  rw [← Array.all_toList, List.all_eq_true]
  exact fun k hk => decide_eq_true (h k hk)
theorem ne_l3 {H : Hp} {p q : Addr} {a c : Nat} {z : Str} {Q : VK} (hp : SqL K H p [.int (a : Int), .int (c : Int), .str z]) (hq : SqL K H q [.int (a : Int), .int (c : Int), .str z]) (h : ∀ k ∈ z.cps.toList, k < 1114112) (k : Q (.bl false) H) : rNeD K (.ref p) (.ref q) H Q := by
  have hc : (l3 a c z).canLay0 = true := by
    simp only [l3, PyData.canLay0, PyData.canLayAll0, Bool.and_true, Bool.true_and]
    exact strOk_of h
  have hs : SeqAt.shaped (l3 a c z) = true := by
    unfold SeqAt.shaped
    rw [hc, Bool.true_and]
    rfl
  exact ⟨_, _, dp_l3 hp, dp_l3 hq, hs, hs, by rw [SeqAt.eqv_refl _ hc]; exact k⟩
def RpOk (d : PyData) : Prop := d.showable = true ∧ d.hasDict = false ∧ d.depth ≤ 60 ∧ d.shown.length ≤ sizeLine
theorem rp_int {n : Nat} (h : n ≤ 1000000) : RpOk (.int (n : Int)) := by
  have r : Rp (10 * 100 + 100) 0 (.int (n : Int)) := bs_rp (B := 1000000) (M := 100) (by decide) (.inr (.inr (.inl ⟨_, rfl, by rw [Int.natAbs_natCast]; exact h⟩)))
  exact ⟨r.1, r.2.1, Nat.le_trans r.2.2.1 (by decide), Nat.le_trans r.2.2.2 (by decide)⟩
/-- what the law has found so far: the first places, where they are behind -/
def fnd (a c : Nat) (z : Str) (s : Bool) (ks : List Nat) : List V := (ks.map fun k => dueS k a c z s).map fun i => V.int ((i : Nat) : Int)
/-- all that stands while the places are walked -/
structure Std (P : Program) (w : World) (K : PySem.W.Frag) (bx t D p q L S : Addr) (a c : Nat) (z : Str) (ks : List Nat) (H H' : Hp) (f1 f2 : List V) : Prop where
  dr : Drawn bx H H'
  et : H' t = some (.tup [.int (a : Int), .int (c : Int), .str z])
  eD : H' D = some (BD P w D [(true, p), (false, q)])
  ep : H' p = some (.lst f1)
  eq : H' q = some (.lst f2)
  eL : H' L = some (.lst (ks.map fun i => V.int ((i : Nat) : Int)))
  eS : H' S = some (.lst [.int (a : Int), .int (c : Int), .str z])
theorem Std.new {P : Program} {w : World} {bx t D p q L S : Addr} {a c : Nat} {z : Str} {ks : List Nat} {H H' : Hp} {f1 f2 : List V} (x : Std P w K bx t D p q L S a c z ks H H' f1 f2) {b : Addr} {o : HO} (hb : H' b = none) : Std P w K bx t D p q L S a c z ks H (upd H' b o) f1 f2 :=
  ⟨x.dr.new hb, by rw [upd_ne (ne_of_none x.et hb)]; exact x.et, by rw [upd_ne (ne_of_none x.eD hb)]; exact x.eD, by rw [upd_ne (ne_of_none x.ep hb)]; exact x.ep, by rw [upd_ne (ne_of_none x.eq hb)]; exact x.eq, by rw [upd_ne (ne_of_none x.eL hb)]; exact x.eL, by rw [upd_ne (ne_of_none x.eS hb)]; exact x.eS⟩
/-- the addresses that the law lays, all apart -/
structure Apart (H : Hp) (bx t D p q L S : Addr) : Prop where
  hp : H p = none
  hq : H q = none
  pb : p ≠ bx
  qb : q ≠ bx
  tp : t ≠ p
  tq : t ≠ q
  Dp : D ≠ p
  Dq : D ≠ q
  pq : p ≠ q
  Lp : L ≠ p
  Lq : L ≠ q
  Sp : S ≠ p
  Sq : S ≠ q
theorem Std.setp {P : Program} {w : World} {bx t D p q L S : Addr} {a c : Nat} {z : Str} {ks : List Nat} {H H' : Hp} {f1 f2 g : List V} (x : Std P w K bx t D p q L S a c z ks H H' f1 f2) (A : Apart H bx t D p q L S) : Std P w K bx t D p q L S a c z ks H (upd H' p (.lst g)) g f2 :=
  ⟨x.dr.at A.hp A.pb _, by rw [upd_ne A.tp]; exact x.et, by rw [upd_ne A.Dp]; exact x.eD, upd_same, by rw [upd_ne (Ne.symm A.pq)]; exact x.eq, by rw [upd_ne A.Lp]; exact x.eL, by rw [upd_ne A.Sp]; exact x.eS⟩
theorem Std.setq {P : Program} {w : World} {bx t D p q L S : Addr} {a c : Nat} {z : Str} {ks : List Nat} {H H' : Hp} {f1 f2 g : List V} (x : Std P w K bx t D p q L S a c z ks H H' f1 f2) (A : Apart H bx t D p q L S) : Std P w K bx t D p q L S a c z ks H (upd H' q (.lst g)) f1 g :=
  ⟨x.dr.at A.hq A.qb _, by rw [upd_ne A.tq]; exact x.et, by rw [upd_ne A.Dq]; exact x.eD, by rw [upd_ne A.pq]; exact x.ep, upd_same, by rw [upd_ne A.Lq]; exact x.eL, by rw [upd_ne A.Sq]; exact x.eS⟩
theorem toNats : ∀ {ns : List Int}, (∀ k ∈ ns, 0 ≤ k) → ns.map V.int = (ns.map Int.toNat).map fun i => V.int ((i : Nat) : Int)
  | [], _ => rfl
  | k :: ns, h => by
    have hk := h k List.mem_cons_self
    rw [List.map_cons, List.map_cons, List.map_cons, toNats fun j hj => h j (List.mem_cons_of_mem _ hj), show ((k.toNat : Nat) : Int) = k by omega]
theorem toNats_lt {ns : List Int} (h : ∀ k ∈ ns, 0 ≤ k) (hp : ns.Pairwise (· < ·)) : (ns.map Int.toNat).Pairwise (· ≤ ·) := by
  rw [List.pairwise_map]
  refine List.Pairwise.imp_of_mem (fun {a b} ha hb hab => ?_) hp
  have := h a ha
  omega
theorem mapN (f : Nat → Nat) (ks : List Nat) : (ks.map f).map (fun i => V.int ((i : Nat) : Int)) = ((ks.map f).map fun i => ((i : Nat) : Int)).map V.int := by
  rw [List.map_map (g := V.int)]; rfl
/-- a list that rises already is what sorted tells of it -/
theorem sorted_same {ks : List Nat} {ns : List Int} (hk : ks.Pairwise (· ≤ ·)) (hp : ns.Perm (ks.map fun i => ((i : Nat) : Int))) (hs : ns.Pairwise (· ≤ ·)) : ns = ks.map fun i => ((i : Nat) : Int) :=
  hp.eq_of_pairwise (fun a b _ _ h1 h2 => Int.le_antisymm h1 h2) hs (by rw [List.pairwise_map]; exact hk.imp fun h => by omega)
theorem due_rise {a c : Nat} {z : Str} {s : Bool} {ks : List Nat} (hk : ks.Pairwise (· ≤ ·)) : (ks.map fun k => dueS k a c z s).Pairwise (· ≤ ·) := by
  rw [List.pairwise_map]
  exact hk.imp fun h => dueS_mono h
end K05

set_option maxHeartbeats 4000000
namespace K05
open PySem PySem.Spec PyProof.Rows L2 Gx Lx
variable {P : Program} {w : World} {K : PySem.W.Frag} {mg : Str → Option Value} {base : Heap}
def sp_right : Sp := fun vs H Q _ => ∃ b : Addr, vs = [.ref b] ∧ IsBox H b ∧ ∀ H', Drawn b H H' → Q (.bl true) H'
theorem ok_L_right (T : Facts K mg) : FnG P w K mg base 5 T.f_L_right T.d_L_right ["_law_box_here"] sp_right := by
  refine fnG_of T.F_L_right sc_L_right (fun vs H Q E h => ?_) (fun cdv A outer s H vs Q hG hr h => ?_)
  · obtain ⟨c, rfl, _⟩ := h; rfl
  · obtain ⟨bx, rfl, hb, q⟩ := h
    refine ⟨_, (pss_cons (ps_for PassesOwn.never rfl (pi_range1 (by rfl) T.n_range (pa_cons pe_int pa_nil)) (pg_name (i := 1) sc_L_right.nd rfl (.inl rfl)) (pss_cons (ps_set (i := 2) sc_L_right.nd rfl (.inl rfl) (pe_go (ok_L_text T) hG (hr.mono (by decide)) (by rfl) T.g_L_text T.F_L_text.kp T.b_L_text (pa_cons (pv 0) (pa_cons pe_int pa_nil))))
        (pss_cons (ps_set (i := 3) sc_L_right.nd rfl (.inl rfl) (pe_go (ok_L_edit T) hG (hr.mono (by decide)) (by rfl) T.g_L_edit T.F_L_edit.kp T.b_L_edit (pa_cons (pv 0) (pa_cons (pv 2) pa_nil))))
        (pss_cons (ps_par (i := 4) (j := 5) (by rfl) sc_L_right.nd rfl rfl (by decide) rfl rfl (pa_cons (pe_go (ok_L_done T) hG (hr.mono (by decide)) (by rfl) T.g_L_done T.F_L_done.kp T.b_L_done (pa_cons (pv 2) (pa_cons (pv 3) pa_nil))) (pa_cons (pe_dispB (pps_cons pe_bl (pe_lst pa_nil) (pps_cons pe_bl (pe_lst pa_nil) pps_nil)) (by rfl) (by rfl) (fun z => by cases z) (by decide)) pa_nil)) (by rfl))
        (pss_cons (ps_set (i := 6) sc_L_right.nd rfl (.inl rfl) (pe_listRg3 rfl (by rfl) T.n_list (by rfl) T.n_range (pa_cons pe_int (pa_cons (pe_op op_add (pe_callB call_len_str (by rfl) T.n_len PySem.boot_len (pa_cons (pv 2) pa_nil)) pe_int) (pa_cons (pe_op op_add pe_int (pe_op op_fdiv (pe_callB call_len_str (by rfl) T.n_len PySem.boot_len (pa_cons (pv 2) pa_nil)) pe_int)) pa_nil)))))
        (pss_cons (ps_set (i := 6) sc_L_right.nd rfl (.inl rfl) (pe_callB (cr_sortedSet rfl) (by rfl) T.n_sorted (by decide +kernel) (pa_cons (pe_callTy (cr_setL rfl) (by rfl) T.n_set (by decide +kernel) (pa_cons (pe_op op_cat (pv 6) (pe_lst (pa_cons (pe_ix ix_tup (pv 3) pe_int (fun _ _ => rfl)) (pa_cons (pe_op op_add (pe_ix ix_tup (pv 3) pe_int (fun _ _ => rfl)) (pe_ix ix_tup (pv 3) pe_int (fun _ _ => rfl))) (pa_cons (pe_callB call_len_str (by rfl) T.n_len PySem.boot_len (pa_cons (pv 2) pa_nil)) pa_nil))))) pa_nil)) pa_nil)))
        (pss_cons (ps_set (i := 7) sc_L_right.nd rfl (.inl rfl) (pe_callTy call_list_of (by rfl) T.n_list (by decide +kernel) (pa_cons (pv 3) pa_nil)))
        (pss_cons (ps_for PassesOwn.never rfl (pi_list (pv 6)) (pg_name (i := 8) sc_L_right.nd rfl (.inl rfl)) (pss_cons (ps_for PassesOwn.never rfl (pi_tup (pe_tup (pa_cons pe_bl (pa_cons pe_bl pa_nil)))) (pg_name (i := 9) sc_L_right.nd rfl (.inl rfl)) (pss_cons (ps_set (i := 10) sc_L_right.nd rfl (.inl rfl) (pe_goK (ok_shifted T) hG (hr.mono (by decide)) (by rfl) T.g_shifted T.F_shifted.kp (kb_shifted_2_ahead T) (pa_cons (pv 8) (pa_cons (pv 3) pa_nil)) (pk_cons (pv 9) pk_nil)))
        (pss_cons (ps_if (PW.pt (pw_or (pt_cmpR op_ne (pe_callB (call_reprA hG hr.units) (by rfl) T.n_repr (by decide +kernel) (pa_cons (pv 10) pa_nil)) (pe_callB (call_reprA hG hr.units) (by rfl) T.n_repr (by decide +kernel) (pa_cons (pe_go (ok_L_due T) hG (hr.mono (by decide)) (by rfl) T.g_L_due T.F_L_due.kp T.b_L_due (pa_cons (pv 8) (pa_cons (pv 3) (pa_cons (pv 9) pa_nil)))) pa_nil)) (nomark _)) (pw_or1 (pt_not (pt_chain op_le op_le pe_int (pv 10) (pe_callB call_len_str (by rfl) T.n_len PySem.boot_len (pa_cons (pv 4) pa_nil))))))) (pss_one (ps_ret pe_bl)) pss_nil)
        (pss_one (ps_expr (pe_bm PySem.F.plainAttrs_list PySem.F.slot_list_append PySem.F.type_list_append mt_append (pe_dgetB (pv 5) (pv 9) (fun _ _ => rfl)) (pa_cons (pv 10) pa_nil)))))))
        (pss_cons (ps_if (PW.pt (pw_or (pt_cmpR op_ne (pe_goD (dvs := [.bl true]) (ok_shifted T) hG (hr.mono (by decide)) (by rfl) T.g_shifted T.F_shifted.kp (bd_shifted T) (.cons rfl .nil) (pa_cons (pv 8) (pa_cons (pv 3) pa_nil))) (pe_ix ix_list (pe_dgetB (pv 5) pe_bl (fun _ _ => rfl)) (pe_un un_neg pe_int) (fun _ _ => rfl)) (nomark _)) (pw_or1 (pt_cmpR op_ne (pe_goK0 (ok_shifted T) hG (hr.mono (by decide)) (by rfl) T.g_shifted T.F_shifted.kp (kb_shifted_0_edit_at T) (pk_cons (pv 7) (pk_cons (pv 8) pk_nil))) (pe_ix ix_list (pe_dgetB (pv 5) pe_bl (fun _ _ => rfl)) (pe_un un_neg pe_int) (fun _ _ => rfl)) (nomark _))))) (pss_one (ps_ret pe_bl)) pss_nil)
        (pss_one (ps_if (PW.pt (pw_and (pt_not (pt_chain op_le op_lt (pe_ix ix_tup (pv 3) pe_int (fun _ _ => rfl)) (pv 8) (pe_op op_add (pe_ix ix_tup (pv 3) pe_int (fun _ _ => rfl)) (pe_ix ix_tup (pv 3) pe_int (fun _ _ => rfl))))) (pw_and1 (pt_cmpR op_lt (pv 8) (pe_callB call_len_str (by rfl) T.n_len PySem.boot_len (pa_cons (pv 2) pa_nil)) (nomark _))))) (pss_one (ps_if (pt_cmpR op_ne (pe_ix ix_str (pv 4) (pe_ix ix_list (pe_dgetB (pv 5) pe_bl (fun _ _ => rfl)) (pe_un un_neg pe_int) (fun _ _ => rfl)) (fun _ _ => rfl)) (pe_ix ix_str (pv 2) (pv 8) (fun _ _ => rfl)) (nomark _)) (pss_one (ps_ret pe_bl)) pss_nil)) pss_nil)))))
        (pss_one (ps_if (PW.pt (pw_or (pt_cmpR (op_neD hr.units) (pe_dgetB (pv 5) pe_bl (fun _ _ => rfl)) (pe_callB cr_sortedI (by rfl) T.n_sorted (by decide +kernel) (pa_cons (pe_dgetB (pv 5) pe_bl (fun _ _ => rfl)) pa_nil)) (nomark _)) (pw_or (pt_cmpR (op_neD hr.units) (pe_dgetB (pv 5) pe_bl (fun _ _ => rfl)) (pe_callB cr_sortedI (by rfl) T.n_sorted (by decide +kernel) (pa_cons (pe_dgetB (pv 5) pe_bl (fun _ _ => rfl)) pa_nil)) (nomark _)) (pw_or1 (pt_cmpR (op_neD hr.units) (pv 7) (pe_callTy call_list_of (by rfl) T.n_list (by decide +kernel) (pa_cons (pv 3) pa_nil)) (nomark _)))))) (pss_one (ps_ret pe_bl)) pss_nil))))))))))
        (pss_one (ps_ret pe_bl))), ?_⟩
    have hsl : (5000000 : Nat) ≤ sizeLine := by decide
    refine ⟨8, rfl, by decide, by decide, for_it walk_range (fun i σ H' => Drawn bx H H' ∧ ∃ y1 y2 y3 y4 y5 y6 y7 y8 y9 y10, σ = [some (.ref bx), y1, y2, y3, y4, y5, y6, y7, y8, y9, y10]) ⟨Drawn.refl hb, none, none, none, none, none, none, none, none, none, none, rfl⟩ (fun _ _ _ _ _ => trivial) (fun i0 v σ H1 H2 hi hP hy => ?_) (fun σ H1 hP => ?_)⟩
    · obtain ⟨d1, y1, y2, y3, y4, y5, y6, y7, y8, y9, y10, rfl⟩ := hP
      obtain ⟨rfl, rfl⟩ := hy
      refine ⟨_, rfl, bx, 4, rfl, d1.1, by decide, by decide, fun ls H3 hl0 hl1 hgood d2 => ?_⟩
      have hx := (wr_of hl0 hl1 hgood).tx2
      generalize SX.S (TL.joinL [10] ls) = x at hx ⊢
      have dA := d1.trans d2
      refine ⟨_, rfl, _, rfl, bx, x, rfl, dA.1, Nat.le_trans hx.1 (by decide), hx.2, fun t a c z H4 ht htb d3 e4 hac hzl hz2 => ?_⟩
      have dB := dA.trans d3
      have hxl := hx.1
      have hzc := ok2_lt hz2
      have hmk := dn_len x a c z hac
      refine ⟨_, rfl, _, rfl, x, t, a, c, z, rfl, SqT.of e4, by omega, by omega, ?_⟩
      refine fun D hD => ⟨Nat.zero_le _, fun p (hp : (upd H4 D (BD P w D [])) p = none) => ⟨Nat.zero_le _, fun pq (hpq : (upd (upd H4 D (BD P w D [])) p (.lst [])) pq = none) => ?_⟩⟩
      have nD := dB.nb hD
      have d5 := dB.new (o := BD P w D []) hD
      have np := d5.nb hp
      have d6 := d5.new (o := .lst []) hp
      have nq := d6.nb hpq
      have hDp : D ≠ p := ne_of_none upd_same hp
      have hpq' : p ≠ pq := ne_of_none upd_same hpq
      have htD : t ≠ D := ne_of_none e4 hD
      have e5 : (upd H4 D (BD P w D [])) t = _ := (upd_ne htD).trans e4
      have htp : t ≠ p := ne_of_none e5 hp
      have e6 : (upd (upd H4 D (BD P w D [])) p (.lst [])) t = _ := (upd_ne htp).trans e5
      have htq : t ≠ pq := ne_of_none e6 hpq
      have hDq : D ≠ pq := ne_of_none ((upd_ne hDp).trans upd_same) hpq
      have gp : H p = none := d5.free hb hp
      have gq : H pq = none := d6.free hb hpq
      have gD : H D = none := dB.free hb hD
      have d7 := (d6.new (o := .lst []) hpq).at gD nD (BD P w D [(true, p), (false, pq)])
      refine ⟨(upd_ne hDq).trans ((upd_ne hDp).trans upd_same), [(true, p), (false, pq)], rfl, by show 2 ≤ 15; decide, by simp, ?_⟩
      have f1 : (upd (upd (upd (upd H4 D (BD P w D [])) p (.lst [])) pq (.lst [])) D (BD P w D [(true, p), (false, pq)])) t = some (.tup [.int (a : Int), .int (c : Int), .str z]) := (upd_ne htD).trans ((upd_ne htq).trans e6)
      have f2 : (upd (upd (upd (upd H4 D (BD P w D [])) p (.lst [])) pq (.lst [])) D (BD P w D [(true, p), (false, pq)])) D = some (BD P w D [(true, p), (false, pq)]) := upd_same
      have f3 : (upd (upd (upd (upd H4 D (BD P w D [])) p (.lst [])) pq (.lst [])) D (BD P w D [(true, p), (false, pq)])) p = some (.lst []) := (upd_ne (Ne.symm hDp)).trans ((upd_ne hpq').trans upd_same)
      have f4 : (upd (upd (upd (upd H4 D (BD P w D [])) p (.lst [])) pq (.lst [])) D (BD P w D [(true, p), (false, pq)])) pq = some (.lst []) := (upd_ne (Ne.symm hDq)).trans upd_same
      show (_ : Hp → Prop) (upd (upd (upd (upd H4 D (BD P w D [])) p (.lst [])) pq (.lst [])) D (BD P w D [(true, p), (false, pq)]))
      generalize upd (upd (upd (upd H4 D (BD P w D [])) p (.lst [])) pq (.lst [])) D (BD P w D [(true, p), (false, pq)]) = H5 at d7 f1 f2 f3 f4 ⊢
      clear d5 d6 e5 e6 hp hpq hD
      refine ⟨_, _, rfl, ?_⟩
      have hn0 : x.length / 50 * 50 + 50 > x.length := by have := Nat.div_add_mod x.length 50; have := Nat.mod_lt x.length (show 50 > 0 by decide); omega
      obtain ⟨n, hrg, hmul⟩ := rgc_up (m := x.length + 1) (c := 1 + x.length / 50) (by omega) (by omega) (by omega)
      have hn : n ≤ 51 := by
        by_cases h : n ≤ 51
        · exact h
        · have h1 := hmul 51 (by omega)
          have h2 : 51 * (1 + x.length / 50) = 51 + 51 * (x.length / 50) := by rw [Nat.mul_add]
          omega
      rw [show ((x.length + 1 : Nat) : Int) = (x.length : Int) + 1 by omega, show ((1 + x.length / 50 : Nat) : Int) = 1 + (x.length : Int) / 50 by omega] at hrg
      refine ⟨_, rfl, x, rfl, by omega, _, _, rfl, rfl, ?_⟩
      refine ⟨_, rfl, x, rfl, by omega, _, _, rfl, rfl, ⟨by decide, by decide⟩, _, _, rfl, rfl, 0, _, _, n, rfl, hrg, by omega, fun L1 hL1 => ?_⟩
      have d8 := d7.new (o := .lst ((rgC 0 (1 + (x.length : Int) / 50) n).map V.int)) hL1
      have g1 := (upd_ne (H := H5) (o := .lst ((rgC 0 (1 + (x.length : Int) / 50) n).map V.int)) (ne_of_none f1 hL1)).trans f1
      have g2 := (upd_ne (H := H5) (o := .lst ((rgC 0 (1 + (x.length : Int) / 50) n).map V.int)) (ne_of_none f2 hL1)).trans f2
      have g3 := (upd_ne (H := H5) (o := .lst ((rgC 0 (1 + (x.length : Int) / 50) n).map V.int)) (ne_of_none f3 hL1)).trans f3
      have g4 := (upd_ne (H := H5) (o := .lst ((rgC 0 (1 + (x.length : Int) / 50) n).map V.int)) (ne_of_none f4 hL1)).trans f4
      have gL : (upd H5 L1 (.lst ((rgC 0 (1 + (x.length : Int) / 50) n).map V.int))) L1 = _ := upd_same
      generalize upd H5 L1 (.lst ((rgC 0 (1 + (x.length : Int) / 50) n).map V.int)) = H6 at d8 g1 g2 g3 g4 gL ⊢
      clear d7 f1 f2 f3 f4 hL1
      have hS1 := SqT.of (K := K) g1
      refine ⟨_, rfl, _, rfl, t, _, 0, _, rfl, rfl, hS1, at_of (j := 0) rfl rfl, ?_⟩
      refine ⟨_, rfl, t, _, 0, _, rfl, rfl, hS1, at_of (j := 0) rfl rfl, _, rfl, t, _, 1, _, rfl, rfl, hS1, at_of (j := 1) rfl rfl, _, _, rfl, rfl, ?_⟩
      refine ⟨_, rfl, x, rfl, by omega, by show 3 ≤ sizeLine; decide, fun p6 hp6 => ?_⟩
      refine ⟨L1, p6, _, _, rfl, rfl, (upd_ne (ne_of_none gL hp6)).trans gL, upd_same, by
        rw [List.length_map]
        unfold rgC
        rw [List.length_map, List.length_range]
        show n + 3 ≤ sizeLine
        omega, fun p7 hp7 => ?_⟩
      refine ⟨p7, rgC 0 (1 + (x.length : Int) / 50) n ++ [(a : Int), (a : Int) + (c : Int), (x.length : Int)], rfl, SqL.of (by rw [upd_same, List.map_append]; rfl), by
        rw [List.length_append]
        unfold rgC
        rw [List.length_map, List.length_range]
        show n + 3 ≤ 1000
        omega, fun p8 cc hp8 hcc => ?_⟩
      have hcc2 : cc ≤ n + 3 := by
        rw [List.length_append] at hcc
        unfold rgC at hcc
        rw [List.length_map, List.length_range] at hcc
        exact hcc
      refine ⟨p8, _, cc, rfl, upd_same, by omega, fun ns L hpw hmem hlen hL => ?_⟩
      have hb2 : ∀ k ∈ ns, 0 ≤ k ∧ k ≤ (x.length : Int) := fun k hk => by
        have h1 := of_decide_eq_true ((hmem k).mp hk)
        rcases List.mem_append.mp h1 with h1 | h1
        · unfold rgC at h1
          obtain ⟨i, hi, rfl⟩ := List.mem_map.mp h1
          have h2 := hmul i (List.mem_range.mp hi)
          have h3 : ((i * (1 + x.length / 50) : Nat) : Int) = (i : Int) * (1 + (x.length : Int) / 50) := by push_cast; rfl
          rw [Int.zero_add, ← h3]
          omega
        · simp only [List.mem_cons, List.not_mem_nil, or_false] at h1
          omega
      rw [toNats fun k hk => (hb2 k hk).1]
      have hks := toNats_lt (fun k hk => (hb2 k hk).1) hpw
      have hkx : ∀ k ∈ ns.map Int.toNat, k ≤ x.length := fun k hk => by
        obtain ⟨j, hj, rfl⟩ := List.mem_map.mp hk
        have := hb2 j hj
        omega
      have hkl : (ns.map Int.toNat).length ≤ 54 := by rw [List.length_map]; omega
      generalize ns.map Int.toNat = ks at hks hkx hkl hL ⊢
      have sm := (((same_new (o := .lst [.int (a : Int), .int ((a : Int) + (c : Int)), .int (x.length : Int)]) hp6).trans (same_new (o := .lst ((rgC 0 (1 + (x.length : Int) / 50) n).map V.int ++ [.int (a : Int), .int ((a : Int) + (c : Int)), .int (x.length : Int)])) hp7)).trans (same_new (o := SetO w p8 (fun j => decide (j ∈ rgC 0 (1 + (x.length : Int) / 50) n ++ [(a : Int), (a : Int) + (c : Int), (x.length : Int)])) cc) hp8)).trans (same_new (o := .lst (ks.map fun i => V.int ((i : Nat) : Int))) hL)
      have hLD := (same_new (o := .lst [.int (a : Int), .int ((a : Int) + (c : Int)), .int (x.length : Int)]) hp6).trans ((same_new (o := .lst ((rgC 0 (1 + (x.length : Int) / 50) n).map V.int ++ [.int (a : Int), .int ((a : Int) + (c : Int)), .int (x.length : Int)])) hp7).trans (same_new (o := SetO w p8 (fun j => decide (j ∈ rgC 0 (1 + (x.length : Int) / 50) n ++ [(a : Int), (a : Int) + (c : Int), (x.length : Int)])) cc) hp8))
      have nLp : L ≠ p := Ne.symm (ne_of_none (hLD _ _ g3) hL)
      have nLq : L ≠ pq := Ne.symm (ne_of_none (hLD _ _ g4) hL)
      have eL : (upd (upd (upd (upd H6 p6 (.lst [.int (a : Int), .int ((a : Int) + (c : Int)), .int (x.length : Int)])) p7 (.lst ((rgC 0 (1 + (x.length : Int) / 50) n).map V.int ++ [.int (a : Int), .int ((a : Int) + (c : Int)), .int (x.length : Int)]))) p8 (SetO w p8 (fun j => decide (j ∈ rgC 0 (1 + (x.length : Int) / 50) n ++ [(a : Int), (a : Int) + (c : Int), (x.length : Int)])) cc)) L (.lst (ks.map fun i => V.int ((i : Nat) : Int)))) L = _ := upd_same
      show (_ : Hp → Prop) (upd (upd (upd (upd H6 p6 (.lst [.int (a : Int), .int ((a : Int) + (c : Int)), .int (x.length : Int)])) p7 (.lst ((rgC 0 (1 + (x.length : Int) / 50) n).map V.int ++ [.int (a : Int), .int ((a : Int) + (c : Int)), .int (x.length : Int)]))) p8 (SetO w p8 (fun j => decide (j ∈ rgC 0 (1 + (x.length : Int) / 50) n ++ [(a : Int), (a : Int) + (c : Int), (x.length : Int)])) cc)) L (.lst (ks.map fun i => V.int ((i : Nat) : Int))))
      generalize upd (upd (upd (upd H6 p6 (.lst [.int (a : Int), .int ((a : Int) + (c : Int)), .int (x.length : Int)])) p7 (.lst ((rgC 0 (1 + (x.length : Int) / 50) n).map V.int ++ [.int (a : Int), .int ((a : Int) + (c : Int)), .int (x.length : Int)]))) p8 (SetO w p8 (fun j => decide (j ∈ rgC 0 (1 + (x.length : Int) / 50) n ++ [(a : Int), (a : Int) + (c : Int), (x.length : Int)])) cc)) L (.lst (ks.map fun i => V.int ((i : Nat) : Int))) = H7 at sm eL ⊢
      have d9 := d8.trans (Drawn.of d8.1 sm)
      clear hLD hL hp8 hp7 hp6 hmem hpw hcc
      have k1 := sm _ _ g1
      have k2 := sm _ _ g2
      have k3 := sm _ _ g3
      have k4 := sm _ _ g4
      clear g1 g2 g3 g4 gL hS1 sm d8
      refine ⟨_, rfl, t, _, rfl, .inr (SqT.of k1), fun S hS => ?_⟩
      have X0 : Std P w K bx t D p pq L S a c z ks H (upd H7 S (.lst [.int (a : Int), .int (c : Int), .str z])) (fnd a c z true []) (fnd a c z false []) :=
        ⟨d9.new hS, (upd_ne (ne_of_none k1 hS)).trans k1, (upd_ne (ne_of_none k2 hS)).trans k2, (upd_ne (ne_of_none k3 hS)).trans k3, (upd_ne (ne_of_none k4 hS)).trans k4, (upd_ne (ne_of_none eL hS)).trans eL, upd_same⟩
      have AP : Apart H bx t D p pq L S := ⟨gp, gq, np, nq, htp, htq, hDp, hDq, hpq', nLp, nLq, Ne.symm (ne_of_none k3 hS), Ne.symm (ne_of_none k4 hS)⟩
      generalize upd H7 S (.lst [.int (a : Int), .int (c : Int), .str z]) = H8 at X0 ⊢
      clear k1 k2 k3 k4 eL hS d9
      have hcn : a ≤ x.length ∧ c ≤ x.length := ⟨by omega, by omega⟩
      refine ⟨_, rfl, L, rfl, ⟨_, SqL.of X0.eL⟩, for_it walk_list (fun i σ H' => Std P w K bx t D p pq L S a c z ks H H' (fnd a c z true (ks.take i)) (fnd a c z false (ks.take i)) ∧ ∃ z8 z9 z10, σ = [some (.ref bx), some (.int (0 + (i0 : Int))), some (.str x), some (.ref t), some (.str (dn x a c z)), some (.ref D), some (.ref L), some (.ref S), z8, z9, z10]) ⟨X0, y8, y9, y10, rfl⟩ (fun i σ H' hi hP => SqL.of hP.1.eL) (fun i v σ H9 H10 hi hP hy => ?_) (fun σ HA hP => ?_)⟩
      · obtain ⟨X1, z8, z9, z10, rfl⟩ := hP
        obtain ⟨rfl, hv⟩ := hy
        rw [List.getElem?_map] at hv
        obtain ⟨k, hk, rfl⟩ := Option.map_eq_some_iff.mp hv
        have hkm : k ≤ x.length := hkx k (List.mem_of_getElem? hk)
        clear hv
        refine ⟨by show 2 ≤ sizeLine; decide, fun q2 hq2 => ?_⟩
        have X2 := X1.new (o := .tup [.bl true, .bl false]) hq2
        have e2 : (upd H10 q2 (.tup [.bl true, .bl false])) q2 = some (.tup [.bl true, .bl false]) := upd_same
        have n2p : q2 ≠ p := Ne.symm (ne_of_none X1.ep hq2)
        have n2q : q2 ≠ pq := Ne.symm (ne_of_none X1.eq hq2)
        generalize upd H10 q2 (.tup [.bl true, .bl false]) = H11 at X2 e2 ⊢
        refine ⟨q2, rfl, ⟨_, SqT.of e2⟩, for_it (walk_tup (xs := [.bl true, .bl false])) (fun j σ H' => Std P w K bx t D p pq L S a c z ks H H' (fnd a c z true (ks.take i) ++ if 0 < j then [V.int ((dueS k a c z true : Nat) : Int)] else []) (fnd a c z false (ks.take i) ++ if 1 < j then [V.int ((dueS k a c z false : Nat) : Int)] else []) ∧ H' q2 = some (.tup [.bl true, .bl false]) ∧ ∃ z9 z10, σ = [some (.ref bx), some (.int (0 + (i0 : Int))), some (.str x), some (.ref t), some (.str (dn x a c z)), some (.ref D), some (.ref L), some (.ref S), some (.int (k : Int)), z9, z10]) ⟨by simpa using X2, e2, z9, z10, rfl⟩ (fun j σ H' hj hP => SqT.of hP.2.1) (fun j v σ HA HB hj hP hy => ?_) (fun σ HA hP => ?_)⟩
        · obtain ⟨X3, e3, u9, u10, rfl⟩ := hP
          obtain ⟨rfl, hv⟩ := hy
          obtain ⟨s, rfl, hjs⟩ : ∃ s, v = .bl s ∧ ((j = 0 ∧ s = true) ∨ (j = 1 ∧ s = false)) := by
            match j, hv with
            | 0, hv => cases hv; exact ⟨_, rfl, .inl ⟨rfl, rfl⟩⟩
            | 1, hv => cases hv; exact ⟨_, rfl, .inr ⟨rfl, rfl⟩⟩
          refine ⟨_, rfl, _, rfl, _, rfl, rfl, rfl, k, t, a, c, z, s, rfl, .inl (SqT.of X3.et), by omega, ?_⟩
          have hle := dueS_le (s := s) (z := z) hkm hac
          have R := rp_int (n := dueS k a c z s) (by omega)
          refine ⟨_, rfl, .int _, .int _, rfl, .int _, R.1, R.2.1, R.2.2.1, R.2.2.2, ?_⟩
          refine ⟨_, rfl, _, rfl, _, rfl, k, t, a, c, z, s, rfl, SqT.of X3.et, by omega, ?_⟩
          refine ⟨.int _, .int _, rfl, .int _, R.1, R.2.1, R.2.2.1, R.2.2.2, ?_⟩
          refine ⟨rfl, _, rfl, iteNS rfl ?_⟩
          refine ⟨_, rfl, _, _, rfl, rfl, _, rfl, ite2 (fun _ => ?_) (fun h => absurd (decide_eq_true (show (0 : Int) ≤ ((dueS k a c z s : Nat) : Int) by omega)) h)⟩
          refine ⟨_, rfl, dn x a c z, rfl, by omega, _, _, rfl, rfl, _, rfl, iteNS (show ((dueS k a c z s : Nat) : Int) ≤ (((dn x a c z).length : Nat) : Int) by omega) ?_⟩
          rcases hjs with ⟨rfl, rfl⟩ | ⟨rfl, rfl⟩
          · refine ⟨_, rfl, _, rfl, D, true, _, p, rfl, rfl, X3.eD, rfl, .inl ⟨rfl, _, SqL.of X3.ep⟩, _, rfl, p, _, _, rfl, rfl, X3.ep, ?_, ?_, (upd_ne n2p).trans e3, _, _, rfl⟩
            · rw [List.length_append]
              unfold fnd
              rw [List.length_map, List.length_map, List.length_take]
              show _ + 0 < sizeLine
              omega
            · have X4 := X3.setp (g := (fnd a c z true (ks.take i) ++ if 0 < 0 then [V.int ((dueS k a c z true : Nat) : Int)] else []) ++ [V.int ((dueS k a c z true : Nat) : Int)]) AP
              simpa using X4
          · refine ⟨_, rfl, _, rfl, D, false, _, pq, rfl, rfl, X3.eD, rfl, .inl ⟨rfl, _, SqL.of X3.eq⟩, _, rfl, pq, _, _, rfl, rfl, X3.eq, ?_, ?_, (upd_ne n2q).trans e3, _, _, rfl⟩
            · rw [List.length_append]
              unfold fnd
              rw [List.length_map, List.length_map, List.length_take]
              show _ + 0 < sizeLine
              omega
            · have X4 := X3.setq (g := (fnd a c z false (ks.take i) ++ if 1 < 1 then [V.int ((dueS k a c z false : Nat) : Int)] else []) ++ [V.int ((dueS k a c z false : Nat) : Int)]) AP
              simpa using X4
        · obtain ⟨X3, e3, u9, u10, rfl⟩ := hP
          have X5 : Std P w K bx t D p pq L S a c z ks H HA (fnd a c z true (ks.take i) ++ [V.int ((dueS k a c z true : Nat) : Int)]) (fnd a c z false (ks.take i) ++ [V.int ((dueS k a c z false : Nat) : Int)]) := by simpa using X3
          have fin : ∀ z9 z10, Std P w K bx t D p pq L S a c z ks H HA (fnd a c z true (ks.take (i + 1))) (fnd a c z false (ks.take (i + 1))) ∧ ∃ y8 y9 y10, ([some (.ref bx), some (.int (0 + (i0 : Int))), some (.str x), some (.ref t), some (.str (dn x a c z)), some (.ref D), some (.ref L), some (.ref S), some (.int (k : Int)), z9, z10] : L2.St) = [some (.ref bx), some (.int (0 + (i0 : Int))), some (.str x), some (.ref t), some (.str (dn x a c z)), some (.ref D), some (.ref L), some (.ref S), y8, y9, y10] := fun z9 z10 => by
            refine ⟨?_, _, _, _, rfl⟩
            have e : ks.take (i + 1) = ks.take i ++ [k] := by rw [List.take_add_one, hk]; rfl
            have ef : ∀ s, fnd a c z s (ks.take (i + 1)) = fnd a c z s (ks.take i) ++ [V.int ((dueS k a c z s : Nat) : Int)] := fun s => by unfold fnd; rw [e, List.map_append, List.map_append]; rfl
            rw [ef, ef]
            exact X5
          clear X3 e3 X2 X1
          have hT := SqT.of (K := K) X5.et
          refine ⟨_, rfl, _, rfl, k, t, a, c, z, true, rfl, .inl hT, by omega, ?_⟩
          refine ⟨_, rfl, D, true, _, p, rfl, rfl, X5.eD, rfl, _, rfl, p, _, -1, _, rfl, rfl, SqL.of X5.ep, atI_last _ _, ?_⟩
          refine ⟨rfl, _, rfl, iteNS rfl ?_⟩
          refine ⟨_, rfl, _, rfl, rfl, rfl, k, S, a, c, z, true, rfl, .inr (SqL.of X5.eS), by omega, ?_⟩
          refine ⟨_, rfl, D, true, _, p, rfl, rfl, X5.eD, rfl, _, rfl, p, _, -1, _, rfl, rfl, SqL.of X5.ep, atI_last _ _, ?_⟩
          refine ⟨rfl, _, rfl, iteNS rfl ?_⟩
          have chk : ¬ (a ≤ k ∧ k < a + c) → k < x.length → ∃ ch, (dn x a c z).cps.toList[dueS k a c z false]? = some ch ∧ x.cps.toList[k]? = some ch := fun h1 h2 => by
            have h3 := dueS_sign (z := z) hac h2 h1
            have h4 : k < x.cps.toList.length := by rw [Array.length_toList]; exact h2
            exact ⟨_, h3.trans (List.getElem?_eq_getElem h4), List.getElem?_eq_getElem h4⟩
          refine ⟨_, rfl, t, _, 0, _, rfl, rfl, hT, at_of (j := 0) rfl rfl, _, rfl, _, _, rfl, rfl, _, rfl, ite2 (fun h1 => ?_) (fun h1 => ?_)⟩
          · have h1 : (a : Int) ≤ (k : Int) := of_decide_eq_true h1
            refine ⟨_, rfl, t, _, 0, _, rfl, rfl, hT, at_of (j := 0) rfl rfl, _, rfl, t, _, 1, _, rfl, rfl, hT, at_of (j := 1) rfl rfl, _, _, rfl, rfl, ?_⟩
            refine ⟨_, _, rfl, rfl, _, rfl, ite2 (fun h2 => ?_) (fun h2 => ?_)⟩
            · have h2 : ¬ ((k : Int) < (a : Int) + (c : Int)) := by simpa using h2
              refine ⟨_, rfl, _, rfl, x, rfl, by omega, _, _, rfl, rfl, _, rfl, ite2 (fun h3 => ?_) (fun h3 => ?_)⟩
              · have h3 : (k : Int) < (x.length : Int) := of_decide_eq_true h3
                obtain ⟨ch, hc1, hc2⟩ := chk (by omega) (by omega)
                refine ⟨_, rfl, _, rfl, D, false, _, pq, rfl, rfl, X5.eD, rfl, _, rfl, pq, _, -1, _, rfl, rfl, SqL.of X5.eq, atI_last _ _, dn x a c z, _, ch, rfl, rfl, by omega, atI_nat hc1, ?_⟩
                refine ⟨_, rfl, _, rfl, x, _, ch, rfl, rfl, by omega, atI_nat hc2, ?_⟩
                refine ⟨rfl, _, rfl, iteNS rfl ?_⟩
                exact fin _ _
              · exact fin _ _
            · exact fin _ _
          · have h1 : ¬ ((a : Int) ≤ (k : Int)) := fun h => h1 (decide_eq_true h)
            refine ⟨_, rfl, ite2 (fun _ => ?_) (fun h => absurd rfl h)⟩
            refine ⟨_, rfl, _, rfl, x, rfl, by omega, _, _, rfl, rfl, _, rfl, ite2 (fun h3 => ?_) (fun h3 => ?_)⟩
            · have h3 : (k : Int) < (x.length : Int) := of_decide_eq_true h3
              obtain ⟨ch, hc1, hc2⟩ := chk (by omega) (by omega)
              refine ⟨_, rfl, _, rfl, D, false, _, pq, rfl, rfl, X5.eD, rfl, _, rfl, pq, _, -1, _, rfl, rfl, SqL.of X5.eq, atI_last _ _, dn x a c z, _, ch, rfl, rfl, by omega, atI_nat hc1, ?_⟩
              refine ⟨_, rfl, _, rfl, x, _, ch, rfl, rfl, by omega, atI_nat hc2, ?_⟩
              refine ⟨rfl, _, rfl, iteNS rfl ?_⟩
              exact fin _ _
            · exact fin _ _
      · obtain ⟨X1, z8, z9, z10, rfl⟩ := hP
        have el : (ks.map fun i => V.int ((i : Nat) : Int)).length = ks.length := List.length_map _
        rw [el, List.take_length] at X1
        have hD := X1.eD
        have ep : ∀ s, fnd a c z s ks = ((ks.map fun k => dueS k a c z s).map fun i => ((i : Nat) : Int)).map V.int := fun s => mapN _ _
        have e1 := X1.ep
        rw [ep] at e1
        refine ⟨_, rfl, D, true, _, p, rfl, rfl, hD, rfl, _, rfl, D, true, _, p, rfl, rfl, hD, rfl, p, _, rfl, SqL.of e1, fun m1 q1 hm1 hs1 hq1 => ?_⟩
        rw [sorted_same (due_rise hks) hm1 hs1]
        have X2 := X1.new (o := .lst (((ks.map fun k => dueS k a c z true).map fun i => ((i : Nat) : Int)).map V.int)) hq1
        have e2 : (upd HA q1 (.lst (((ks.map fun k => dueS k a c z true).map fun i => ((i : Nat) : Int)).map V.int))) q1 = some (.lst (fnd a c z true ks)) := by rw [upd_same, ep]
        generalize upd HA q1 (.lst (((ks.map fun k => dueS k a c z true).map fun i => ((i : Nat) : Int)).map V.int)) = HB at X2 e2 ⊢
        refine nats_same (SqL.of X2.ep) (SqL.of e2) ⟨_, rfl, ite2 (fun h => by cases h) (fun _ => ?_)⟩
        have e1 := X2.eq
        rw [ep] at e1
        have hD := X2.eD
        refine ⟨_, rfl, D, false, _, pq, rfl, rfl, hD, rfl, _, rfl, D, false, _, pq, rfl, rfl, hD, rfl, pq, _, rfl, SqL.of e1, fun m2 q3 hm2 hs2 hq3 => ?_⟩
        rw [sorted_same (due_rise hks) hm2 hs2]
        have X3 := X2.new (o := .lst (((ks.map fun k => dueS k a c z false).map fun i => ((i : Nat) : Int)).map V.int)) hq3
        have e3 : (upd HB q3 (.lst (((ks.map fun k => dueS k a c z false).map fun i => ((i : Nat) : Int)).map V.int))) q3 = some (.lst (fnd a c z false ks)) := by rw [upd_same, ep]
        generalize upd HB q3 (.lst (((ks.map fun k => dueS k a c z false).map fun i => ((i : Nat) : Int)).map V.int)) = HC at X3 e3 ⊢
        refine nats_same (SqL.of X3.eq) (SqL.of e3) ⟨_, rfl, ite2 (fun h => by cases h) (fun _ => ?_)⟩
        refine ⟨_, rfl, _, rfl, t, _, rfl, .inr (SqT.of X3.et), fun S2 hS2 => ?_⟩
        have X4 := X3.new (o := .lst [.int (a : Int), .int (c : Int), .str z]) hS2
        refine ne_l3 (SqL.of X4.eS) (SqL.of upd_same) hzc ⟨_, rfl, ite2 (fun h => by cases h) (fun _ => ?_)⟩
        exact ⟨X4.dr, _, _, _, _, _, _, _, _, _, _, rfl⟩
    · obtain ⟨d1, y1, y2, y3, y4, y5, y6, y7, y8, y9, y10, rfl⟩ := hP
      exact q _ d1
end K05

set_option maxHeartbeats 4000000
namespace K05
open PySem PySem.Spec PyProof.Rows L2 Gx Lx
section
variable {P : Program} {w : World} {K : PySem.W.Frag} {mg : Str → Option Value} {base : Heap}
def sp_law (K : PySem.W.Frag) : Sp := fun vs H Q _ => ∃ (a : Addr) (ns : List Int), vs = [.ref a] ∧ SqL K H a (ns.map V.int) ∧ ns.length ≤ 63 ∧ ∀ H', Q (.bl true) H'
theorem law_end {K : PySem.W.Frag} {n : Nat} {ns : List Int} {H : Hp} {a : Addr} (hl : ns.length ≤ 63) (_ : ∀ z ∈ ns, Builtin.Int.intBits z ≤ n) (_ : Only H) (hS : SqL K H a (ns.map V.int)) : sp_law K [.ref a] H (fun v _ => v = .bl true) E0 :=
  ⟨a, ns, rfl, hS, hl, fun _ => rfl⟩
theorem ok_law (T : Facts K mg) : FnG P w K mg base 6 T.f_law T.d_law ["_law_script"] (sp_law K) := by
  refine fnG_of T.F_law sc_law (fun vs H Q E h => ?_) (fun cdv A outer s H vs Q hG hr h => ?_)
  · obtain ⟨c, _, rfl, _⟩ := h; rfl
  · obtain ⟨a, ns, rfl, hS, hl, q⟩ := h
    refine ⟨_, (pss_cons (ps_set (i := 1) sc_law.nd rfl (.inr rfl) (pe_go (ok_L_cells T) hG (hr.mono (by decide)) (by rfl) T.g_L_cells T.F_L_cells.kp T.b_L_cells (pa_cons (pv 0) (pa_cons pe_int pa_nil))))
        (pss_one (ps_ret (pe_callB (cr_all rfl) (by rfl) T.n_all (by decide +kernel) (pa_cons (pe_lc (own := [("_law_k", 2)]) rfl sc_law.nd (pi_range1 (by rfl) T.n_range (pa_cons (pe_callB call_len_seq (by rfl) T.n_len PySem.boot_len (pa_cons (pv 1) pa_nil)) pa_nil)) (blkOk_by (own := [("_law_k", 2)]) (N := ["_law_script", "_law_cells_here", "_law_k"]) (sc := defScope s_law) (by decide +kernel)) (fun _ _ _ _ _ => (pg_name (i := 2) sc_law.nd rfl (.inl rfl))) (fun _ _ _ _ _ => pts_nil) (fun _ _ _ _ _ => (pe_go (ok_L_right T) hG (hr.mono (by decide)) (by rfl) T.g_L_right T.F_L_right.kp T.b_L_right (pa_cons (pe_go (ok_L_box T) hG (hr.mono (by decide)) (by rfl) T.g_L_box T.F_L_box.kp T.b_L_box (pa_cons (pv 1) (pa_cons (pv 2) pa_nil))) pa_nil)))) pa_nil))))), ?_⟩
    have hbig : (1000 : Nat) < sizeLine := by decide
    refine ⟨_, rfl, a, ns, 4, rfl, hS, hl, by decide, by decide, fun p cs H1 hc0 hc1 hp s1 e1 => ?_⟩
    have e2 : (cs.map V.int).length = cs.length := List.length_map _
    refine ⟨_, rfl, p, _, rfl, .inl (SqL.of e1), _, rfl, by rw [e2]; omega, by rw [e2]; omega, fun D hD => ?_⟩
    rw [e2, Int.toNat_natCast]
    have hpD : p ≠ D := ne_of_none e1 hD
    refine lc_it walk_range (fun i H2 => H2 p = some (.lst (cs.map V.int)) ∧ H2 D = some (.lst ((List.replicate i true).map V.bl))) ⟨by rw [upd_ne hpD]; exact e1, upd_same⟩ (fun _ _ _ _ => trivial) (fun i v H2 H3 hi hP hy => ?_) (fun H2 hP => ?_)
    · obtain ⟨ep, eD⟩ := hP
      obtain ⟨rfl, hv0⟩ := hy
      have hv : v = .int ((i : Nat) : Int) := hv0.trans (congrArg V.int (Int.zero_add _))
      clear hv0
      subst hv
      refine ⟨rfl, ?_⟩
      unfold tYes
      dsimp only
      rw [if_pos rfl]
      refine ⟨_, rfl, _, rfl, p, cs, i, rfl, SqL.of ep, by omega, by omega, fun bx H4 hbx s4 hbox => ?_⟩
      refine ⟨bx, rfl, hbox, fun H5 d5 => ?_⟩
      have hpb : p ≠ bx := ne_of_none ep hbx
      have hDb : D ≠ bx := ne_of_none eD hbx
      refine ⟨_, d5.2 _ _ hDb (s4 _ _ eD), by rw [List.length_map, List.length_replicate]; omega, ?_, ?_⟩
      · rw [upd_ne hpD]; exact d5.2 _ _ hpb (s4 _ _ ep)
      · rw [upd_same, List.replicate_succ', List.map_append]; rfl
    · obtain ⟨ep, eD⟩ := hP
      refine ⟨D, List.replicate cs.length true, rfl, SqL.of eD, ?_⟩
      have : (List.replicate cs.length true).all id = true := by rw [List.all_eq_true]; exact fun x hx => by rw [List.eq_of_mem_replicate hx]; rfl
      rw [this]
      exact q H2
end
theorem all_mk {l : PySem.W.OpenLaw} {w : World} {K : PySem.W.Frag} {h : Heap} {mg : Str → Option Value} {fa : Addr} (X : K.In h) (G : h.Ns mainGlobals mg) (hfa : mg "law" = some (.ref fa))
    {f_shifted : Addr} {d_shifted : FuncData} (h_shifted : HasDefZ K "shifted" s_shifted f_shifted d_shifted "ahead" (.bool true)) {f_L_box : Addr} {d_L_box : FuncData} (h_L_box : HasDef K "_law_box" s_L_box f_L_box d_L_box) {f_L_take : Addr} {d_L_take : FuncData} (h_L_take : HasDef K "_law_take" s_L_take f_L_take d_L_take) {f_L_cells : Addr} {d_L_cells : FuncData} (h_L_cells : HasDef K "_law_cells" s_L_cells f_L_cells d_L_cells) {f_L_one_of : Addr} {d_L_one_of : FuncData} (h_L_one_of : HasDef K "_law_one_of" s_L_one_of f_L_one_of d_L_one_of) {f_L_row : Addr} {d_L_row : FuncData} (h_L_row : HasDef K "_law_row" s_L_row f_L_row d_L_row) {f_L_text : Addr} {d_L_text : FuncData} (h_L_text : HasDef K "_law_text" s_L_text f_L_text d_L_text) {f_L_edit : Addr} {d_L_edit : FuncData} (h_L_edit : HasDef K "_law_edit" s_L_edit f_L_edit d_L_edit) {f_L_done : Addr} {d_L_done : FuncData} (h_L_done : HasDef K "_law_done" s_L_done f_L_done d_L_done) {f_L_due : Addr} {d_L_due : FuncData} (h_L_due : HasDef K "_law_due" s_L_due f_L_due d_L_due) {f_L_right : Addr} {d_L_right : FuncData} (h_L_right : HasDef K "_law_right" s_L_right f_L_right d_L_right) {f_law : Addr} {d_law : FuncData} (h_law : HasDef K "law" s_law f_law d_law)    
    (z_len : PySem.W.nsIn K mainGlobals "len" = some none) (z_abs : PySem.W.nsIn K mainGlobals "abs" = some none) (z_int : PySem.W.nsIn K mainGlobals "int" = some none) (z_enumerate : PySem.W.nsIn K mainGlobals "enumerate" = some none) (z_list : PySem.W.nsIn K mainGlobals "list" = some none) (z_range : PySem.W.nsIn K mainGlobals "range" = some none) (z_min : PySem.W.nsIn K mainGlobals "min" = some none) (z_sorted : PySem.W.nsIn K mainGlobals "sorted" = some none) (z_repr : PySem.W.nsIn K mainGlobals "repr" = some none) (z_set : PySem.W.nsIn K mainGlobals "set" = some none) (z_all : PySem.W.nsIn K mainGlobals "all" = some none)
     :
    ∃ fd : FuncData, (∀ (s : Shared) (v : Value), BindsTo s fd ⟨[v], []⟩ [("_law_script", v)]) ∧ ∀ base : Heap, K.In base → base.Ns mainGlobals mg → FnG l.prog w K mg base 6 fa fd ["_law_script"] (sp_law K) := by
  have e := hfa.symm.trans (PySem.W.mg_of X G h_law.at_)
  cases e
  exact ⟨_, fun s v => Gx.binds_law h_law.fn (fun _ _ _ _ _ _ us hl => match us, hl with | [_], _ => rfl) s v, fun base _ _ => ok_law (txt_mk X G h_shifted h_L_box h_L_take h_L_cells h_L_one_of h_L_row h_L_text h_L_edit h_L_done h_L_due h_L_right h_law z_len z_abs z_int z_enumerate z_list z_range z_min z_sorted z_repr z_set z_all)⟩
end K05
open PySem PySem.W PyProof.Rows
set_option maxHeartbeats 0 in
theorem PySem.Challenge.cw_typedahead_k05_places_shifted_holds : PySem.Challenge.rw_typedahead_k05_places_shifted.Holds := by
  w_on; o_law; k_head; (case hw => w_witness2)
  k_fill
  refine Gx.walk_ofG (l := PySem.Challenge.rw_typedahead_k05_places_shifted) (n := 63) (k := 6) (x := "_law_script") (sp := fun w => K05.sp_law _) rfl (by decide) rfl ⟨rfl, by decide, by decide⟩ (fun w h Y => PySem.W.kIn_of Y) ?F (fun w H a ns hl hb ho hS => K05.law_end hl hb ho hS)
  case F =>
    intro w mg fa h KX G hmg
    refine' K05.all_mk KX G hmg (K05.hasDefZ_mk ?a_shifted ?l_shifted ?c_shifted ?k_shifted ?e_shifted) (K05.hasDef_mk ?a_L_box ?l_L_box ?c_L_box ?k_L_box) (K05.hasDef_mk ?a_L_take ?l_L_take ?c_L_take ?k_L_take) (K05.hasDef_mk ?a_L_cells ?l_L_cells ?c_L_cells ?k_L_cells) (K05.hasDef_mk ?a_L_one_of ?l_L_one_of ?c_L_one_of ?k_L_one_of) (K05.hasDef_mk ?a_L_row ?l_L_row ?c_L_row ?k_L_row) (K05.hasDef_mk ?a_L_text ?l_L_text ?c_L_text ?k_L_text) (K05.hasDef_mk ?a_L_edit ?l_L_edit ?c_L_edit ?k_L_edit) (K05.hasDef_mk ?a_L_done ?l_L_done ?c_L_done ?k_L_done) (K05.hasDef_mk ?a_L_due ?l_L_due ?c_L_due ?k_L_due) (K05.hasDef_mk ?a_L_right ?l_L_right ?c_L_right ?k_L_right) (K05.hasDef_mk ?a_law ?l_law ?c_law ?k_law) ?z_len ?z_abs ?z_int ?z_enumerate ?z_list ?z_range ?z_min ?z_sorted ?z_repr ?z_set ?z_all
    (case a_shifted => k_is); (case l_shifted => k_is); (case c_shifted => k_is); (case k_shifted => k_is); (case e_shifted => k_is); (case a_L_box => k_is); (case l_L_box => k_is); (case c_L_box => k_is); (case k_L_box => k_is); (case a_L_take => k_is); (case l_L_take => k_is); (case c_L_take => k_is); (case k_L_take => k_is); (case a_L_cells => k_is); (case l_L_cells => k_is); (case c_L_cells => k_is); (case k_L_cells => k_is); (case a_L_one_of => k_is); (case l_L_one_of => k_is); (case c_L_one_of => k_is); (case k_L_one_of => k_is); (case a_L_row => k_is); (case l_L_row => k_is); (case c_L_row => k_is); (case k_L_row => k_is); (case a_L_text => k_is); (case l_L_text => k_is); (case c_L_text => k_is); (case k_L_text => k_is); (case a_L_edit => k_is); (case l_L_edit => k_is); (case c_L_edit => k_is); (case k_L_edit => k_is); (case a_L_done => k_is); (case l_L_done => k_is); (case c_L_done => k_is); (case k_L_done => k_is); (case a_L_due => k_is); (case l_L_due => k_is); (case c_L_due => k_is); (case k_L_due => k_is); (case a_L_right => k_is); (case l_L_right => k_is); (case c_L_right => k_is); (case k_L_right => k_is); (case a_law => k_is); (case l_law => k_is); (case c_law => k_is); (case k_law => k_is); (case z_len => k_is); (case z_abs => k_is); (case z_int => k_is); (case z_enumerate => k_is); (case z_list => k_is); (case z_range => k_is); (case z_min => k_is); (case z_sorted => k_is); (case z_repr => k_is); (case z_set => k_is); (case z_all => k_is)
