import PyProof.Rows.All
import PySem.Challenge.RW_typedahead_k02_what_edits_are
import HandS.ForMost
import HandS.EndBits
import HandS.Defaults
import HandS.IsInst
import HandS.Flow
import HandS.Wide
import HandS.Style
import HandS.Codes
import HandS.Walk
import HandS.FStrTup
import HandS.RaiseMore
import PyProof.Examples.IsLeap
import PyProof.AutoIntG7
import PyProof.TwoTypesSub
import PyProof.Rows.RuleB_bool
import PyProof.EnumMake
import KE.GoesEnum
import KE.GoesMore
import PyProof.StrLawsRepr
import PyProof.ReprLen
import PyProof.FitsInt
set_option Elab.async false
set_option linter.all false
set_option maxRecDepth 100000
set_option maxHeartbeats 4000000
/-! Gx: defs whose callers have no repr under way (FnG), the end of a law over them, and a few rules more: repr of data, text * int, calls by keywords alone. -/
namespace Gx
open PySem PySem.Spec PyProof.Rows L2

/-- a def's promise where no repr is under way around the call -/
structure FnG (P : Program) (w : World) (K : PySem.W.Frag) (mg : Str → Option Value) (base : Heap) (k : Nat) (f : Addr) (fd : FuncData) (ps : List Str) (sp : Sp) : Prop where
  len : ∀ vs H Q E, sp vs H Q E → vs.length = ps.length
  go : ∀ (A : Around) (outer : List Env) (s : Shared) (H : Hp) (args : Args) (us : List Value) (vs : List V) (Q : VK), A.guards = some [] → Room k A → Env0 P w K mg base A outer s H →
    BindsTo s fd args (ps.zip us) → Vals vs us → sp vs H Q E0 → codeAny (model P w) A (.call (.ref f) args) (CR CX0 outer P w H s Q E0) s

section
variable {P : Program} {w : World} {K : PySem.W.Frag} {mg : Str → Option Value} {base : Heap}

theorem FnG.ofOk {k : Nat} {f : Addr} {fd : FuncData} {ps : List Str} {sp : Sp} (F : FnOk P w K mg base CX0 k f fd ps sp) : FnG P w K mg base k f fd ps sp :=
  ⟨F.len, fun A outer s H args us vs Q _ hr => F.run A outer s H args us vs Q E0 hr⟩

theorem fnG_of {x qual : Str} {st : Stmt} {f : Addr} {fd : FuncData} {N ps : List Str} {k : Nat} {sp : Sp} (F : Fun K x qual st f fd) (S : FnScope N ps (defScope st)) (len : ∀ vs H Q E, sp vs H Q E → vs.length = ps.length)
    (body : ∀ (cdv : Value) (A : Around) (outer : List Env) (s : Shared) (H : Hp) (vs : List V) (Q : VK), (A.deeper (envOfC qual (defScope st) s.heap.objs.size f cdv)).guards = some [] →
      Room k (A.deeper (envOfC qual (defScope st) s.heap.objs.size f cdv)) → sp vs H Q E0 →
      ∃ t, PSs (cxOf CX0 P w K mg base N qual (defScope st) f cdv A outer s H E0).nox (defBody st) t ∧ t { nx := fun _ H' => Q .non H', rt := Q } (start N vs) H) :
    FnG P w K mg base (k + 1) f fd ps sp := by
  obtain ⟨oc, od, kV, doc, pm, an, cdv, ct, osl, rfl, lk, hcd⟩ := F.ex
  constructor
  · exact len
  intro A outer s H args us vs Q hG hr e0 hb r hsp
  have hl := len _ _ _ _ hsp
  have up : ∀ b o, base.get? b = some o → s.heap.get? b = some o := fun b o e => (e0.bs b o e).1
  have kin : K.In s.heap := e0.mod.kin.keeps up
  have nolim : s.heap.NoLimit := e0.mod.nolimit.keeps up
  have hkind : ((ps.zip us).all fun y => (defScope st).names.lookup y.1 == some .local || (defScope st).names.lookup y.1 == some .cell) = true := by
    rw [List.all_eq_true]
    rintro ⟨n, v⟩ hy
    rcases S.par n (List.of_mem_zip hy).1 with q | q
    · simp [q]
    · simp [q]
  obtain ⟨t, ht, hq⟩ := body cdv A outer s H vs Q hG (hr.deeper _) hsp
  refine Att.call_fn kin nolim lk hcd hr.depth hb hkind (fun s1 x1 => ?_) S.co S.gen S.kind
  have I : Inv (cxOf CX0 P w K mg base N qual (defScope st) f cdv A outer s H E0) [] (start N vs) H s1 := inv_start S hr.hd e0 hl r x1
  refine wpAny_mono (ht.nox.run [] s1 (start N vs) H _ I hq) ?_ (fun e s' hs => hs)
  intro fl s' hs
  cases fl with
  | ret u => obtain ⟨v, σ', H', J, rv, q⟩ := hs; exact ⟨v, H', J.os, J.bare, J.base, J.hok, rv, q⟩
  | next => obtain ⟨σ', H', J, q⟩ := hs; exact ⟨V.non, H', J.os, J.bare, J.base, J.hok, rfl, q⟩
  | brk => obtain ⟨_, _, _, q⟩ := hs; exact q.elim
  | cont => obtain ⟨_, _, _, q⟩ := hs; exact q.elim
end

/-! ### calls -/
section
variable {X : Cx} {k n : Nat} {f : Addr} {fd : FuncData} {ps ks : List Str} {sp : Sp} {x : Str} {p pos : Pos} {e : Expr} {es : List Expr} {kws : List Keyword} {t tk : TA} {g : List Value → List Value → List Value} {gV : List V → List V → List V}
theorem after_call {pins : List (Addr × Obj)} {σ : L2.St} {H : Hp} {s : Shared} {Q : VK} {a : Args} (I : Inv X pins σ H s) (h : codeAny (model X.prog X.w) X.A (.call (.ref f) a) (CR CX0 X.stack X.prog X.w H s Q E0) s) :
    codeAny (model X.prog X.w) X.A (.call (.ref f) a) (fun r s' => match r with | .ok (.ret u) => EP X pins σ Q u s' | .ok _ => False | .error e => X.xe e s') s := by
  refine codeAny_mono h ?_
  intro r s' hq
  match r, hq with
  | .ok (.ret u), hq => exact I.after hq
  | .ok .next, hq => exact False.elim hq
  | .ok .brk, hq => exact False.elim hq
  | .ok .cont, hq => exact False.elim hq
  | .error e, hq => exact False.elim hq
theorem runG {pins : List (Addr × Obj)} {σ : L2.St} {H : Hp} {s : Shared} {Q : VK} {us : List Value} {vs : List V} (F : FnG X.prog X.w X.K X.mg X.base k f fd ps sp) (hG : X.A.guards = some []) (hr : Room k X.A) (hb : Binds X.K fd ps [])
    (I : Inv X pins σ H s) (r : Vals vs us) (h : sp vs H Q E0) : wpAny (model X.prog X.w) X.A (call (.ref f) us) (EP X pins σ Q) X.xe s := by
  have hl : (us ++ []).length = ps.length := by rw [List.append_nil, ← r.length]; exact F.len _ _ _ _ h
  have b := hb s us I.kIn hl
  rw [List.append_nil] at b
  refine wpAny_call (codeAny_mono (after_call (pins := pins) (σ := σ) I (F.go X.A X.stack s H ⟨us, []⟩ us vs Q hG hr I.env0 b r h)) fun r s' hq => ?_)
  match r, hq with
  | .ok (.ret u), hq => exact hq
  | .ok .next, hq => exact False.elim hq
  | .ok .brk, hq => exact False.elim hq
  | .ok .cont, hq => exact False.elim hq
  | .error e, hq => exact hq
def tGo (sp : Sp) (t : TA) : TE := fun σ H Q => t σ H fun vs H1 => sp vs H1 Q E0
/-- f(e, ..) -/
theorem pe_go (F : FnG X.prog X.w X.K X.mg X.base k f fd ps sp) (hG : X.A.guards = some []) (hr : Room k X.A) (hg : Gl X x) (hm : X.mg x = some (.ref f)) (hk : PySem.W.keepIn X.K (.ref f) = true) (hb : Binds X.K fd ps [])
    (ha : PA X (e :: es) t) (hdb : (x == ("__debug__" : Str)) = false := by decide) (he : starEach (e :: es) X.env = (false, eval e X.env) :: starEach es X.env := by rfl)
    (hpl : (backTo pos (starEach es X.env)).any (·.1) = false := by rfl) : PE X (.Call (.Name x p) (e :: es) [] pos) (tGo sp t) := by
  constructor
  intro pins s σ H Q I h
  refine wpAny_Call_Name_kw (ld_glob I hg hm ?_ hdb)
  refine PySem.W.callWith_K (h₀ := X.base) I.ok.mod.kin hk (thn (ha.run pos pins s σ H _ I h) ?_) he hpl
  rintro us s1 ⟨vs, H1, I1, r, q⟩
  exact ⟨I1.kIn, runG F hG hr hb I1 r q⟩
/-- f() -/
theorem pe_go0 (F : FnG X.prog X.w X.K X.mg X.base k f fd ps sp) (hG : X.A.guards = some []) (hr : Room k X.A) (hg : Gl X x) (hm : X.mg x = some (.ref f)) (hk : PySem.W.keepIn X.K (.ref f) = true) (hb : Binds X.K fd ps [])
    (hdb : (x == ("__debug__" : Str)) = false := by decide) : PE X (.Call (.Name x p) [] [] pos) (tGo sp tNil) := by
  constructor
  intro pins s σ H Q I h
  refine wpAny_Call_Name_kw (ld_glob I hg hm ?_ hdb)
  exact PySem.W.callWith_K0 I.kIn hk (runG (us := []) F hG hr hb I .nil h)
theorem runGK {pins : List (Addr × Obj)} {σ : L2.St} {H : Hp} {s : Shared} {Q : VK} {us ws : List Value} {vs zs : List V} (F : FnG X.prog X.w X.K X.mg X.base k f fd ps sp) (hG : X.A.guards = some []) (hr : Room k X.A) (hb : KBn X.K fd ps n ks g gV)
    (I : Inv X pins σ H s) (r : Vals vs us) (rz : Vals zs ws) (l1 : vs.length = n) (l2 : zs.length = ks.length) (h : sp (gV vs zs) H Q E0) : wpAny (model X.prog X.w) X.A (call (.ref f) us (ks.zip ws)) (EP X pins σ Q) X.xe s := by
  have b := hb.to s us ws I.kIn (r.length.symm.trans l1) (rz.length.symm.trans l2)
  refine wpAny_call (codeAny_mono (after_call (pins := pins) (σ := σ) I (F.go X.A X.stack s H ⟨us, ks.zip ws⟩ (g us ws) (gV vs zs) Q hG hr I.env0 b (hb.rel r rz) h)) fun r s' hq => ?_)
  match r, hq with
  | .ok (.ret u), hq => exact hq
  | .ok .next, hq => exact False.elim hq
  | .ok .brk, hq => exact False.elim hq
  | .ok .cont, hq => exact False.elim hq
  | .error e, hq => exact hq
def tGoK (n m : Nat) (sp : Sp) (gV : List V → List V → List V) (t tk : TA) : TE := fun σ H Q => t σ H fun vs H1 => tk σ H1 fun zs H2 => vs.length = n ∧ zs.length = m ∧ sp (gV vs zs) H2 Q E0
/-- f(e, .., k = v, ..) -/
theorem pe_goK (F : FnG X.prog X.w X.K X.mg X.base k f fd ps sp) (hG : X.A.guards = some []) (hr : Room k X.A) (hg : Gl X x) (hm : X.mg x = some (.ref f)) (hk : PySem.W.keepIn X.K (.ref f) = true) (hb : KBn X.K fd ps n ks g gV)
    (ha : PA X (e :: es) t) (hkw : PK X kws tk) (hall : (backToKw pos (keywordEach kws X.env)).all (·.1.isSome) = true := by rfl) (hks : (backToKw pos (keywordEach kws X.env)).filterMap (·.1) = ks := by rfl)
    (hdb : (x == ("__debug__" : Str)) = false := by decide) (he : starEach (e :: es) X.env = (false, eval e X.env) :: starEach es X.env := by rfl)
    (hpl : ((backTo pos (starEach (e :: es) X.env)).any (·.1) || (backToKw pos (keywordEach kws X.env)).any (·.1.isNone)) = false := by rfl) : PE X (.Call (.Name x p) (e :: es) kws pos) (tGoK n ks.length sp gV t tk) := by
  constructor
  intro pins s σ H Q I h
  refine wpAny_Call_Name_kw (ld_glob I hg hm ?_ hdb)
  refine PySem.W.callWith_KW (h₀ := X.base) I.ok.mod.kin hk hall (thn (ha.run pos pins s σ H _ I h) ?_) hpl he
  rintro us s1 ⟨vs, H1, I1, r, q⟩
  refine thn (hkw.run pos pins s1 σ H1 _ I1 q) ?_
  rintro ws s2 ⟨zs, H2, I2, rz, l1, l2, q2⟩
  refine ⟨I2.kIn, ?_⟩
  rw [hks]
  exact runGK F hG hr hb I2 r rz l1 l2 q2
/-- f(k = v, ..) -/
theorem pe_goK0 (F : FnG X.prog X.w X.K X.mg X.base k f fd ps sp) (hG : X.A.guards = some []) (hr : Room k X.A) (hg : Gl X x) (hm : X.mg x = some (.ref f)) (hk : PySem.W.keepIn X.K (.ref f) = true) (hb : KBn X.K fd ps 0 ks g gV)
    (hkw : PK X kws tk) (hall : (backToKw pos (keywordEach kws X.env)).all (·.1.isSome) = true := by rfl) (hks : (backToKw pos (keywordEach kws X.env)).filterMap (·.1) = ks := by rfl)
    (hdb : (x == ("__debug__" : Str)) = false := by decide)
    (hpl : ((backTo pos (starEach [] X.env)).any (·.1) || (backToKw pos (keywordEach kws X.env)).any (·.1.isNone)) = false := by rfl) : PE X (.Call (.Name x p) [] kws pos) (tGoK 0 ks.length sp gV tNil tk) := by
  constructor
  intro pins s σ H Q I h
  refine wpAny_Call_Name_kw (ld_glob I hg hm ?_ hdb)
  refine PySem.W.callWith_KW0 (h₀ := X.base) I.ok.mod.kin hk hall ?_ hpl
  refine thn (hkw.run pos pins s σ H _ I h) ?_
  rintro ws s2 ⟨zs, H2, I2, rz, l1, l2, q2⟩
  refine ⟨I2.kIn, ?_⟩
  rw [hks]
  exact runGK (us := []) (vs := []) F hG hr hb I2 .nil rz rfl l2 q2
/-- how keywords bind where a def has no defaults -/
theorem kbn_of {K : PySem.W.Frag} {x qual : Str} {st : Stmt} (F : Fun K x qual st f fd) (g : {α : Type} → List α → List α → List α)
    (hrel : ∀ {vs zs : List V} {us ws : List Value}, Vals vs us → Vals zs ws → Vals (g vs zs) (g us ws))
    (h : ∀ (kV doc pm : Value) (an : Option Addr) (cdv ct : Value) (us ws : List Value), us.length = n → ws.length = ks.length →
      bindArgs (PySem.W.fnOf x qual (defArgs st) (defBody st) (defScope st) .none kV doc pm an cdv ct) ⟨us, ks.zip ws⟩ = pure (ps.zip (g us ws))) : KBn K fd ps n ks g g := by
  obtain ⟨oc, od, kV, doc, pm, an, cdv, ct, osl, rfl, lk, hcd⟩ := F.ex
  exact ⟨fun s us ws _ l1 l2 => .of_eq (h kV doc pm an cdv ct us ws l1 l2), fun r1 r2 => hrel r1 r2⟩
end

/-! ### repr of data, text * int -/
section
variable {X : Cx}
theorem call_reprD (hG : X.A.guards = some []) (hu : X.A.units + 64 < cLine) : CallR X (.builtin "repr") (fun xs H Q => ∃ (a : Addr) (d : PyData), xs = [.ref a] ∧ Dp X.K H (.ref a) d ∧ d.showable = true ∧ d.hasDict = false ∧ d.depth ≤ 60 ∧ d.shown.length ≤ sizeLine ∧ Q (.str d.shown) H) := by
  intro pins s σ H xs us Q I r h
  obtain ⟨a, d, rfl, hd, h1, h2, h3, h4, q⟩ := h
  obtain ⟨u, rfl, rx⟩ := vals1 r
  obtain ⟨as, rd⟩ := Dp.reads I d (.ref a) u hd rx
  cases rx
  exact repr_of_reads' rd h1 (PyData.noDict_hsm h2) hG (by omega) (fun _ _ e => e) (fun h' u tk hk => ⟨.str d.shown, H, I.kept hk, ⟨u, rfl⟩, q⟩) h4
/-- a text n times -/
def timesS (x : Str) (n : Nat) : Str := ⟨(List.replicate n x.cps.toList).flatten.toArray⟩
theorem foldl_times (c : Array Nat) : ∀ (n : Nat) (acc : Array Nat), (List.replicate n c).foldl (· ++ ·) acc = acc ++ ((List.replicate n c.toList).flatten).toArray
  | 0, acc => by simp
  | n + 1, acc => by
    rw [List.replicate_succ, List.replicate_succ, List.foldl_cons, foldl_times c n, List.flatten_cons]
    apply Array.toList_inj.mp
    simp [Array.toList_append, List.append_assoc]
theorem op_mulS : OpR X (binaryOp .Mult) (fun x y H Q => ∃ (z : Str) (n : Int), x = .str z ∧ y = .int n ∧ 1 ≤ n ∧ n ≤ 100000 ∧ z.length * n.toNat ≤ 1000000 ∧ Q (.str (timesS z n.toNat)) H) := by
  intro pins s σ H x y v u Q I rx ry h
  obtain ⟨z, n, rfl, rfl, h1, h2, h3, q⟩ := h
  obtain ⟨t, rfl⟩ := rx
  obtain ⟨t', rfl⟩ := ry
  have hz : z.length ≤ 1000000 := Nat.le_trans (Nat.le_mul_of_pos_right z.length (by omega)) h3
  have e0 : timesS z n.toNat = ⟨(List.replicate n.toNat z.cps).foldl (· ++ ·) #[]⟩ := by
    rw [foldl_times]; simp [timesS]
  have hlen : (timesS z n.toNat).length = z.length * n.toNat := by
    show ((List.replicate n.toNat z.cps.toList).flatten.toArray).size = _
    rw [List.size_toArray, List.length_flatten]
    simp [Str.length, Nat.mul_comm]
  refine PySem.P.mul_str ?_ ?_ ?_ ?_
  · simp; omega
  · intro _ _ h4
    have h5 : (9223372036854775807 : Int) / n ≥ 9223372036854775807 / 100000 := Int.le_ediv_of_mul_le (by omega) (by omega)
    have h6 : ((2 : Int) ^ 63 - 1) = 9223372036854775807 := by decide
    rw [h6] at h4
    omega
  · intro _ _
    have : z.length * n.toNat ≤ sizeLine := Nat.le_trans h3 (by decide)
    simp [Builtin.Str.tooLong] <;> omega
  · rw [if_neg (by omega)]
    by_cases c : (n == 1 || z.length == 0) = true
    · rw [if_pos c]
      refine ⟨.str z, H, I, ⟨t, rfl⟩, ?_⟩
      have ez : timesS z n.toNat = z := by
        apply TL.ext_tl
        show (List.replicate n.toNat z.cps.toList).flatten = z.cps.toList
        rcases Bool.or_eq_true _ _ |>.mp c with c | c
        · have : n = 1 := by simpa using c
          subst this; simp
        · have hl : z.cps.toList = [] := by
            have : z.cps.size = 0 := by simpa [Str.length] using c
            exact List.length_eq_zero_iff.mp (by simpa using this)
          rw [hl]; simp
      rw [ez] at q; exact q
    · rw [if_neg c, ← e0]
      exact ⟨by rw [hlen]; exact Nat.le_trans h3 (by decide), .str _, H, I.tok _, ⟨_, rfl⟩, q⟩
end
end Gx

/-! ### the end of a law over FnG -/
namespace Gx
open PySem PySem.Spec PyProof.Rows L2
/-- the heap in which the script alone is tracked (where it is not an object of the module's own) -/
def scriptH (K : PySem.W.Frag) (a : Addr) (vs : List Value) (ns : List Int) : Hp := fun b =>
  if b = a ∧ K.lookup a = none then some (.frz { cls := .type "list", data := .seq vs.toArray } (.lst (ns.map V.int))) else none
section
variable {P : Program} {w : World} {K : PySem.W.Frag} {mg mb : Str → Option Value} {k : Nat} {fa a : Addr} {fd : FuncData} {x : Str} {sp : Sp} {s₁ : Shared} {vs : List Value} {ns : List Int}
theorem scriptH_at {b : Addr} {o : HO} (h : scriptH K a vs ns b = some o) : b = a ∧ K.lookup a = none ∧ o = .frz { cls := .type "list", data := .seq vs.toArray } (.lst (ns.map V.int)) := by
  by_cases c : b = a ∧ K.lookup a = none
  · have e := (if_pos c).symm.trans h
    exact ⟨c.1, c.2, (Option.some.inj e).symm⟩
  · have e := (if_neg c).symm.trans h
    cases e
theorem scriptH_only : Only (scriptH K a vs ns) := fun b => by
  cases h : scriptH K a vs ns b with
  | none => exact .inl rfl
  | some o => exact .inr ⟨_, _, by rw [(scriptH_at h).2.2]⟩
theorem lawG (KX : K.In s₁.heap) (hns : s₁.heap.Ns mainGlobals mg) (hb : s₁.heap.Ns builtinsNs mb) (hbb : ∀ x : Str, x ≠ "__name__" → mb x = bootBuiltins x) (hlim : s₁.heap.NoLimit) (hg : s₁.gens = #[])
    (ha : s₁.heap.get? a = some { cls := .type "list", data := .seq vs.toArray }) (hi : IntsAre vs ns) (hl : ns.length ≤ sizeLine) (hr : Room k callerA)
    (F : ∀ base : Heap, K.In base → base.Ns mainGlobals mg → FnG P w K mg base k fa fd [x] sp) (hbind : ∀ (s : Shared) (u : Value), BindsTo s fd ⟨[u], []⟩ [(x, u)])
    (hsp : ∀ H : Hp, Only H → SqL K H a (ns.map V.int) → sp [.ref a] H (fun v _ => v = .bl true) E0) :
    codeAny (model P w) callerA (.call (.ref fa) ⟨[.ref a], []⟩) (fun r s' => r = .ok (.ret (.bool true)) ∧ OldK s₁.heap s'.heap ∧ s'.os = s₁.os ∧ AllBare s'.gens) s₁ := by
  have rv := vals_ints hi
  have hlz : (ns.map V.int).length ≤ sizeLine := by rw [List.length_map]; exact hl
  have hok : HOk P w (scriptH K a vs ns) s₁.heap := fun b o e => by
    obtain ⟨rfl, _, rfl⟩ := scriptH_at e
    exact ⟨ha, hlz, vs, _, rv, ha⟩
  -- what stands below: the heap without the script
  have down : ∀ {b : Addr} {o : Obj}, s₁.heap.get? b = some o → scriptH K a vs ns b = none → (hidT s₁.heap (scriptH K a vs ns)).get? b = some o := fun e n => hidT_get e n
  have dicts : ∀ {b : Addr} {m : Str → Option Value}, s₁.heap.Ns b m → (hidT s₁.heap (scriptH K a vs ns)).Ns b m := by
    rintro b m ⟨o, es, ep, e, d, r⟩
    refine ⟨o, es, ep, down e ?_, d, r⟩
    cases q : scriptH K a vs ns b with
    | none => rfl
    | some u =>
      obtain ⟨rfl, _, _⟩ := scriptH_at q
      rw [ha] at e
      cases e
      exact nomatch (show Data.seq vs.toArray _ = Data.dict es ep from d)
  have kin : K.In (hidT s₁.heap (scriptH K a vs ns)) := fun b o e => down (KX b o e) (by
    cases q : scriptH K a vs ns b with
    | none => rfl
    | some u =>
      obtain ⟨rfl, n, _⟩ := scriptH_at q
      rw [n] at e
      cases e)
  have hM : Mod K mg (hidT s₁.heap (scriptH K a vs ns)) := by
    obtain ⟨mc, h1, h2⟩ := hlim
    exact ⟨kin, dicts hns, ⟨mb, dicts hb, hbb⟩, ⟨mc, dicts h1, h2⟩⟩
  have nil_ : ∀ b : Addr, b ∉ frs ([] : List Env) := fun b hb => by cases hb
  have e0 : Env0 P w K mg (hidT s₁.heap (scriptH K a vs ns)) callerA [] s₁ (scriptH K a vs ns) :=
    ⟨rfl, hM, fun b o e => of_hidT e, Nat.le_of_eq (hidT_size _ _), trivial, fun b hb => absurd hb (nil_ b), hok, .of_eq hg⟩
  have hS : SqL K (scriptH K a vs ns) a (ns.map V.int) := by
    cases hk : K.lookup a with
    | none => exact .inl (.inr ⟨_, if_pos ⟨rfl, hk⟩⟩)
    | some o =>
      have e := KX a o hk
      rw [ha] at e
      cases e
      exact .inr ⟨_, vs.toArray, _, hk, rfl, rfl, rfl, by rw [List.size_toArray, ← rv.length]; exact hlz, by simpa using rv⟩
  have run := (F _ kin (dicts hns)).go callerA [] s₁ (scriptH K a vs ns) ⟨[.ref a], []⟩ [.ref a] [.ref a] _ rfl hr e0 (hbind s₁ (.ref a)) (.cons rfl .nil) (hsp _ scriptH_only hS)
  refine codeAny_mono run ?_
  intro r s' h
  match r, h with
  | .ok .next, h => exact False.elim h
  | .ok .brk, h => exact False.elim h
  | .ok .cont, h => exact False.elim h
  | .error e, h => exact False.elim h
  | .ok (.ret u), h =>
    obtain ⟨v, H', os, bare, un, hok', r', q⟩ := h
    obtain rfl : v = .bl true := q
    obtain rfl : u = Value.bool true := r'
    refine ⟨rfl, OldK.of_keep fun b o e => ?_, os, bare⟩
    cases q : scriptH K a vs ns b with
    | none => exact un.keep b o e q (nil_ b) (by simp)
    | some u =>
      obtain ⟨rfl, _, rfl⟩ := scriptH_at q
      have z := un.frzs b _ _ q
      have z1 := (hok b _ q).1
      have z2 := (hok' b _ z).1
      rw [e] at z1
      cases z1
      exact z2
end
theorem walk_ofG {l : PySem.W.OpenLaw} {n k : Nat} {q : Program} {loose : List Str} {XP : (Str → Option Value) → Heap → Prop} {YP : World → Heap → Prop} {d : DefRec} {K : Params → PySem.W.Frag} {sp : World → Sp} {x : Str}
    (hn : l.most = some n) (hn2 : n ≤ sizeLine) (hdf : d.params.defaults = []) (hr : Room k callerA) (hY : ∀ (w : World) (h : Heap), YP w h → (K w.params).In h)
    (F : ∀ (w : World) (mg : Str → Option Value) (fa : Addr) (h : Heap), (K w.params).In h → h.Ns mainGlobals mg → mg d.name = some (.ref fa) →
      ∃ fd : FuncData, (∀ (s : Shared) (u : Value), BindsTo s fd ⟨[u], []⟩ [(x, u)]) ∧ ∀ base : Heap, (K w.params).In base → base.Ns mainGlobals mg → FnG l.prog w (K w.params) mg base k fa fd [x] (sp w))
    (hsp : ∀ (w : World) (H : Hp) (a : Addr) (ns : List Int), ns.length ≤ n → (∀ z ∈ ns, Builtin.Int.intBits z ≤ 1048576) → Only H → SqL (K w.params) H a (ns.map V.int) → sp w [.ref a] H (fun v _ => v = .bl true) E0) :
    PySem.W.WalkO q loose XP YP l.row.toRowW d [] (fun f vs => PySem.call f vs) := by
  refine Att.attach_callB hn hdf ?_
  intro w s₀ s₁ mg mb fa o pm cd doc a vs ns G Y ho hd hcd hmg hobj hints hlen hbits hg
  obtain ⟨fd, hb, hF⟩ := F w mg fa _ (hY w _ Y) G.T.g hmg
  exact lawG (hY w _ Y) G.T.g G.T.b G.T.builtins G.T.nolimit hg hobj hints (Nat.le_trans hlen hn2) hr hF hb (fun H hO hS => hsp w H a ns hlen hbits hO hS)
end Gx

/-! ### keywords by their places -/
namespace Gx
open PySem PySem.Spec PyProof.Rows L2
def pick {α : Type} (is : List Nat) (l : List α) : List α := is.filterMap fun i => l[i]?
theorem vals_pick {zs : List V} {ws : List Value} (r : Vals zs ws) : ∀ is : List Nat, Vals (pick is zs) (pick is ws)
  | [] => .nil
  | i :: is => by
    have ih := vals_pick r is
    cases h : zs[i]? with
    | none =>
      have h2 := r.none_of h
      simp only [pick, List.filterMap_cons, h, h2]
      exact ih
    | some v =>
      obtain ⟨u, h2, r2⟩ := r.get h
      simp only [pick, List.filterMap_cons, h, h2]
      exact .cons r2 ih
theorem kbn_pick {K : PySem.W.Frag} {x qual : Str} {st : Stmt} {n : Nat} {f : Addr} {fd : FuncData} {ps ks : List Str} (F : Fun K x qual st f fd) (is : List Nat)
    (h : ∀ (kV doc pm : Value) (an : Option Addr) (cdv ct : Value) (us ws : List Value), us.length = n → ws.length = ks.length →
      bindArgs (PySem.W.fnOf x qual (defArgs st) (defBody st) (defScope st) .none kV doc pm an cdv ct) ⟨us, ks.zip ws⟩ = pure (ps.zip (us ++ pick is ws))) : KBn K fd ps n ks (fun us ws => us ++ pick is ws) (fun vs zs => vs ++ pick is zs) := by
  obtain ⟨oc, od, kV, doc, pm, an, cdv, ct, osl, rfl, lk, hcd⟩ := F.ex
  exact ⟨fun s us ws _ l1 l2 => .of_eq (h kV doc pm an cdv ct us ws l1 l2), fun r1 r2 => r1.append (vals_pick r2 is)⟩
end Gx

/-! ### comprehensions whose elements are worth f, whatever they lay -/
namespace Gx
open PySem PySem.Spec PyProof.Rows L2
theorem same_new {H : Hp} {p : Addr} {o : HO} (h : H p = none) : Same H (upd H p o) := fun b x e => by
  rw [upd_ne (ne_of_none e h)]; exact e
/-- at a place that H does not know anything may happen -/
theorem same_at {H H' : Hp} {p : Addr} {o : HO} (e : Same H H') (h : H p = none) : Same H (upd H' p o) := fun b x hb => by
  rw [upd_ne (ne_of_none hb h)]; exact e b x hb
theorem lc_pure {J : It} {n : Nat} {G : Hp → Prop} {Y : Nat → Hp → V → Hp → Prop} (w : Walk J n G Y) (f : Nat → V) {j : Nat} {te : TE} {vs : List Nat} {σ : L2.St} {H1 : Hp} {D : Addr} {Qd : Hp → Prop} (hD : H1 D = none) (hn : n < sizeLine)
    (hG : ∀ H, Same H1 H → G H) (hY : ∀ i H x H', i < n → Same H1 H → Y i H x H' → Same H H')
    (hs : ∀ i x H H', i < n → Same H1 H → Y i H x H' → ∀ Qv : VK, (∀ H'', Same H' H'' → Qv (f i) H'') → te ((wipe σ vs).set j (some x)) H' Qv)
    (hd : ∀ H, Same H1 H → H D = some (.lst ((List.range n).map f)) → Qd H) (hw : ∀ x, wipe ((wipe σ vs).set j (some x)) vs = wipe σ vs := by intro x; rfl) :
    ∃ W : Nat → Nat → Hp → Prop, (∃ m, W 0 m (upd H1 D (.lst []))) ∧ ∀ i m H, W i m H →
      (J.stop i H ∧ Qd H) ∨ (J.go i H ∧ ∃ Nx : Hp → Prop, (∀ H', Nx H' → ∃ m', m' < m ∧ W (i + 1) m' H') ∧ ∀ x H', J.yld i H x H' → gName j x (wipe σ vs) H' fun σ2 H2 => wipe σ2 vs = wipe σ vs ∧ tYes σ2 H2 fun b H3 =>
        if b = true then te σ2 H3 fun y H4 => ∃ acc, H4 D = some (.lst acc) ∧ acc.length < sizeLine ∧ Nx (upd H4 D (.lst (acc ++ [y]))) else Nx H3) := by
  refine lc_it w (fun i H => Same H1 H ∧ H D = some (.lst ((List.range i).map f))) ⟨same_at (Same.refl _) hD, upd_same⟩ (fun i H _ h => hG H h.1) (fun i x H H' hi h y => ?_) (fun H h => hd H h.1 h.2)
  obtain ⟨sm, eD⟩ := h
  have s1 := hY i H x H' hi sm y
  refine ⟨hw x, ?_⟩
  unfold tYes
  dsimp only
  rw [if_pos rfl]
  refine hs i x H H' hi sm y _ fun H'' s2 => ⟨_, s2 _ _ (s1 _ _ eD), ?_, same_at ((sm.trans s1).trans s2) hD, ?_⟩
  · rw [List.length_map, List.length_range]; omega
  · rw [upd_same, List.range_succ, List.map_append]; rfl
end Gx

namespace Gx
open PySem PySem.Spec PyProof.Rows L2
/-- te evaluates, laying what it wants, to a value of which P holds -/
def Ev1 (te : TE) (σ : L2.St) (H : Hp) (P : V → Hp → Prop) : Prop := ∀ R : VK, (∀ v H1, Same H H1 → P v H1 → R v H1) → te σ H R
theorem range_map {α : Type} (f : α → V) (l : List α) (g : Nat → V) (h : ∀ i x, l[i]? = some x → g i = f x) : (List.range l.length).map g = l.map f := by
  apply List.ext_getElem?
  intro i
  rw [List.getElem?_map, List.getElem?_map]
  by_cases hi : i < l.length
  · rw [List.getElem?_range hi, List.getElem?_eq_getElem hi]
    simp [h i l[i] (List.getElem?_eq_getElem hi)]
  · rw [List.getElem?_eq_none (by simpa using hi), List.getElem?_eq_none (by simpa using hi)]; rfl
/-- [e for c in text] -/
theorem lc_text {te0 te : TE} {j : Nat} {vs : List Nat} {σ : L2.St} {H : Hp} {Q : VK} {x : Str} (f : Nat → V) (h0 : Ev1 te0 σ H fun v _ => v = .str x) (hx : x.length ≤ 1000000)
    (hs : ∀ c H', c ∈ x.cps.toList → Same H H' → ∀ Qv : VK, (∀ H'', Same H' H'' → Qv (f c) H'') → te ((wipe σ vs).set j (some (.str (SX.S [c])))) H' Qv)
    (hd : ∀ D H', H D = none → Same H H' → H' D = some (.lst (x.cps.toList.map f)) → Q (.ref D) H') (hw : ∀ x, wipe ((wipe σ vs).set j (some x)) vs = wipe σ vs := by intro x; rfl) :
    tLc (iStr te0) (gName j) tYes te vs σ H Q := by
  refine h0 _ fun v H1 s1 e => ?_
  subst e
  refine ⟨x, rfl, fun D hD => ?_⟩
  have hn : x.cps.size < sizeLine := Nat.lt_of_le_of_lt hx (by decide)
  refine lc_pure walk_str (fun i => f (x.cps.toList.getD i 0)) hD hn (fun _ _ => trivial) (fun i H x H' _ _ y => y.1 ▸ Same.refl _) (fun i v H2 H' hi s2 y Qv q => ?_) (fun H2 s2 e2 => ?_) hw
  · obtain ⟨rfl, c, hc, rfl⟩ := y
    have hc' : x.cps.toList[i]? = some c := by simpa using hc
    refine hs c _ (List.mem_of_getElem? hc') (s1.trans s2) Qv fun H'' s3 => ?_
    have e : x.cps.toList.getD i 0 = c := by rw [List.getD_eq_getElem?_getD, hc']; rfl
    have q2 := q H'' s3
    rw [e] at q2
    exact q2
  · refine hd D H2 (s1.free hD) (s1.trans s2) ?_
    rw [e2, ← range_map f x.cps.toList (fun i => f (x.cps.toList.getD i 0)) fun i c hc => by rw [List.getD_eq_getElem?_getD, hc]; rfl, Array.length_toList]
/-- [e for y in list] -/
theorem lc_lst {K : PySem.W.Frag} {te0 te : TE} {j : Nat} {vs : List Nat} {σ : L2.St} {H : Hp} {Q : VK} {xs : List V} (f : V → V) (h0 : Ev1 te0 σ H fun v H1 => ∃ a, v = .ref a ∧ SqL K H1 a xs) (hx : xs.length ≤ 1000000)
    (hs : ∀ y H', y ∈ xs → Same H H' → ∀ Qv : VK, (∀ H'', Same H' H'' → Qv (f y) H'') → te ((wipe σ vs).set j (some y)) H' Qv)
    (hd : ∀ D H', H D = none → Same H H' → H' D = some (.lst (xs.map f)) → Q (.ref D) H') (hw : ∀ x, wipe ((wipe σ vs).set j (some x)) vs = wipe σ vs := by intro x; rfl) :
    tLc (iList K te0) (gName j) tYes te vs σ H Q := by
  refine h0 _ fun v H1 s1 e => ?_
  obtain ⟨a, rfl, hS⟩ := e
  refine ⟨a, rfl, ⟨xs, hS⟩, fun D hD => ?_⟩
  have hn : xs.length < sizeLine := Nat.lt_of_le_of_lt hx (by decide)
  refine lc_pure walk_list (fun i => f (xs.getD i .non)) hD hn (fun H2 s2 => s2.seq hS) (fun i H x H' _ _ y => y.1 ▸ Same.refl _) (fun i v H2 H' hi s2 y Qv q => ?_) (fun H2 s2 e2 => ?_) hw
  · obtain ⟨rfl, hc⟩ := y
    refine hs v _ (List.mem_of_getElem? hc) (s1.trans s2) Qv fun H'' s3 => ?_
    have e : xs.getD i .non = v := by rw [List.getD_eq_getElem?_getD, hc]; rfl
    have q2 := q H'' s3
    rw [e] at q2
    exact q2
  · refine hd D H2 (s1.free hD) (s1.trans s2) ?_
    rw [e2, ← range_map f xs (fun i => f (xs.getD i .non)) fun i c hc => by rw [List.getD_eq_getElem?_getD, hc]; rfl]
end Gx

namespace Gx
open PySem L2
theorem take_min' {α : Type} (l : List α) (n : Nat) : l.take (min n l.length) = l.take n := by
  by_cases h : n ≤ l.length
  · rw [Nat.min_eq_left h]
  · rw [Nat.min_eq_right (by omega), List.take_length, List.take_of_length_le (by omega)]
theorem drop_min' {α : Type} (l : List α) (n : Nat) : l.drop (min n l.length) = l.drop n := by
  by_cases h : n ≤ l.length
  · rw [Nat.min_eq_left h]
  · rw [Nat.min_eq_right (by omega), List.drop_length, List.drop_of_length_le (by omega)]
theorem cutV_to (xs : List V) (n : Nat) : cutV xs none (some (n : Int)) = xs.take n := by
  unfold cutV
  rw [HT.sIx_none, HT.sIx_nat, Nat.sub_zero, List.drop_zero, take_min']
theorem cutV_mid (xs : List V) (m n : Nat) : cutV xs (some (m : Int)) (some (n : Int)) = (xs.take n).drop m := by
  unfold cutV
  rw [HT.sIx_nat, HT.sIx_nat, ← List.drop_take, take_min', ← drop_min' (xs.take n) m, List.length_take]
  by_cases h : m ≤ min n xs.length
  · congr 1; omega
  · rw [List.drop_of_length_le (by rw [List.length_take]; omega), List.drop_of_length_le (by rw [List.length_take]; omega)]
theorem cutS_to (x : Str) (n : Nat) : (cutS x none (some (n : Int))).cps.toList = x.cps.toList.take n := by
  unfold cutS
  rw [HT.sIx_none, HT.sIx_nat, Nat.sub_zero, List.drop_zero, show x.length = x.cps.toList.length from (Array.length_toList).symm]
  show (x.cps.toList.take (min n x.cps.toList.length)) = _
  rw [take_min']
theorem cutS_from (x : Str) (n : Nat) : (cutS x (some (n : Int)) none).cps.toList = x.cps.toList.drop n := by
  unfold cutS
  rw [HT.sIx_none, HT.sIx_nat, show x.length = x.cps.toList.length from (Array.length_toList).symm]
  show ((x.cps.toList.drop (min n x.cps.toList.length)).take _) = _
  rw [drop_min', List.take_of_length_le (by rw [List.length_drop]; omega)]
end Gx

namespace Gx
open PySem PySem.Spec PyProof.Rows L2
/-- the law's own argument binds, whatever the heap -/
theorem binds_law {K : PySem.W.Frag} {x qual p : Str} {st : Stmt} {f : Addr} {fd : FuncData} (F : Fun K x qual st f fd)
    (h : ∀ (kV doc pm : Value) (an : Option Addr) (cdv ct : Value) (us : List Value), us.length = [p].length → bindArgs (PySem.W.fnOf x qual (defArgs st) (defBody st) (defScope st) .none kV doc pm an cdv ct) ⟨us, []⟩ = pure ([p].zip us))
    (s : Shared) (v : Value) : BindsTo s fd ⟨[v], []⟩ [(p, v)] := by
  obtain ⟨oc, od, kV, doc, pm, an, cdv, ct, osl, rfl, lk, hcd⟩ := F.ex
  exact .of_eq (h kV doc pm an cdv ct [v] rfl)
end Gx

/-! Lx: rows of a text as lists of signs: plain mathematics. -/
namespace Lx
open PySem
/-- the rows between line feeds -/
def lines : List Nat → List (List Nat)
  | [] => [[]]
  | c :: r => if c = 10 then [] :: lines r else ((c :: (lines r).headD []) :: (lines r).tail)
theorem lines_ne : ∀ l, lines l ≠ []
  | [] => by simp [lines]
  | c :: r => by unfold lines; split <;> simp
theorem lines_split (l : List Nat) : lines l = (lines l).headD [] :: (lines l).tail := by
  cases h : lines l with
  | nil => exact absurd h (lines_ne l)
  | cons a t => rfl
theorem pre10 (c : Nat) (r : List Nat) : TL.pre [10] (c :: r) = decide (c = 10) := by
  unfold TL.pre
  by_cases h : c = 10
  · subst h; rfl
  · simp [h]
theorem spl_lines : ∀ (l acc : List Nat), TL.spl [10] 0 acc l = (acc ++ (lines l).headD []) :: (lines l).tail
  | [], acc => by rw [TL.spl_nil]; simp [lines]
  | c :: r, acc => by
    by_cases h : c = 10
    · rw [TL.spl_hit (by rw [pre10, h]; rfl)]
      show acc :: TL.spl [10] 0 [] r = _
      rw [spl_lines r [], List.nil_append, ← lines_split r]
      simp [lines, h]
    · rw [TL.spl_miss (by rw [pre10]; simp [h]), spl_lines r (acc ++ [c])]
      simp [lines, h]
theorem spl_lines0 (l : List Nat) : TL.spl [10] 0 [] l = lines l := by rw [spl_lines, List.nil_append, ← lines_split]
abbrev nl : Str := "\n"
theorem nl_S : nl = SX.S [10] := TL.ext_tl rfl
theorem split_lines (x : Str) : Txt.split x nl = (lines x.cps.toList).map SX.S := by
  have e := SX.split_S (a := x.cps.toList) (b := [10]) (by simp) (by decide)
  rw [SX.S_tl] at e
  rw [nl_S, e, spl_lines0]
theorem join_cons (p : List Nat) {rs : List (List Nat)} (h : rs ≠ []) : TL.joinL [10] (p :: rs) = p ++ 10 :: TL.joinL [10] rs := by
  cases rs with
  | nil => exact absurd rfl h
  | cons a t => rfl
theorem join_headcons (c : Nat) (p : List Nat) (rs : List (List Nat)) : TL.joinL [10] ((c :: p) :: rs) = c :: TL.joinL [10] (p :: rs) := by
  cases rs with
  | nil => rfl
  | cons a t => rfl
theorem join_lines : ∀ l, TL.joinL [10] (lines l) = l
  | [] => rfl
  | c :: r => by
    unfold lines
    split
    · rename_i h
      rw [join_cons _ (lines_ne r), join_lines r, h]; rfl
    · rw [join_headcons, ← lines_split, join_lines r]
theorem join_S (x : Str) (ys : List (List Nat)) : Txt.join nl (ys.map SX.S) = SX.S (TL.joinL [10] ys) := by rw [nl_S]; exact SX.join_S [10] ys
theorem join_split (x : Str) : Txt.join nl (Txt.split x nl) = x := by
  rw [split_lines, join_S x, join_lines, SX.S_tl]
theorem lines_join {rs : List (List Nat)} (h : rs ≠ []) (h10 : ∀ r ∈ rs, 10 ∉ r) : lines (TL.joinL [10] rs) = rs := by
  rw [← spl_lines0, TL.spl_join h h10]
/-- all signs of the rows, and a line feed each -/
theorem lines_sum : ∀ l, ((lines l).map fun r => r.length + 1).sum = l.length + 1
  | [] => rfl
  | c :: r => by
    have ih := lines_sum r
    rw [lines_split r] at ih
    unfold lines
    split
    · rw [List.map_cons, List.sum_cons, lines_split r, ih]; simp; omega
    · rw [List.map_cons, List.sum_cons] at ih ⊢
      simp at ih ⊢; omega
theorem lines_len_pos (l : List Nat) : 0 < (lines l).length := List.length_pos_iff.mpr (lines_ne l)
/-- the rows of a beginning: all but its last one are rows of the whole -/
theorem lines_app : ∀ (p q : List Nat), (lines (p ++ q)).take ((lines p).length - 1) = (lines p).dropLast
  | [], q => by simp [lines]
  | c :: p, q => by
    have ih := lines_app p q
    have hp := lines_len_pos p
    rw [List.cons_append]
    by_cases h : c = 10
    · simp only [lines, if_pos h, List.length_cons]
      rw [lines_split p] at hp ⊢
      rw [List.dropLast_cons_of_ne_nil (by simp), ← lines_split p, ← ih]
      rw [lines_split p]
      simp only [List.length_cons, Nat.add_sub_cancel, List.take_succ_cons]
    · simp only [lines, if_neg h, List.length_cons, Nat.add_sub_cancel]
      cases ht : (lines p).tail with
      | nil => simp
      | cons a t =>
        have e1 : lines p = (lines p).headD [] :: a :: t := by rw [← ht]; exact lines_split p
        rw [e1] at ih
        have e2 := lines_split (p ++ q)
        rw [e2] at ih
        simp only [List.length_cons, Nat.add_sub_cancel, List.take_succ_cons, List.dropLast_cons₂] at ih
        injection ih with i1 i2
        simp only [List.length_cons, List.take_succ_cons, List.dropLast_cons₂]
        rw [i1, ← i2]
theorem lines_last (l : List Nat) : lines l = (lines l).dropLast ++ [(lines l).getLastD []] := by
  have e5 := List.dropLast_concat_getLast (lines_ne l)
  have e6 : (lines l).getLastD [] = (lines l).getLast (lines_ne _) := by
    rw [List.getLastD_eq_getLast?, List.getLast?_eq_getLast (lines_ne _)]; rfl
  rw [e6]; exact e5.symm
theorem lines_many (l : List Nat) : (lines l).length ≤ l.length + 1 := by
  rw [← lines_sum]
  have : ∀ ys : List (List Nat), ys.length ≤ (ys.map fun y => y.length + 1).sum := by
    intro ys
    induction ys with
    | nil => exact Nat.le_refl _
    | cons y ys ih => rw [List.map_cons, List.sum_cons, List.length_cons]; omega
  exact this _
theorem lines_small {l : List Nat} {r : List Nat} (h : r ∈ lines l) : r.length ≤ l.length := by
  have e1 := lines_sum l
  have e2 : ∀ ys : List (List Nat), r ∈ ys → r.length + 1 ≤ (ys.map fun y => y.length + 1).sum := by
    intro ys
    induction ys with
    | nil => intro h; cases h
    | cons y ys ih =>
      intro h
      rw [List.map_cons, List.sum_cons]
      rcases List.mem_cons.mp h with e | e
      · subst e; omega
      · have := ih e; omega
  have := e2 _ h
  omega
/-- the place of an end of text: row and column -/
def spotOf (l : List Nat) : Int × Int := ((((lines l).length - 1 : Nat) : Int), (((lines l).getLastD []).length : Int))
/-- one sign on -/
def spotStep (s : Int × Int) (c : Nat) : Int × Int := (s.1 + (if c = 10 then 1 else 0), (s.2 + 1) * (if c = 10 then 0 else 1))
theorem fold_spot : ∀ (l : List Nat) (r c : Int), l.foldl spotStep (r, c) = (r + (((lines l).length - 1 : Nat) : Int), if (lines l).length = 1 then c + ((lines l).headD []).length else ((lines l).getLastD []).length)
  | [], r, c => by simp [lines]
  | a :: l, r, c => by
    have hp := lines_len_pos l
    rw [List.foldl_cons]
    have e : spotStep (r, c) a = (r + (if a = 10 then 1 else 0), (c + 1) * (if a = 10 then 0 else 1)) := rfl
    rw [e, fold_spot l]
    by_cases h : a = 10
    · subst h
      have e2 : ([] :: lines l).getLastD [] = (lines l).getLastD [] := by
        cases hl : lines l with
        | nil => exact absurd hl (lines_ne l)
        | cons x t => simp
      simp only [lines, if_true, List.length_cons]
      rw [e2, if_neg (show ¬ (lines l).length + 1 = 1 by omega)]
      refine Prod.ext ?_ ?_
      · show r + 1 + (((lines l).length - 1 : Nat) : Int) = r + (((lines l).length + 1 - 1 : Nat) : Int)
        omega
      · show (if (lines l).length = 1 then (c + 1) * 0 + (((lines l).headD []).length : Int) else (((lines l).getLastD []).length : Int)) = (((lines l).getLastD []).length : Int)
        split
        · rename_i h1
          cases hl : lines l with
          | nil => exact absurd hl (lines_ne l)
          | cons x t =>
            rw [hl] at h1
            have : t = [] := List.length_eq_zero_iff.mp (by simpa using h1)
            subst this
            simp
        · rfl
    · simp only [lines, if_neg h, List.length_cons]
      have e3 := lines_split l
      cases ht : (lines l).tail with
      | nil =>
        have e4 : (lines l).length = 1 := by rw [e3, ht]; rfl
        simp [e4]
        omega
      | cons x t =>
        have e4 : (lines l).length = t.length + 2 := by rw [e3, ht]; rfl
        simp [e4]
        rw [e3, ht]; simp
theorem fold_spot0 (l : List Nat) : l.foldl spotStep (0, 0) = spotOf l := by
  rw [fold_spot]
  unfold spotOf
  refine Prod.ext (by simp) ?_
  show (if (lines l).length = 1 then _ else _) = _
  split
  · rename_i h
    cases hl : lines l with
    | nil => exact absurd hl (lines_ne l)
    | cons x t =>
      rw [hl] at h
      have : t = [] := List.length_eq_zero_iff.mp (by simpa using h)
      subst this; simp
  · rfl
/-- the place of a row and a column -/
def atOf (l : List Nat) (r c : Int) : Int := (((lines l).take r.toNat).map fun y => (y.length : Int) + 1).sum + c
theorem sum_cast (ys : List (List Nat)) : (ys.map fun y => (y.length : Int) + 1).sum = (((ys.map fun y => y.length + 1).sum : Nat) : Int) := by
  induction ys with
  | nil => rfl
  | cons y ys ih => rw [List.map_cons, List.map_cons, List.sum_cons, List.sum_cons, ih]; omega
theorem at_spot {l : List Nat} {n : Nat} (h : n ≤ l.length) : atOf l (spotOf (l.take n)).1 (spotOf (l.take n)).2 = n := by
  have e := lines_app (l.take n) (l.drop n)
  rw [List.take_append_drop] at e
  have hs := lines_sum (l.take n)
  have hl : (l.take n).length = n := by rw [List.length_take]; omega
  unfold atOf spotOf
  dsimp only
  rw [Int.toNat_natCast, e, sum_cast]
  have ed : lines (l.take n) = (lines (l.take n)).dropLast ++ [(lines (l.take n)).getLastD []] := by
    have e5 := List.dropLast_concat_getLast (lines_ne (l.take n))
    have e6 : (lines (l.take n)).getLastD [] = (lines (l.take n)).getLast (lines_ne _) := by
      rw [List.getLastD_eq_getLast?, List.getLast?_eq_getLast (lines_ne _)]; rfl
    rw [e6]; exact e5.symm
  rw [ed, List.map_append, List.sum_append, List.map_singleton, List.sum_singleton, hl] at hs
  omega
end Lx

set_option maxHeartbeats 4000000
/-! Bx: what the laws' own draws promise (a box of three ints that each draw changes), and lists of texts. -/
namespace Gx
open PySem PySem.Spec PyProof.Rows L2 Lx
def txts (ls : List (List Nat)) : List V := ls.map fun l => V.str (SX.S l)
theorem txts_eq (ls : List (List Nat)) : txts ls = (ls.map SX.S).map V.str := by unfold txts; rw [List.map_map]; rfl
theorem join_room {ls : List (List Nat)} (h : (ls.map fun l => l.length + 1).sum ≤ 1000000) : ((ls.map SX.S).map (·.length)).sum + (ls.map SX.S).length * nl.length ≤ 16777216 := by
  rw [SX.lens, List.length_map]
  have e : nl.length = 1 := rfl
  rw [e, Nat.mul_one]
  have : ∀ ys : List (List Nat), (ys.map fun l => l.length + 1).sum = (ys.map (·.length)).sum + ys.length := by
    intro ys
    induction ys with
    | nil => rfl
    | cons y ys ih => rw [List.map_cons, List.map_cons, List.sum_cons, List.sum_cons, ih, List.length_cons]; omega
  rw [this] at h
  omega
/-- the box of draws at b -/
def IsBox (H : Hp) (b : Addr) : Prop := ∃ i j k : Int, H b = some (.lst [.int i, .int j, .int k])
/-- all stays but what stands at b; b is a box -/
def Drawn (b : Addr) (H H' : Hp) : Prop := IsBox H' b ∧ ∀ a o, a ≠ b → H a = some o → H' a = some o
theorem Drawn.trans {b : Addr} {H H1 H2 : Hp} (x : Drawn b H H1) (y : Drawn b H1 H2) : Drawn b H H2 := ⟨y.1, fun a o n h => y.2 a o n (x.2 a o n h)⟩
theorem Drawn.of {b : Addr} {H H' : Hp} (x : IsBox H b) (s : Same H H') : Drawn b H H' := by
  obtain ⟨i, j, k, h⟩ := x
  exact ⟨⟨i, j, k, s _ _ h⟩, fun a o _ h => s _ _ h⟩
theorem Drawn.set {b : Addr} {H H1 : Hp} {i j k : Int} (x : ∀ a o, a ≠ b → H a = some o → H1 a = some o) : Drawn b H (upd H1 b (.lst [.int i, .int j, .int k])) :=
  ⟨⟨i, j, k, upd_same⟩, fun a o n h => by rw [upd_ne n]; exact x a o n h⟩
/-- a new object that is laid meanwhile stays new -/
theorem Drawn.free {b : Addr} {H H' : Hp} (x : Drawn b H H') (hb : IsBox H b) {p : Addr} (h : H' p = none) : H p = none := by
  cases q : H p with
  | none => rfl
  | some o =>
    by_cases e : p = b
    · subst e
      obtain ⟨i, j, k, z⟩ := x.1
      rw [z] at h; cases h
    · rw [x.2 p o e q] at h; cases h
/-- what was not there ahead may change -/
theorem Drawn.at {b : Addr} {H H' : Hp} (d : Drawn b H H') {p : Addr} (hp : H p = none) (hb : p ≠ b) (o : HO) : Drawn b H (upd H' p o) := by
  obtain ⟨i, j, k, z⟩ := d.1
  exact ⟨⟨i, j, k, by rw [upd_ne (Ne.symm hb)]; exact z⟩, fun a u n h => by rw [upd_ne (ne_of_none h hp)]; exact d.2 a u n h⟩
def sp_take : Sp := fun vs H Q _ => ∃ (b : Addr) (n : Int), vs = [.ref b, .int n] ∧ IsBox H b ∧ 0 < n ∧ n < 1073741824 ∧ ∀ v H', 0 ≤ v → v < n → Drawn b H H' → Q (.int v) H'
theorem txts_of (zs : List Str) : txts (zs.map fun z => z.cps.toList) = zs.map V.str := by
  unfold txts
  rw [List.map_map]
  exact List.map_congr_left fun z _ => congrArg V.str (SX.S_tl z)
def sp_one_of : Sp := fun vs H Q _ => ∃ (b : Addr) (v : V) (ls : List (List Nat)), vs = [.ref b, v] ∧ IsBox H b ∧ ls ≠ [] ∧ ls.length ≤ 1000 ∧
  ((∃ a, v = .ref a ∧ H a = some (.lst (txts ls))) ∨ ∃ x : Str, v = .str x ∧ ls = x.cps.toList.map fun c => [c]) ∧ ∀ l H', l ∈ ls → Drawn b H H' → Q (.str (SX.S l)) H'
/-- [e for k in range(n)], each e a text that the draws give -/
theorem lc_drawn {te : TE} {j : Nat} {vs : List Nat} {σ : L2.St} {H : Hp} {Q : VK} {ta : TA} {b : Addr} (N : Nat → Prop) (R : List Nat → Prop) (hb : IsBox H b) (hn : ∀ m, N m → m ≤ 1000)
    (h0 : ∀ R' : List V → Hp → Prop, (∀ H1 n', N n' → Drawn b H H1 → R' [.int ((n' : Nat) : Int)] H1) → ta σ H R')
    (hs : ∀ k H', IsBox H' b → ∀ Qv : VK, (∀ l H'', R l → Drawn b H' H'' → Qv (.str (SX.S l)) H'') → te ((wipe σ vs).set j (some (.int k))) H' Qv)
    (hd : ∀ D ls H', N ls.length → (∀ l ∈ ls, R l) → H' D = some (.lst (txts ls)) → Drawn b H H' → Q (.ref D) H') (hw : ∀ x, wipe ((wipe σ vs).set j (some x)) vs = wipe σ vs := by intro x; rfl) :
    tLc (iRng1 ta) (gName j) tYes te vs σ H Q := by
  refine h0 _ fun H1 n' hn' d1 => ?_
  have hn1 := hn n' hn'
  refine ⟨((n' : Nat) : Int), rfl, by omega, by omega, fun D hD => ?_⟩
  have hbD : b ≠ D := fun e => by
    subst e
    obtain ⟨i, j, k, z⟩ := d1.1
    rw [z] at hD; cases hD
  rw [Int.toNat_natCast]
  refine lc_it walk_range (fun i H2 => ∃ ls : List (List Nat), ls.length = i ∧ (∀ l ∈ ls, R l) ∧ H2 D = some (.lst (txts ls)) ∧ Drawn b H H2) ⟨[], rfl, (fun _ h => absurd h List.not_mem_nil), upd_same, ?_, fun a o n h => ?_⟩ (fun _ _ _ _ => trivial) (fun i v H2 H3 hi hP hy => ?_) (fun H2 hP => ?_)
  · obtain ⟨i, j, k, z⟩ := d1.1
    exact ⟨i, j, k, by rw [upd_ne hbD]; exact z⟩
  · have h1 := d1.2 a o n h
    rw [upd_ne (ne_of_none h1 hD)]; exact h1
  · obtain ⟨ls, e1, e2, e3, d2⟩ := hP
    obtain ⟨rfl, rfl⟩ := hy
    refine ⟨hw _, ?_⟩
    unfold tYes
    dsimp only
    rw [if_pos rfl]
    refine hs _ _ d2.1 _ fun l H4 hl d3 => ?_
    have e4 := d3.2 _ _ (Ne.symm hbD) e3
    refine ⟨_, e4, ?_, ls ++ [l], by rw [List.length_append, e1]; rfl, ?_, ?_, ?_⟩
    · unfold txts
      rw [List.length_map]
      have : (1000 : Nat) < sizeLine := by decide
      omega
    · intro z hz
      rcases List.mem_append.mp hz with hz | hz
      · exact e2 z hz
      · rw [List.mem_singleton.mp hz]; exact hl
    · rw [upd_same]; unfold txts; rw [List.map_append]; rfl
    · have d4 := d2.trans d3
      obtain ⟨i, j, k, z⟩ := d4.1
      refine ⟨⟨i, j, k, by rw [upd_ne hbD]; exact z⟩, fun a o n h => ?_⟩
      have hDn : H D = none := by
        cases q : H D with
        | none => rfl
        | some o => have := d1.2 D o (Ne.symm hbD) q; rw [hD] at this; cases this
      rw [upd_ne (ne_of_none h hDn)]
      exact d4.2 a o n h
  · obtain ⟨ls, e1, e2, e3, d2⟩ := hP
    exact hd D ls H2 (by rw [e1]; exact hn') e2 e3 d2
end Gx

set_option maxHeartbeats 4000000
/-! Tx: what evaluates to a short text, to a list of short texts, while the box at b may be drawn from. -/
namespace Gx
open PySem PySem.Spec PyProof.Rows L2 Lx
/-- a text that is not too long -/
def Sh (n : Nat) (v : V) : Prop := ∃ z : Str, v = .str z ∧ z.length ≤ n
theorem Sh.mk {n : Nat} {z : Str} (h : z.length ≤ n) : Sh n (.str z) := ⟨z, rfl, h⟩
theorem Sh.mono {m n : Nat} {v : V} (h : Sh m v) (hm : m ≤ n) : Sh n v := by
  obtain ⟨z, e, hz⟩ := h
  exact ⟨z, e, Nat.le_trans hz hm⟩
def ShL (n m : Nat) (H : Hp) (p : Addr) : Prop := ∃ xs, H p = some (.lst xs) ∧ xs.length ≤ n ∧ ∀ v ∈ xs, Sh m v
theorem cutS_short (z : Str) (lo hi : Option Int) {n : Nat} (h : z.length ≤ n) : (cutS z lo hi).length ≤ n := Nat.le_trans (cutS_length z lo hi) h
theorem timesS_len (z : Str) (n : Nat) : (timesS z n).length = z.length * n := by
  show ((List.replicate n z.cps.toList).flatten.toArray).size = _
  rw [List.size_toArray, List.length_flatten]
  simp [Str.length, Nat.mul_comm]
theorem app_len (x y : Str) : (x ++ y).length = x.length + y.length := by
  show (x ++ y).cps.size = _
  rw [Str.cps_append, Array.size_append]; rfl
/-- evaluates to a text of at most m signs -/
def ES (te : TE) (σ : L2.St) (b : Addr) (H : Hp) (m : Nat) : Prop := ∀ R : VK, (∀ v H', Drawn b H H' → Sh m v → R v H') → te σ H R
/-- evaluates to a list of at most n texts of at most m signs -/
def EL (te : TE) (σ : L2.St) (b : Addr) (H : Hp) (n m : Nat) : Prop := ∀ R : VK, (∀ p H', Drawn b H H' → p ≠ b → ShL n m H' p → R (.ref p) H') → te σ H R
def EA (ta : TA) (σ : L2.St) (b : Addr) (H : Hp) (n m : Nat) : Prop := ∀ R : List V → Hp → Prop, (∀ vs H', Drawn b H H' → vs.length = n → (∀ v ∈ vs, Sh m v) → R vs H') → ta σ H R
def EO (to : TO) (σ : L2.St) (b : Addr) (H : Hp) : Prop := ∀ R : Option Int → Hp → Prop, (∀ o H', Drawn b H H' → R o H') → to σ H R
section
variable {σ : L2.St} {b : Addr} {H : Hp} {m n m1 m2 n1 n2 : Nat} {ta tb te : TE} {t : TA}
theorem Drawn.refl (hb : IsBox H b) : Drawn b H H := ⟨hb, fun _ _ _ h => h⟩
theorem Drawn.new {H' : Hp} {p : Addr} {o : HO} (d : Drawn b H H') (hp : H' p = none) : Drawn b H (upd H' p o) := d.trans (Drawn.of d.1 (same_new hp))
theorem Drawn.nb {H' : Hp} {p : Addr} (d : Drawn b H H') (hp : H' p = none) : p ≠ b := fun e => by
  subst e
  obtain ⟨i, j, k, z⟩ := d.1
  rw [z] at hp; cases hp
theorem ES.mono (h : ES te σ b H m) (hm : m ≤ n) : ES te σ b H n := fun R r => h R fun v H' d s => r v H' d (s.mono hm)
theorem es_c {z : Str} (hb : IsBox H b) (h : z.length ≤ m) : ES (tC (.str z)) σ b H m := fun R r => r _ _ (Drawn.refl hb) (Sh.mk h)
theorem es_var {i : Nat} {v : V} (hb : IsBox H b) (hi : σ[i]? = some (some v)) (h : Sh m v) : ES (tVar i) σ b H m := fun R r => ⟨v, hi, r _ _ (Drawn.refl hb) h⟩
theorem es_add (hz : m1 + m2 ≤ 1000000) (ha : ES ta σ b H m1) (hc : ∀ H', Drawn b H H' → ES tb σ b H' m2) :
    ES (tOp (fun x y H Q => ∃ i j, x = .str i ∧ y = .str j ∧ i.length + j.length ≤ sizeLine ∧ Q (.str (i ++ j)) H) ta tb) σ b H (m1 + m2) := fun R r => ha _ fun v H1 d1 s1 => hc H1 d1 _ fun v2 H2 d2 s2 => by
  obtain ⟨x, rfl, hx⟩ := s1
  obtain ⟨y, rfl, hy⟩ := s2
  have : (1000000 : Nat) ≤ sizeLine := by decide
  exact ⟨x, y, rfl, rfl, by omega, r _ _ (d1.trans d2) (Sh.mk (by rw [app_len]; omega))⟩
theorem eo_none (hb : IsBox H b) : EO tNoPart σ b H := fun R r => r _ _ (Drawn.refl hb)
theorem eo_int {i : Int} (hb : IsBox H b) : EO (tPart (tC (.int i))) σ b H := fun R r => ⟨i, rfl, r _ _ (Drawn.refl hb)⟩
theorem eo_var {j : Nat} {i : Int} (hb : IsBox H b) (h : σ[j]? = some (some (.int i))) : EO (tPart (tVar j)) σ b H := fun R r => ⟨_, h, i, rfl, r _ _ (Drawn.refl hb)⟩
theorem es_slice {tl th : TO} (hz : m ≤ 1000000) (ha : ES te σ b H m) (hl : ∀ H', Drawn b H H' → EO tl σ b H') (hh : ∀ H', Drawn b H H' → EO th σ b H') : ES (tSl rSlS te tl th) σ b H m := fun R r =>
  ha _ fun v H1 d1 s1 => hl H1 d1 _ fun o H2 d2 => hh H2 (d1.trans d2) _ fun o2 H3 d3 => by
  obtain ⟨x, rfl, hx⟩ := s1
  have : (1000000 : Nat) ≤ sizeLine := by decide
  exact ⟨x, rfl, by omega, r _ _ ((d1.trans d2).trans d3) (Sh.mk (cutS_short x _ _ hx))⟩
theorem es_times {k : Int} (hk : 1 ≤ k ∧ k ≤ 100000) (hz : m * k.toNat ≤ 1000000) (ha : ES te σ b H m) :
    ES (tOp (fun x y H Q => ∃ (z : Str) (n : Int), x = .str z ∧ y = .int n ∧ 1 ≤ n ∧ n ≤ 100000 ∧ z.length * n.toNat ≤ 1000000 ∧ Q (.str (timesS z n.toNat)) H) te (tC (.int k))) σ b H (m * k.toNat) := fun R r =>
  ha _ fun v H1 d1 s1 => by
  obtain ⟨x, rfl, hx⟩ := s1
  have hm := Nat.mul_le_mul_right k.toNat hx
  exact ⟨x, k, rfl, rfl, hk.1, hk.2, by omega, r _ _ d1 (Sh.mk (by rw [timesS_len]; exact hm))⟩
theorem ea_nil (hb : IsBox H b) : EA tNil σ b H 0 m := fun R r => r _ _ (Drawn.refl hb) rfl fun _ h => absurd h List.not_mem_nil
theorem ea_cons (ha : ES te σ b H m) (ht : ∀ H', Drawn b H H' → EA t σ b H' n m) : EA (tCons te t) σ b H (n + 1) m := fun R r =>
  ha _ fun v H1 d1 s1 => ht H1 d1 _ fun vs H2 d2 hl hs => r _ _ (d1.trans d2) (by rw [List.length_cons, hl]) fun z hz => by
    rcases List.mem_cons.mp hz with e | e
    · rw [e]; exact s1
    · exact hs z e
theorem el_lst (hn : n ≤ 1000) (ht : EA t σ b H n m) : EL (tLst t) σ b H n m := fun R r => ht _ fun vs H1 d1 hl hs =>
  ⟨Nat.le_trans (by omega) (by decide : (1000 : Nat) ≤ sizeLine), fun p hp => r p _ (d1.new hp) (d1.nb hp) ⟨vs, upd_same, by omega, hs⟩⟩
theorem el_var {i : Nat} {p : Addr} (hb : IsBox H b) (hi : σ[i]? = some (some (.ref p))) (hp : p ≠ b) (h : ShL n m H p) : EL (tVar i) σ b H n m := fun R r => ⟨_, hi, r p _ (Drawn.refl hb) hp h⟩
theorem el_cat (hn : n1 + n2 ≤ 100000) (ha : EL ta σ b H n1 m) (hc : ∀ H', Drawn b H H' → EL tb σ b H' n2 m) : EL (tOp rCat ta tb) σ b H (n1 + n2) m := fun R r =>
  ha _ fun p1 H1 d1 n1' s1 => hc H1 d1 _ fun p2 H2 d2 n2' s2 => by
  obtain ⟨xs, e1, l1, h1⟩ := s1
  obtain ⟨ys, e2, l2, h2⟩ := s2
  have : (100000 : Nat) ≤ sizeLine := by decide
  refine ⟨p1, p2, xs, ys, rfl, rfl, d2.2 _ _ n1' e1, e2, by omega, fun p hp => r p _ ((d1.trans d2).new hp) ((d1.trans d2).nb hp) ⟨xs ++ ys, upd_same, by rw [List.length_append]; omega, fun v hv => ?_⟩⟩
  rcases List.mem_append.mp hv with hv | hv
  · exact h1 v hv
  · exact h2 v hv
/-- [e for y in list of short texts], e drawing nothing that the list hangs on -/
theorem el_comp {K : PySem.W.Frag} {te0 : TE} {j : Nat} {vs : List Nat} (hn : n ≤ 1000) (hb : IsBox H b) (h0 : EL te0 σ b H n m1)
    (hs : ∀ y H', Drawn b H H' → Sh m1 y → ES te ((wipe σ vs).set j (some y)) b H' m) (hw : ∀ x, wipe ((wipe σ vs).set j (some x)) vs = wipe σ vs := by intro x; rfl) :
    EL (tLc (iList K te0) (gName j) tYes te vs) σ b H n m := by
  intro R r
  refine h0 _ fun p H1 d1 np s1 => ?_
  obtain ⟨xs, e1, l1, h1⟩ := s1
  refine ⟨p, rfl, ⟨xs, SqL.of e1⟩, fun D hD => ?_⟩
  have hDb := d1.nb hD
  have hDp : p ≠ D := ne_of_none e1 hD
  refine lc_it walk_list (fun i H2 => Drawn b H H2 ∧ H2 p = some (.lst xs) ∧ ∃ ys, H2 D = some (.lst ys) ∧ ys.length = i ∧ ∀ v ∈ ys, Sh m v) ⟨d1.new hD, by rw [upd_ne hDp]; exact e1, [], upd_same, rfl, fun _ h => absurd h List.not_mem_nil⟩
    (fun i H2 _ h => SqL.of h.2.1) (fun i v H2 H3 hi hP hy => ?_) (fun H2 hP => ?_)
  · obtain ⟨d2, ep, ys, eD, ly, hys⟩ := hP
    obtain ⟨rfl, hv⟩ := hy
    refine ⟨hw _, ?_⟩
    unfold tYes
    dsimp only
    rw [if_pos rfl]
    refine hs v _ d2 (h1 v (List.mem_of_getElem? hv)) _ fun z H4 d3 hz => ?_
    refine ⟨ys, d3.2 _ _ hDb eD, Nat.lt_of_lt_of_le (show ys.length < 1001 by omega) (by decide), ?_, ?_, ys ++ [z], upd_same, by rw [List.length_append, ly]; rfl, fun u hu => ?_⟩
    · have d4 := d2.trans d3
      obtain ⟨i, j, k, e⟩ := d4.1
      refine ⟨⟨i, j, k, by rw [upd_ne (Ne.symm hDb)]; exact e⟩, fun a o na h => ?_⟩
      have : a ≠ D := fun e => by
        subst e
        have := d1.2 _ _ na h
        rw [this] at hD; cases hD
      rw [upd_ne this]; exact d4.2 a o na h
    · rw [upd_ne hDp]; exact d3.2 _ _ np ep
    · rcases List.mem_append.mp hu with hu | hu
      · exact hys u hu
      · rw [List.mem_singleton.mp hu]; exact hz
  · obtain ⟨d2, ep, ys, eD, ly, hys⟩ := hP
    exact r D H2 d2 hDb ⟨ys, eD, by omega, hys⟩
end
end Gx
namespace Gx
open PySem PySem.Spec PyProof.Rows L2 Lx
/-- x = a list of short texts; return one -/
theorem st_setL {te : TE} {rest : TS} {D : Ends} {σ : L2.St} {H : Hp} {b : Addr} {n m i : Nat} (h : EL te σ b H n m) (k : ∀ p H', Drawn b H H' → p ≠ b → ShL n m H' p → rest D (σ.set i (some (.ref p))) H') :
    tSeq (tAsg te (gName i)) rest D σ H := h _ k
end Gx

set_option maxHeartbeats 4000000
/-! Dx: lists of texts and tuples of ints as data: ==, repr. -/
namespace Gx
open PySem PySem.Spec PyProof.Rows L2 Lx
def dTxts (ls : List (List Nat)) : PyData := .list (ls.map fun l => .str (SX.S l))
theorem dp_txts {K : PySem.W.Frag} {H : Hp} {p : Addr} {ls : List (List Nat)} (h : SqL K H p (txts ls)) : Dp K H (.ref p) (dTxts ls) := by
  refine .lst h ?_
  unfold txts
  clear h
  induction ls with
  | nil => exact .nil
  | cons l ls ih => exact .cons (.str _) ih
theorem can_txts {ls : List (List Nat)} (h : ∀ l ∈ ls, ∀ c ∈ l, c < 1114112) : (dTxts ls).canLay0 = true := by
  unfold dTxts
  rw [PyData.canLay0]
  induction ls with
  | nil => rfl
  | cons l ls ih =>
    rw [List.map_cons, PyData.canLayAll0, ih fun l' hl => h l' (List.mem_cons_of_mem _ hl), Bool.and_true]
    have h1 := h l (List.mem_cons_self ..)
    show PyData.canLay0 (.str (SX.S l)) = true
    rw [PyData.canLay0]
    unfold PyData.strOk
    rw [← Array.all_toList, List.all_eq_true]
    exact fun c hc => decide_eq_true (h1 c hc)
theorem depth_strs : ∀ ls : List (List Nat), PyData.depthAll (ls.map fun l => PyData.str (SX.S l)) = 0
  | [] => rfl
  | l :: ls => by
    rw [List.map_cons, PyData.depthAll, depth_strs ls, PyData.depth]; rfl
theorem shaped_txts {ls : List (List Nat)} (h : ∀ l ∈ ls, ∀ c ∈ l, c < 1114112) : SeqAt.shaped (dTxts ls) = true := by
  unfold SeqAt.shaped
  rw [can_txts h, Bool.true_and]
  unfold dTxts
  rw [PyData.depth, depth_strs]; rfl
/-- lists of alike texts are == -/
theorem ne_txts {K : PySem.W.Frag} {H : Hp} {p q : Addr} {ls : List (List Nat)} {Q : VK} (hp : SqL K H p (txts ls)) (hq : SqL K H q (txts ls)) (h : ∀ l ∈ ls, ∀ c ∈ l, c < 1114112) (k : Q (.bl false) H) : rNeD K (.ref p) (.ref q) H Q :=
  ⟨dTxts ls, dTxts ls, dp_txts hp, dp_txts hq, shaped_txts h, shaped_txts h, by rw [SeqAt.eqv_refl _ (can_txts h)]; exact k⟩
def dInts (ns : List Int) : PyData := .tuple (ns.map .int)
theorem dp_ints {K : PySem.W.Frag} {H : Hp} {p : Addr} {ns : List Int} (h : SqT K H p (ns.map V.int)) : Dp K H (.ref p) (dInts ns) := by
  refine .tup h ?_
  clear h
  induction ns with
  | nil => exact .nil
  | cons l ls ih => exact .cons (.int _) ih
theorem can_ints (ns : List Int) : (dInts ns).canLay0 = true := by
  unfold dInts
  rw [PyData.canLay0]
  induction ns with
  | nil => rfl
  | cons n ns ih => rw [List.map_cons, PyData.canLayAll0, ih, PyData.canLay0]; rfl
theorem depth_ints : ∀ ns : List Int, PyData.depthAll (ns.map PyData.int) = 0
  | [] => rfl
  | n :: ns => by rw [List.map_cons, PyData.depthAll, depth_ints ns, PyData.depth]; rfl
theorem shaped_ints (ns : List Int) : SeqAt.shaped (dInts ns) = true := by
  unfold SeqAt.shaped
  rw [can_ints, Bool.true_and]
  unfold dInts
  rw [PyData.depth, depth_ints]; rfl
theorem ne_ints {K : PySem.W.Frag} {H : Hp} {p q : Addr} {ns : List Int} {Q : VK} (hp : SqT K H p (ns.map V.int)) (hq : SqT K H q (ns.map V.int)) (k : Q (.bl false) H) : rNeD K (.ref p) (.ref q) H Q :=
  ⟨dInts ns, dInts ns, dp_ints hp, dp_ints hq, shaped_ints ns, shaped_ints ns, by rw [SeqAt.eqv_refl _ (can_ints ns)]; exact k⟩
/-- small whole numbers -/
def Lt64 (i : Int) : Prop := i.natAbs.log2 < 64
theorem show_ints : ∀ ns : List Int, (∀ i ∈ ns, Lt64 i) → PyData.showableAll (ns.map PyData.int) = true ∧ PyData.hasDictAll (ns.map PyData.int) = false ∧ piled (PyData.shownAll (ns.map PyData.int)) ≤ 67 * ns.length
  | [], _ => ⟨rfl, rfl, Nat.le_refl _⟩
  | n :: ns, h => by
    obtain ⟨h1, h2, h3⟩ := show_ints ns fun i hi => h i (List.mem_cons_of_mem _ hi)
    have h0 : n.natAbs.log2 < 64 := h n (List.mem_cons_self ..)
    rw [List.map_cons, PyData.showableAll, PyData.hasDictAll, PyData.shownAll, PyData.showable, PyData.hasDict, PyData.shown, h1, h2, piled_cons]
    refine ⟨by simp; omega, rfl, ?_⟩
    have h4 := int_text_length_le (a := n) (k := 64) (by decide) h0
    rw [PySem.ofString_length, List.length_cons]
    omega
/-- repr of a tuple of few small whole numbers -/
theorem repr_ints {ns : List Int} (h : ∀ i ∈ ns, Lt64 i) (hn : ns.length ≤ 100) : (dInts ns).showable = true ∧ (dInts ns).hasDict = false ∧ (dInts ns).depth ≤ 60 ∧ (dInts ns).shown.length ≤ sizeLine := by
  obtain ⟨h1, h2, h3⟩ := show_ints ns h
  refine ⟨?_, ?_, ?_, ?_⟩
  · unfold dInts; rw [PyData.showable]; exact h1
  · unfold dInts; rw [PyData.hasDict]; exact h2
  · unfold dInts; rw [PyData.depth, depth_ints]; decide
  · unfold dInts
    rw [PyData.shown]
    have := fmt_text (PyData.shownAll (ns.map PyData.int))
    have : (100000 : Nat) ≤ sizeLine := by decide
    omega
/-- places of a range with a step -/
theorem rgc_up {m c : Nat} (hm : m ≤ 1000000) (hc : 0 < c) (hc2 : c ≤ 1000000) : ∃ n : Nat, RgC 0 (m : Int) (c : Int) n ∧ ∀ i, i < n → i * c < m := by
  have e := rangeSize_pos (len := (m : Int)) (c := (c : Int)) (by omega) (by omega)
  refine ⟨(((m : Int) + c - 1) / c).toNat, ⟨by omega, by omega, ?_, ?_⟩, fun i hi => ?_⟩
  · have h1 : 0 ≤ ((m : Int) + c - 1) / c := Int.ediv_nonneg (by omega) (by omega)
    have h2 : ((m : Int) + c - 1) / c ≤ (m : Int) + c - 1 := Int.ediv_le_self _ (by omega)
    have h3 : ((m : Int) + c - 1) / c * c ≤ (m : Int) + c - 1 := Int.ediv_mul_le _ (by omega)
    unfold Builtin.Range.small
    rw [e]
    generalize ((m : Int) + c - 1) / c = k at h1 h2 h3
    simp only [Builtin.Range.rangeFitsLong, Bool.and_eq_true, Bool.or_eq_true, decide_eq_true_eq, beq_iff_eq]
    refine ⟨by omega, .inr ?_⟩
    rw [if_pos (by omega)]
    simp only [Bool.and_eq_true, decide_eq_true_eq]
    omega
  · rw [e]
    have : 0 ≤ ((m : Int) + c - 1) / c := Int.ediv_nonneg (by omega) (by omega)
    omega
  · have h1 : (i : Int) < ((m : Int) + c - 1) / c := by omega
    have h2 : ((i : Int) + 1) * c ≤ (m : Int) + c - 1 := by
      have := (Int.le_ediv_iff_mul_le (c := (c : Int)) (a := (i : Int) + 1) (b := (m : Int) + c - 1) (by omega)).mp (by omega)
      exact this
    have h3 : ((i : Int) + 1) * c = ((i * c : Nat) : Int) + c := by rw [Int.add_mul, Int.one_mul, Int.natCast_mul]
    omega
end Gx

set_option maxHeartbeats 4000000
/-! Nx: + and - where a truth stands for its number; str of a truth; repr of small things. -/
namespace Gx
open PySem PySem.Spec PyProof.Rows L2
/-- the number of an int or a truth -/
def asI : V → Option Int
  | .int i => some i
  | .bl b => some (if b = true then 1 else 0)
  | _ => none
theorem same_sub : reflectedDiffers (.type "int") (.type "bool") "sub" = pure false := by
  unfold reflectedDiffers
  show (typeLookup (.type "bool") (dunderR "sub") >>= fun rb => typeLookup (.type "int") (dunderR "sub") >>= fun ra => pure (rb.isSome && rb != ra)) = pure false
  rw [typeLookup_type, typeLookup_type, builtinLookup_eq_fast]; kernel_rfl
section
variable {X : Cx}
theorem op_addN : OpR X (binaryOp .Add) (fun x y H Q => ∃ i j : Int, asI x = some i ∧ y = .int j ∧ Q (.int (i + j)) H) := by
  intro pins s σ H x y v u Q I rx ry h
  obtain ⟨i, j, hi, rfl, q⟩ := h
  obtain ⟨t', rfl⟩ := ry
  cases x with
  | int a => obtain ⟨t, rfl⟩ := rx; cases hi; exact PySem.P.add_int ⟨.int _, H, I.tok _, ⟨_, rfl⟩, q⟩
  | bl c =>
    cases rx; cases hi
    refine IsLeap.wpAny_binaryOp_left (op := .Add) (T := "bool") (U := "int") (by decide) rfl (typeIs_int s j t') F.fills_bool_add F.fills_int_add isSubtype_int_bool F.slot_bool_add ?_
    refine wpAny_call_entry F.slot_bool_add (s := s) rfl F.entry_int_add ?_ (F.args_int_add_2 _ _)
    show wpAny _ _ (do ret (← mkInt ((if c then 1 else 0 : Int) + j))) _ _ s
    exact wpAny_ret_mkInt ⟨by simp, .int _, H, I.tok _, ⟨_, rfl⟩, q⟩
  | _ => cases hi
theorem op_subN : OpR X (binaryOp .Sub) (fun x y H Q => ∃ i j : Int, asI x = some i ∧ asI y = some j ∧ ((∃ n, x = .int n) ∨ ∃ n, y = .int n) ∧ Q (.int (i - j)) H) := by
  intro pins s σ H x y v u Q I rx ry h
  obtain ⟨i, j, hi, hj, ho, q⟩ := h
  cases x with
  | int a =>
    obtain ⟨t, rfl⟩ := rx; cases hi
    cases y with
    | int b => obtain ⟨t', rfl⟩ := ry; cases hj; exact PySem.P.sub_int ⟨.int _, H, I.tok _, ⟨_, rfl⟩, q⟩
    | bl c =>
      cases ry; cases hj
      exact binaryOp_sub_gives (op := .Sub) (T := "int") (U := "bool") (by decide) (typeIs_int s i t) rfl F.fills_int_sub F.fills_bool_sub isSubtype_bool_int same_sub F.slot_int_sub F.entry_int_sub (F.args_int_sub_2 _ _)
        (AutoIntG7.int___sub___int_bool_0 i t c) trivial ⟨.int _, H, I.tok _, ⟨_, rfl⟩, q⟩
    | _ => cases hj
  | bl c =>
    cases rx; cases hi
    cases y with
    | int b =>
      obtain ⟨t', rfl⟩ := ry; cases hj
      refine IsLeap.wpAny_binaryOp_left (op := .Sub) (T := "bool") (U := "int") (by decide) rfl (typeIs_int s j t') F.fills_bool_sub F.fills_int_sub isSubtype_int_bool F.slot_bool_sub ?_
      refine wpAny_call_entry F.slot_bool_sub (s := s) rfl F.entry_int_sub ?_ (F.args_int_sub_2 _ _)
      show wpAny _ _ (do ret (← mkInt ((if c then 1 else 0 : Int) - j))) _ _ s
      exact wpAny_ret_mkInt ⟨by simp, .int _, H, I.tok _, ⟨_, rfl⟩, q⟩
    | _ => rcases ho with ⟨n, e⟩ | ⟨n, e⟩ <;> cases e
  | _ => cases hi
theorem call_reprA (hG : X.A.guards = some []) (hu : X.A.units + 64 < cLine) : CallR X (.builtin "repr") (fun xs H Q => ∃ (v : V) (d : PyData), xs = [v] ∧ Dp X.K H v d ∧ d.showable = true ∧ d.hasDict = false ∧ d.depth ≤ 60 ∧ d.shown.length ≤ sizeLine ∧ Q (.str d.shown) H) := by
  intro pins s σ H xs us Q I r h
  obtain ⟨v, d, rfl, hd, h1, h2, h3, h4, q⟩ := h
  cases hd with
  | non =>
    obtain ⟨u, rfl, rx⟩ := vals1 r
    cases rx
    exact PySem.P.repr_of_none ⟨.str _, H, I.tok _, ⟨_, rfl⟩, q⟩
  | bl b =>
    obtain ⟨u, rfl, rx⟩ := vals1 r
    cases rx
    exact PySem.P.repr_of_bool ⟨.str _, H, I.tok _, ⟨_, rfl⟩, q⟩
  | int i =>
    obtain ⟨u, rfl, t, rfl⟩ := vals1 r
    exact PySem.P.repr_of_int (of_decide_eq_true h1) ⟨.str _, H, I.tok _, ⟨_, rfl⟩, q⟩
  | str x =>
    obtain ⟨u, rfl, t, rfl⟩ := vals1 r
    exact PySem.P.repr_of_str ⟨.str _, H, I.tok _, ⟨_, rfl⟩, q⟩ h4
  | lst a b => exact call_reprD hG hu pins s σ H _ us Q I r ⟨_, _, rfl, .lst a b, h1, h2, h3, h4, q⟩
  | tup a b => exact call_reprD hG hu pins s σ H _ us Q I r ⟨_, _, rfl, .tup a b, h1, h2, h3, h4, q⟩
theorem call_strA : CallR X (.type "str") (fun xs H Q => ∃ i : Int, (xs = [.int i] ∧ i.natAbs.log2 < 1920 ∧ Q (.str (toString i)) H) ∨ ∃ b, xs = [.bl b] ∧ Q (.str (if b then "True" else "False")) H) := by
  intro pins s σ H xs us Q I r h
  obtain ⟨i, ⟨rfl, hz, q⟩ | ⟨b, rfl, q⟩⟩ := h
  · obtain ⟨u, rfl, t, rfl⟩ := vals1 r
    exact PySem.P.str_of_int hz ⟨.str _, H, I.tok _, ⟨_, rfl⟩, q⟩
  · obtain ⟨u, rfl, rx⟩ := vals1 r
    cases rx
    exact PySem.P.str_of_bool ⟨.str _, H, I.tok _, ⟨_, rfl⟩, q⟩
/-! rules within a comprehension: the context's K by its own name -/
theorem pg_tupK {K : PySem.W.Frag} {es : List Expr} {k n : Nat} {t : TGs} {pos : Pos} (hK : X.K = K) (hc : X.calm = true) (h : PGs X es t)
    (hn : (assignEach es X.env).length = n := by rfl) (hst : (assignEach es X.env).findIdx? (·.1) = none := by rfl) : PG X (.Tuple es k pos) (gTup K n t) := hK ▸ pg_tup hc h hn hst
theorem call_isiC {K : PySem.W.Frag} (hK : X.K = K) : CallR X (.builtin "isinstance") (rIsi K) := hK ▸ call_isi
/-- a statement, then the rest, by what stands between -/
theorem seq_via {t rest : TS} {D : Ends} {σ : L2.St} {H : Hp} (P : L2.St → Hp → Prop) (h1 : ∀ D' : Ends, (∀ σ' H', P σ' H' → D'.nx σ' H') → t D' σ H) (k : ∀ σ' H', P σ' H' → rest D σ' H') : tSeq t rest D σ H := h1 _ k
/-! lists of whole numbers as data -/
def dNats (fs : List Nat) : PyData := .list (fs.map fun i => .int ((i : Nat) : Int))
theorem dp_nats {K : PySem.W.Frag} {H : Hp} {p : Addr} {fs : List Nat} (h : SqL K H p (fs.map fun i => V.int ((i : Nat) : Int))) : Dp K H (.ref p) (dNats fs) := by
  refine .lst h ?_
  clear h
  induction fs with
  | nil => exact .nil
  | cons l ls ih => exact .cons (.int _) ih
theorem shaped_nats (fs : List Nat) : SeqAt.shaped (dNats fs) = true := by
  have h1 : ∀ fs : List Nat, PyData.canLayAll0 (fs.map fun i => PyData.int ((i : Nat) : Int)) = true := by
    intro fs
    induction fs with
    | nil => rfl
    | cons n ns ih => rw [List.map_cons, PyData.canLayAll0, ih, PyData.canLay0]; rfl
  have h2 : ∀ fs : List Nat, PyData.depthAll (fs.map fun i => PyData.int ((i : Nat) : Int)) = 0 := by
    intro fs
    induction fs with
    | nil => rfl
    | cons n ns ih => rw [List.map_cons, PyData.depthAll, ih, PyData.depth]; rfl
  unfold SeqAt.shaped dNats
  rw [PyData.canLay0, h1, Bool.true_and, PyData.depth, h2]; rfl
/-- such a list against a bare one -/
theorem ne_nats {K : PySem.W.Frag} {H : Hp} {p q : Addr} {fs : List Nat} {Q : VK} (hp : SqL K H p (fs.map fun i => V.int ((i : Nat) : Int))) (hq : SqL K H q []) (k : Q (.bl (!fs.isEmpty)) H) : rNeD K (.ref p) (.ref q) H Q := by
  refine ⟨dNats fs, .list [], dp_nats hp, .lst hq .nil, shaped_nats fs, by decide +kernel, ?_⟩
  cases fs with
  | nil => exact k
  | cons f fs => exact k
/-- a text n times, none at all too -/
theorem op_mulS0 : OpR X (binaryOp .Mult) (fun x y H Q => ∃ (z : Str) (n : Int), x = .str z ∧ y = .int n ∧ 0 ≤ n ∧ n ≤ 100000 ∧ z.length * n.toNat ≤ 1000000 ∧ Q (.str (timesS z n.toNat)) H) := by
  intro pins s σ H x y v u Q I rx ry h
  obtain ⟨z, n, rfl, rfl, h1, h2, h3, q⟩ := h
  by_cases h0 : n = 0
  · subst h0
    obtain ⟨t, rfl⟩ := rx
    obtain ⟨t', rfl⟩ := ry
    exact PySem.P.mul_str_none (by decide) (by decide) ⟨.str _, H, I.tok _, ⟨_, rfl⟩, q⟩
  · exact op_mulS pins s σ H _ _ v u Q I rx ry ⟨z, n, rfl, rfl, by omega, h2, h3, q⟩
end
end Gx

set_option maxHeartbeats 4000000
/-! En: enumerate(text). -/
namespace Gx
open PySem PySem.Spec PyProof.Rows L2
/-- the signs of x, each in a new pair with its place -/
def IteS (x : Str) : It :=
  ⟨fun i _ => i < x.cps.size, fun i H v H' => ∃ T c, v = .ref T ∧ H T = none ∧ H' = upd H T (.tup [.int (i : Nat), .str ⟨#[c]⟩]) ∧ x.cps[i]? = some c, fun i _ => i = x.cps.size⟩
theorem turn_enumS {P : Program} {w : World} {K : PySem.W.Frag} {elts : List Expr} {kk : Nat} {tpos : Pos} (x : Str) (t : Tok) (e it : Addr) :
    Turn P w K (.Tuple elts kk tpos) (IteS x) [e, it] e (fun i h => (∃ old, IsEnum h e it ((i : Nat) : Int) old) ∧ h.IsStrIter it (strIterType x) x t i ∧ e ≠ it) where
  mem := by simp
  obj := fun i h st b hb => by
    obtain ⟨⟨old, he⟩, ⟨o, ho, hc, hd⟩, _⟩ := st
    have e' : b = e ∨ b = it := by simpa using hb
    rcases e' with z | z
    · rw [z]; exact ⟨_, he, fun v q => nomatch q⟩
    · rw [z]; exact ⟨o, ho, fun v q => by rw [hd] at q; cases q⟩
  keep := fun i h h' st k => let ⟨⟨old, he⟩, ⟨o, ho, r⟩, hne⟩ := st; ⟨⟨old, k e (by simp) _ he⟩, ⟨o, k it (by simp) o ho, r⟩, hne⟩
  item := by
    intro X hP hw hK hc i pins s σ H E I hf st hg
    subst hP hw hK
    obtain ⟨⟨old, he⟩, hit, hne⟩ := st
    have hlt : i < x.cps.size := hg
    have hel : e < s.heap.objs.size := Heap.lt_size he
    have hil : it < s.heap.objs.size := by obtain ⟨_, q, _⟩ := hit; exact Heap.lt_size q
    have D := Draws.text (prog := X.prog) (w := X.w) (A := X.A.in1) (I.ok.hd hc) it x t
    refine wpAny_pyNext_enum_itemC D he hit hlt hne (by simpa using hne) fun u h' tk hP ho hit' hT hsz hk => ?_
    obtain ⟨c, tu, hx, rfl⟩ := hP
    refine ⟨_, rfl, wpAny_letOwnedTupleGo_enum (s := { s with heap := h', toks := tk + 1 }) ho fun h'' he' sb => ?_⟩
    have hT2 : h''.get? s.heap.objs.size = some { cls := .type "tuple", data := .seq #[.int i tk, .str ⟨#[c]⟩ tu] } := (sb.2 _ (Nat.ne_of_gt hel)).trans hT
    have new : ObjOk X.prog X.w (upd H s.heap.objs.size (.tup [.int (i : Nat), .str ⟨#[c]⟩])) h'' s.heap.objs.size (.tup [.int (i : Nat), .str ⟨#[c]⟩]) :=
      ⟨by show 2 ≤ sizeLine; decide, [.int i tk, .str ⟨#[c]⟩ tu], .cons ⟨_, rfl⟩ (.cons ⟨_, rfl⟩ .nil), ⟨_, hT2, rfl, _, rfl⟩⟩
    have I1 : Inv X pins σ (upd H s.heap.objs.size (.tup [.int (i : Nat), .str ⟨#[c]⟩])) { s with heap := h'', toks := tk + 1 } :=
      I.turnedNew (ch := [e, it]) (fun b ob hb q => (sb.2 b (fun z => hb (by simp [z]))).trans (hk b ob (fun z => hb (by simp [z])) (fun z => hb (by simp [z])) q)) hf (Nat.le_refl _) new
    refine ⟨.ref s.heap.objs.size, _, I1, rfl, ⟨_, c, rfl, I.hok.fresh (Nat.le_refl _), rfl, hx⟩, ⟨⟨.str ⟨#[c]⟩ tu, ?_⟩, ?_, hne⟩, fun b hb => ?_⟩
    · have e1 : ((i + 1 : Nat) : Int) = (i : Int) + 1 := by omega
      rw [e1]; exact he'
    · obtain ⟨o, q, r⟩ := hit'
      exact ⟨o, (sb.2 it (Ne.symm hne)).trans q, r⟩
    · have hb' : b < s.heap.objs.size := by
        have e' : b = e ∨ b = it := by simpa using hb
        rcases e' with z | z
        · rw [z]; exact hel
        · rw [z]; exact hil
      rw [upd_ne (Nat.ne_of_lt hb')]
      exact (hf b hb).1
  done := by
    intro X hP hw hK hc i pins s σ H E I hf st hg
    subst hP hw hK
    obtain ⟨⟨old, he⟩, hit, hne⟩ := st
    obtain ⟨f0, f1, f2, f3, f4, f5⟩ := hf it (by simp)
    have hi : i = x.cps.size := hg
    rw [hi] at hit he
    have D := Draws.text (prog := X.prog) (w := X.w) (A := X.A.in1) (I.ok.hd hc) it x t
    exact wpAny_pyNext_enum_endD D he hit fun h' eb => ⟨rfl, I.turned (t' := s.toks) (fun b o hb q => eb b o hb q) f0 f1 f3 f4 f5⟩
  self := fun A i s Q E st h => let ⟨⟨_, he⟩, _⟩ := st; wpAny_pyIter_enum he h
def iEnumS (ta : TA) : TI := fun σ H R => ta σ H fun vs H1 => ∃ x, vs = [.str x] ∧ R (IteS x) H1
theorem pi_enumS {X : Cx} {e : Expr} {ta : TA} {p pos tpos : Pos} {elts : List Expr} {kk : Nat} (hg : Gl X "enumerate") (hm : X.mg "enumerate" = none) (ha : PA X [e] ta) (hs : starEach [e] X.env = [(false, eval e X.env)] := by rfl) :
    PI X (.Tuple elts kk tpos) (.Call (.Name "enumerate" p) [e] [] pos) (iEnumS ta) := by
  refine ⟨fun pins s σ H R I h => ?_⟩
  refine Call_ (ld_blt I hg hm boot_enumerate (PyProof.Rows.callWith_type1 (thn (ha.run pos pins s σ H _ I h) fun us s1 ⟨vs, H1, I1, r1, q1⟩ => ?_) hs rfl))
  obtain ⟨x, ex, q⟩ := q1
  subst ex
  cases r1 with
  | cons r rr =>
    cases rr
    obtain ⟨t, rfl⟩ := r
    refine call_enumerate_str fun h' he hit hsz hk => wpAny_pyIter_enum he ?_
    have I2 : Inv X pins σ H1 { s1 with heap := h' } := I1.kept (t' := s1.toks) hk
    refine ⟨s1.heap.objs.size + 1, [s1.heap.objs.size + 1, s1.heap.objs.size], _, _, H1, rfl, I2, turn_enumS x t (s1.heap.objs.size + 1) s1.heap.objs.size, ⟨⟨.none, he⟩, hit, Nat.succ_ne_self _⟩, fun b hb => ?_, q⟩
    have e' : b = s1.heap.objs.size + 1 ∨ b = s1.heap.objs.size := by simpa using hb
    have hle : s1.heap.objs.size ≤ b := by
      rcases e' with z | z
      · rw [z]; exact Nat.le_add_right _ _
      · rw [z]; exact Nat.le_refl _
    exact I1.fpOk hle (I1.hok.fresh hle)
theorem walk_enumS {x : Str} : Walk (IteS x) x.cps.size (fun _ => True) (fun i H v H' => ∃ T c, v = .ref T ∧ H T = none ∧ H' = upd H T (.tup [.int (i : Nat), .str ⟨#[c]⟩]) ∧ x.cps[i]? = some c) :=
  ⟨fun _ _ hi _ => hi, fun _ _ => rfl, fun _ _ _ _ _ _ y => y⟩
end Gx

set_option maxHeartbeats 4000000
/-! Mx: things of any kind, as data: their kinds, and that they stay. -/
namespace Gx
open PySem PySem.Spec PyProof.Rows L2
theorem same_tup {K : PySem.W.Frag} {H H' : Hp} {a : Addr} {xs : List V} (e : Same H H') (h : SqT K H a xs) : SqT K H' a xs := by
  rcases h with (h | ⟨o, h⟩) | h
  · exact .inl (.inl (e _ _ h))
  · exact .inl (.inr ⟨o, e _ _ h⟩)
  · exact .inr h
mutual
theorem Dp.same {K : PySem.W.Frag} {H H' : Hp} (s : Same H H') : ∀ {v : V} {d : PyData}, Dp K H v d → Dp K H' v d
  | _, _, .non => .non
  | _, _, .bl b => .bl b
  | _, _, .int i => .int i
  | _, _, .str x => .str x
  | _, _, .lst h t => .lst (s.seq h) (DpAll.same s t)
  | _, _, .tup h t => .tup (same_tup s h) (DpAll.same s t)
theorem DpAll.same {K : PySem.W.Frag} {H H' : Hp} (s : Same H H') : ∀ {vs : List V} {ds : List PyData}, DpAll K H vs ds → DpAll K H' vs ds
  | _, _, .nil => .nil
  | _, _, .cons h t => .cons (Dp.same s h) (DpAll.same s t)
end
def tyD : PyData → String
  | .none => "NoneType"
  | .bool _ => "bool"
  | .int _ => "int"
  | .str _ => "str"
  | .list _ => "list"
  | .tuple _ => "tuple"
  | _ => "dict"
theorem dp_ty {K : PySem.W.Frag} {H : Hp} {v : V} {d : PyData} (h : Dp K H v d) : TyX K H v (.type (tyD d)) := by
  cases h with
  | non => exact .base .non
  | bl b => exact .base (.bl b)
  | int i => exact .base (.int i)
  | str x => exact .base (.str x)
  | lst h t =>
    rcases h with (h | ⟨o, h⟩) | ⟨o, its, n, e, c, _⟩
    · exact .base (.lst h)
    · exact .base (.frz h)
    · exact .kList e c
  | tup h t =>
    rcases h with (h | ⟨o, h⟩) | ⟨o, its, n, e, c, _⟩
    · exact .base (.tup h)
    · exact .fTuple h
    · exact .kTuple e c
def isI : PyData → Bool
  | .int _ => true
  | .bool _ => true
  | _ => false
def isB : PyData → Bool
  | .bool _ => true
  | _ => false
def isS : PyData → Bool
  | .str _ => true
  | _ => false
def isT : PyData → Bool
  | .tuple _ => true
  | _ => false
section
variable {K : PySem.W.Frag} {H : Hp} {v : V} {d : PyData} {Q : VK}
theorem k_int (h : Dp K H v d) : PySem.W.kitOne K (.type (tyD d)) (.type "int") = some (isI d) := kit_ty (by cases h <;> rfl)
theorem k_bool (h : Dp K H v d) : PySem.W.kitOne K (.type (tyD d)) (.type "bool") = some (isB d) := kit_ty (by cases h <;> rfl)
theorem k_str (h : Dp K H v d) : PySem.W.kitOne K (.type (tyD d)) (.type "str") = some (isS d) := kit_ty (by cases h <;> rfl)
theorem k_tuple (h : Dp K H v d) : PySem.W.kitOne K (.type (tyD d)) (.type "tuple") = some (isT d) := kit_ty (by cases h <;> rfl)
end
/-- [e for y in a tuple], by the place -/
theorem lc_tupI {K : PySem.W.Frag} {te0 te : TE} {j : Nat} {vs : List Nat} {σ : L2.St} {H : Hp} {Q : VK} {xs : List V} (f : Nat → V) (h0 : Ev1 te0 σ H fun v H1 => ∃ a, v = .ref a ∧ SqT K H1 a xs) (hx : xs.length ≤ 1000000)
    (hs : ∀ i y H', xs[i]? = some y → Same H H' → ∀ Qv : VK, (∀ H'', Same H' H'' → Qv (f i) H'') → te ((wipe σ vs).set j (some y)) H' Qv)
    (hd : ∀ D H', H D = none → Same H H' → H' D = some (.lst ((List.range xs.length).map f)) → Q (.ref D) H') (hw : ∀ x, wipe ((wipe σ vs).set j (some x)) vs = wipe σ vs := by intro x; rfl) :
    tLc (iTup K te0) (gName j) tYes te vs σ H Q := by
  refine h0 _ fun v H1 s1 e => ?_
  obtain ⟨a, rfl, hS⟩ := e
  refine ⟨a, rfl, ⟨xs, hS⟩, fun D hD => ?_⟩
  have hn : xs.length < sizeLine := Nat.lt_of_le_of_lt hx (by decide)
  refine lc_pure walk_tup f hD hn (fun H2 s2 => same_tup s2 hS) (fun i H x H' _ _ y => y.1 ▸ Same.refl _) (fun i v H2 H' hi s2 y Qv q => ?_) (fun H2 s2 e2 => ?_) hw
  · obtain ⟨rfl, hc⟩ := y
    exact hs i v _ hc (s1.trans s2) Qv q
  · exact hd D H2 (s1.free hD) (s1.trans s2) e2
end Gx

set_option maxHeartbeats 4000000
/-! Rx: things that a law bends: small numbers and texts, at times in a tuple or list of one, three or four of them together; they stay while the box is drawn from; repr of them. -/
namespace Gx
open PySem PySem.Spec PyProof.Rows L2
/-- the heap without the box -/
def off (b : Addr) (H : Hp) : Hp := fun a => if a = b then none else H a
theorem off_same {b : Addr} {H : Hp} : Same (off b H) H := fun a o h => by
  unfold off at h
  by_cases e : a = b
  · rw [if_pos e] at h; cases h
  · rw [if_neg e] at h; exact h
theorem off_at {b a : Addr} {H : Hp} {o : HO} (n : a ≠ b) (h : H a = some o) : off b H a = some o := by
  unfold off; rw [if_neg n]; exact h
theorem Drawn.off {b : Addr} {H H' : Hp} (d : Drawn b H H') : Same (off b H) (off b H') := fun a o h => by
  by_cases e : a = b
  · unfold Gx.off at h; rw [if_pos e] at h; cases h
  · exact off_at e (d.2 a o e (off_same a o h))
theorem same_off {b : Addr} {H H' : Hp} (s : Same H H') : Same (off b H) (off b H') := fun a o h => by
  by_cases e : a = b
  · unfold Gx.off at h; rw [if_pos e] at h; cases h
  · exact off_at e (s a o (off_same a o h))
/-- a number, a text, a truth, nothing -/
def Bs (B M : Nat) (d : PyData) : Prop := d = .none ∨ (∃ b, d = .bool b) ∨ (∃ i : Int, d = .int i ∧ i.natAbs ≤ B) ∨ ∃ z : Str, d = .str z ∧ z.length ≤ M ∧ ∀ c ∈ z.cps.toList, c < 1114112
/-- such a thing, or one of them in a tuple or a list -/
def PD (B M : Nat) (d : PyData) : Prop := Bs B M d ∨ ∃ e, Bs B M e ∧ (d = .tuple [e] ∨ d = .list [e])
/-- a tuple or a list of at most four of these -/
def MD (B M : Nat) (d : PyData) : Prop := ∃ ds, (d = .tuple ds ∨ d = .list ds) ∧ ds.length ≤ 4 ∧ ∀ e ∈ ds, PD B M e
theorem Bs.mono {B M B' M' : Nat} {d : PyData} (hB : B ≤ B') (hM : M ≤ M') (h : Bs B M d) : Bs B' M' d := by
  rcases h with h | h | ⟨i, h, hi⟩ | ⟨z, h, hz, hc⟩
  · exact .inl h
  · exact .inr (.inl h)
  · exact .inr (.inr (.inl ⟨i, h, by omega⟩))
  · exact .inr (.inr (.inr ⟨z, h, by omega, hc⟩))
theorem PD.mono {B M B' M' : Nat} {d : PyData} (hB : B ≤ B') (hM : M ≤ M') (h : PD B M d) : PD B' M' d := by
  rcases h with h | ⟨e, h, k⟩
  · exact .inl (h.mono hB hM)
  · exact .inr ⟨e, h.mono hB hM, k⟩
theorem ofs_lt (x : String) : ∀ c ∈ (Str.ofString x).cps.toList, c < 1114112 := by
  intro c hc
  rw [Str.ofString_eq_toList] at hc
  obtain ⟨k, _, rfl⟩ := List.mem_map.mp hc
  have := k.valid
  unfold UInt32.isValidChar Nat.isValidChar at this
  show k.val.toNat < _
  omega
/-- what repr of it asks -/
def Rp (n p : Nat) (d : PyData) : Prop := d.showable = true ∧ d.hasDict = false ∧ d.depth ≤ p ∧ d.shown.length ≤ n
theorem log_small {n : Nat} (h : n ≤ 1000000000) : n.log2 < 64 := by
  by_cases h0 : n = 0
  · subst h0; decide
  · exact (Nat.log2_lt h0).mpr (by omega)
theorem bs_rp {B M : Nat} {d : PyData} (hB : B ≤ 1000000000) (h : Bs B M d) : Rp (10 * M + 100) 0 d := by
  rcases h with rfl | ⟨b, rfl⟩ | ⟨i, rfl, hi⟩ | ⟨z, rfl, hz, hc⟩
  · exact ⟨rfl, rfl, Nat.le_refl _, by show (4 : Nat) ≤ _; omega⟩
  · refine ⟨rfl, rfl, Nat.le_refl _, ?_⟩
    cases b
    · show (5 : Nat) ≤ _; omega
    · show (4 : Nat) ≤ _; omega
  · have h64 := log_small (n := i.natAbs) (by omega)
    refine ⟨?_, rfl, Nat.le_refl _, ?_⟩
    · rw [PyData.showable]; exact decide_eq_true (by omega)
    · rw [PyData.shown]
      have h4 := int_text_length_le (a := i) (k := 64) (by decide) h64
      show (Str.ofString (toString i)).length ≤ _
      rw [PySem.ofString_length]
      omega
  · refine ⟨rfl, rfl, Nat.le_refl _, ?_⟩
    rw [PyData.shown]
    have := StrLaws.reprText_len z fun c h => Nat.lt_trans (hc c h) (by decide)
    omega
theorem all_rp {n p : Nat} : ∀ {ds : List PyData}, (∀ e ∈ ds, Rp n p e) → PyData.showableAll ds = true ∧ PyData.hasDictAll ds = false ∧ PyData.depthAll ds ≤ p ∧ ((PyData.shownAll ds).map (·.length)).sum ≤ n * ds.length ∧ (PyData.shownAll ds).length = ds.length
  | [], _ => ⟨rfl, rfl, Nat.zero_le _, Nat.le_refl _, rfl⟩
  | d :: ds, h => by
    obtain ⟨h1, h2, h3, h4, h5⟩ := all_rp (ds := ds) fun e he => h e (List.mem_cons_of_mem _ he)
    obtain ⟨k1, k2, k3, k4⟩ := h d (List.mem_cons_self ..)
    refine ⟨?_, ?_, ?_, ?_, ?_⟩
    · rw [PyData.showableAll, k1, h1]; rfl
    · rw [PyData.hasDictAll, k2, h2]; rfl
    · rw [PyData.depthAll]; omega
    · rw [PyData.shownAll, List.map_cons, List.sum_cons, List.length_cons, Nat.mul_add, Nat.mul_one]; omega
    · rw [PyData.shownAll, List.length_cons, h5, List.length_cons]
theorem seq_rp {n p : Nat} {ds : List PyData} (h : ∀ e ∈ ds, Rp n p e) (hl : ds.length ≤ 10) {d : PyData} (hd : d = .tuple ds ∨ d = .list ds) : Rp (n * ds.length + 23) (p + 1) d := by
  obtain ⟨h1, h2, h3, h4, h5⟩ := all_rp h
  rcases hd with rfl | rfl
  · refine ⟨by rw [PyData.showable]; exact h1, by rw [PyData.hasDict]; exact h2, by rw [PyData.depth]; omega, ?_⟩
    rw [PyData.shown]
    have := tupleText_len_le (PyData.shownAll ds)
    omega
  · refine ⟨by rw [PyData.showable]; exact h1, by rw [PyData.hasDict]; exact h2, by rw [PyData.depth]; omega, ?_⟩
    rw [PyData.shown]
    have := listText_len_le (PyData.shownAll ds)
    omega
theorem Rp.mono {n p n' p' : Nat} {d : PyData} (h : Rp n p d) (hn : n ≤ n') (hp : p ≤ p') : Rp n' p' d := ⟨h.1, h.2.1, Nat.le_trans h.2.2.1 hp, Nat.le_trans h.2.2.2 hn⟩
theorem pd_rp {B M : Nat} {d : PyData} (hB : B ≤ 1000000000) (h : PD B M d) : Rp (10 * M + 123) 1 d := by
  rcases h with h | ⟨e, h, k⟩
  · exact (bs_rp hB h).mono (by omega) (by omega)
  · have := seq_rp (ds := [e]) (fun x hx => by rw [List.mem_singleton.mp hx]; exact bs_rp hB h) (by show 1 ≤ 10; decide) k
    exact this.mono (by rw [List.length_singleton]; omega) (Nat.le_refl _)
theorem md_rp {B M : Nat} {d : PyData} (hB : B ≤ 1000000000) (hM : M ≤ 100000) (h : MD B M d) : Rp 5000000 2 d := by
  obtain ⟨ds, hd, hl, h⟩ := h
  have := seq_rp (fun e he => pd_rp hB (h e he)) (by omega) hd
  refine this.mono ?_ (Nat.le_refl _)
  have h2 := Nat.mul_le_mul_left (10 * M + 123) hl
  omega
end Gx

set_option maxHeartbeats 4000000
namespace K02
open PySem PySem.Spec PyProof.Rows L2 Gx
def topS (i : Nat) : Stmt := PySem.Challenge.pw_typedahead_k02_what_edits_are.main.body.getD i (.Pass ⟨0, 0, 0, 0⟩)
abbrev s_is_sign : Stmt := topS 2
abbrev s_is_edit : Stmt := topS 6
abbrev s_is_count : Stmt := topS 4
abbrev s_is_put : Stmt := topS 7
abbrev s_L_box : Stmt := topS 9
abbrev s_L_take : Stmt := topS 10
abbrev s_L_cells : Stmt := topS 11
abbrev s_L_one_of : Stmt := topS 12
abbrev s_L_row : Stmt := topS 13
abbrev s_L_text : Stmt := topS 14
abbrev s_L_edit : Stmt := topS 15
abbrev s_L_signs : Stmt := topS 16
abbrev s_L_is_edit : Stmt := topS 17
abbrev s_L_bent : Stmt := topS 18
abbrev s_L_told_right : Stmt := topS 19
abbrev s_L_right : Stmt := topS 20
abbrev s_law : Stmt := topS 21
theorem sc_is_sign : FnScope ["sign"] ["sign"] (defScope s_is_sign) := ⟨rfl, rfl, rfl, by decide +kernel, rfl, by decide +kernel, by decide +kernel⟩
theorem sc_is_edit : FnScope ["text", "thing", "at", "cut", "put"] ["text", "thing"] (defScope s_is_edit) := ⟨rfl, rfl, rfl, by decide +kernel, rfl, by decide +kernel, by decide +kernel⟩
theorem sc_is_count : FnScope ["thing"] ["thing"] (defScope s_is_count) := ⟨rfl, rfl, rfl, by decide +kernel, rfl, by decide +kernel, by decide +kernel⟩
theorem sc_is_put : FnScope ["thing", "sign"] ["thing"] (defScope s_is_put) := ⟨rfl, rfl, rfl, by decide +kernel, rfl, by decide +kernel, by decide +kernel⟩
theorem sc_L_box : FnScope ["_law_cells_here", "_law_k", "_law_cell"] ["_law_cells_here", "_law_k"] (defScope s_L_box) := ⟨rfl, rfl, rfl, by decide +kernel, rfl, by decide +kernel, by decide +kernel⟩
theorem sc_L_take : FnScope ["_law_box_here", "_law_many", "_law_found", "_law_mixed"] ["_law_box_here", "_law_many"] (defScope s_L_take) := ⟨rfl, rfl, rfl, by decide +kernel, rfl, by decide +kernel, by decide +kernel⟩
theorem sc_L_cells : FnScope ["_law_script", "_law_utmost", "_law_cells_here", "_law_k", "_law_cell"] ["_law_script", "_law_utmost"] (defScope s_L_cells) := ⟨rfl, rfl, rfl, by decide +kernel, rfl, by decide +kernel, by decide +kernel⟩
theorem sc_L_one_of : FnScope ["_law_box_here", "_law_some"] ["_law_box_here", "_law_some"] (defScope s_L_one_of) := ⟨rfl, rfl, rfl, by decide +kernel, rfl, by decide +kernel, by decide +kernel⟩
theorem sc_L_row : FnScope ["_law_box_here", "_law_some", "_law_row_here", "_law_way", "_law_signs_here", "_law_k"] ["_law_box_here"] (defScope s_L_row) := ⟨rfl, rfl, rfl, by decide +kernel, rfl, by decide +kernel, by decide +kernel⟩
theorem sc_L_text : FnScope ["_law_box_here", "_law_many", "_law_k"] ["_law_box_here", "_law_many"] (defScope s_L_text) := ⟨rfl, rfl, rfl, by decide +kernel, rfl, by decide +kernel, by decide +kernel⟩
theorem sc_L_edit : FnScope ["_law_box_here", "_law_writing", "_law_size", "_law_feeds", "_law_at", "_law_cut", "_law_put", "_law_k", "_law_sign"] ["_law_box_here", "_law_writing"] (defScope s_L_edit) := ⟨rfl, rfl, rfl, by decide +kernel, rfl, by decide +kernel, by decide +kernel⟩
theorem sc_L_signs : FnScope ["_law_found"] [] (defScope s_L_signs) := ⟨rfl, rfl, rfl, by decide +kernel, rfl, by decide +kernel, by decide +kernel⟩
theorem sc_L_is_edit : FnScope ["_law_writing", "_law_matter", "_law_at", "_law_cut", "_law_put", "_law_signs_here", "_law_sign", "_law_one"] ["_law_writing", "_law_matter"] (defScope s_L_is_edit) := ⟨rfl, rfl, rfl, by decide +kernel, rfl, by decide +kernel, by decide +kernel⟩
theorem sc_L_bent : FnScope ["_law_box_here", "_law_writing", "_law_edit_here", "_law_some", "_law_at", "_law_part", "_law_near", "_law_signs_here", "_law_way", "_law_sign"] ["_law_box_here", "_law_writing", "_law_edit_here"] (defScope s_L_bent) := ⟨rfl, rfl, rfl, by decide +kernel, rfl, by decide +kernel, by decide +kernel⟩
theorem sc_L_told_right : FnScope ["_law_writing", "_law_matter", "_law_kept", "_law_found"] ["_law_writing", "_law_matter"] (defScope s_L_told_right) := ⟨rfl, rfl, rfl, by decide +kernel, rfl, by decide +kernel, by decide +kernel⟩
theorem sc_L_right : FnScope ["_law_box_here", "_law_turn", "_law_writing", "_law_edit_here", "_law_again", "_law_matter", "_law_some"] ["_law_box_here"] (defScope s_L_right) := ⟨rfl, rfl, rfl, by decide +kernel, rfl, by decide +kernel, by decide +kernel⟩
theorem sc_law : FnScope ["_law_script", "_law_cells_here", "_law_k"] ["_law_script"] (defScope s_law) := ⟨rfl, rfl, rfl, by decide +kernel, rfl, by decide +kernel, by decide +kernel⟩
/-- what the top leaves -/
structure Facts (K : PySem.W.Frag) (mg : Str → Option Value) : Type where
  f_is_sign : Addr
  d_is_sign : FuncData
  F_is_sign : Fun K "is_sign" "is_sign" s_is_sign f_is_sign d_is_sign
  g_is_sign : mg "is_sign" = some (.ref f_is_sign)
  b_is_sign : Binds K d_is_sign ["sign"] []
  f_is_edit : Addr
  d_is_edit : FuncData
  F_is_edit : Fun K "is_edit" "is_edit" s_is_edit f_is_edit d_is_edit
  g_is_edit : mg "is_edit" = some (.ref f_is_edit)
  b_is_edit : Binds K d_is_edit ["text", "thing"] []
  f_is_count : Addr
  d_is_count : FuncData
  F_is_count : Fun K "is_count" "is_count" s_is_count f_is_count d_is_count
  g_is_count : mg "is_count" = some (.ref f_is_count)
  b_is_count : Binds K d_is_count ["thing"] []
  f_is_put : Addr
  d_is_put : FuncData
  F_is_put : Fun K "is_put" "is_put" s_is_put f_is_put d_is_put
  g_is_put : mg "is_put" = some (.ref f_is_put)
  b_is_put : Binds K d_is_put ["thing"] []
  f_L_box : Addr
  d_L_box : FuncData
  F_L_box : Fun K "_law_box" "_law_box" s_L_box f_L_box d_L_box
  g_L_box : mg "_law_box" = some (.ref f_L_box)
  b_L_box : Binds K d_L_box ["_law_cells_here", "_law_k"] []
  f_L_take : Addr
  d_L_take : FuncData
  F_L_take : Fun K "_law_take" "_law_take" s_L_take f_L_take d_L_take
  g_L_take : mg "_law_take" = some (.ref f_L_take)
  b_L_take : Binds K d_L_take ["_law_box_here", "_law_many"] []
  f_L_cells : Addr
  d_L_cells : FuncData
  F_L_cells : Fun K "_law_cells" "_law_cells" s_L_cells f_L_cells d_L_cells
  g_L_cells : mg "_law_cells" = some (.ref f_L_cells)
  b_L_cells : Binds K d_L_cells ["_law_script", "_law_utmost"] []
  f_L_one_of : Addr
  d_L_one_of : FuncData
  F_L_one_of : Fun K "_law_one_of" "_law_one_of" s_L_one_of f_L_one_of d_L_one_of
  g_L_one_of : mg "_law_one_of" = some (.ref f_L_one_of)
  b_L_one_of : Binds K d_L_one_of ["_law_box_here", "_law_some"] []
  f_L_row : Addr
  d_L_row : FuncData
  F_L_row : Fun K "_law_row" "_law_row" s_L_row f_L_row d_L_row
  g_L_row : mg "_law_row" = some (.ref f_L_row)
  b_L_row : Binds K d_L_row ["_law_box_here"] []
  f_L_text : Addr
  d_L_text : FuncData
  F_L_text : Fun K "_law_text" "_law_text" s_L_text f_L_text d_L_text
  g_L_text : mg "_law_text" = some (.ref f_L_text)
  b_L_text : Binds K d_L_text ["_law_box_here", "_law_many"] []
  f_L_edit : Addr
  d_L_edit : FuncData
  F_L_edit : Fun K "_law_edit" "_law_edit" s_L_edit f_L_edit d_L_edit
  g_L_edit : mg "_law_edit" = some (.ref f_L_edit)
  b_L_edit : Binds K d_L_edit ["_law_box_here", "_law_writing"] []
  f_L_signs : Addr
  d_L_signs : FuncData
  F_L_signs : Fun K "_law_signs" "_law_signs" s_L_signs f_L_signs d_L_signs
  g_L_signs : mg "_law_signs" = some (.ref f_L_signs)
  b_L_signs : Binds K d_L_signs [] []
  f_L_is_edit : Addr
  d_L_is_edit : FuncData
  F_L_is_edit : Fun K "_law_is_edit" "_law_is_edit" s_L_is_edit f_L_is_edit d_L_is_edit
  g_L_is_edit : mg "_law_is_edit" = some (.ref f_L_is_edit)
  b_L_is_edit : Binds K d_L_is_edit ["_law_writing", "_law_matter"] []
  f_L_bent : Addr
  d_L_bent : FuncData
  F_L_bent : Fun K "_law_bent" "_law_bent" s_L_bent f_L_bent d_L_bent
  g_L_bent : mg "_law_bent" = some (.ref f_L_bent)
  b_L_bent : Binds K d_L_bent ["_law_box_here", "_law_writing", "_law_edit_here"] []
  f_L_told_right : Addr
  d_L_told_right : FuncData
  F_L_told_right : Fun K "_law_told_right" "_law_told_right" s_L_told_right f_L_told_right d_L_told_right
  g_L_told_right : mg "_law_told_right" = some (.ref f_L_told_right)
  b_L_told_right : Binds K d_L_told_right ["_law_writing", "_law_matter"] []
  f_L_right : Addr
  d_L_right : FuncData
  F_L_right : Fun K "_law_right" "_law_right" s_L_right f_L_right d_L_right
  g_L_right : mg "_law_right" = some (.ref f_L_right)
  b_L_right : Binds K d_L_right ["_law_box_here"] []
  f_law : Addr
  d_law : FuncData
  F_law : Fun K "law" "law" s_law f_law d_law
  g_law : mg "law" = some (.ref f_law)
  b_law : Binds K d_law ["_law_script"] []
  n_ord : mg "ord" = none
  n_len : mg "len" = none
  n_isinstance : mg "isinstance" = none
  n_tuple : mg "tuple" = none
  n_bool : mg "bool" = none
  n_int : mg "int" = none
  n_all : mg "all" = none
  n_str : mg "str" = none
  n_abs : mg "abs" = none
  n_enumerate : mg "enumerate" = none
  n_list : mg "list" = none
  n_range : mg "range" = none
  n_min : mg "min" = none
  n_repr : mg "repr" = none
  c_NO_SIGN : ∃ t, mg "NO_SIGN" = some (.int 37 t)
structure HasDef (K : PySem.W.Frag) (x : Str) (st : Stmt) (f : Addr) (fd : FuncData) : Prop where
  at_ : PySem.W.nsIn K mainGlobals x = some (some (.ref f))
  fn : Fun K x x st f fd
theorem hasDef_mk {K : PySem.W.Frag} {x : Str} {st : Stmt} {f : Addr} {oc : Value} {od an : Option Addr} {osl : Array (Option Value)} {kV doc pm cdv ct : Value} (a : PySem.W.nsIn K mainGlobals x = some (some (.ref f)))
    (l : K.lookup f = some ⟨oc, od, .func (PySem.W.fnOf x x (defArgs st) (defBody st) (defScope st) .none kV doc pm an cdv ct), osl⟩) (c : PySem.W.codeIn K cdv x = true) (k : PySem.W.keepIn K (.ref f) = true) :
    HasDef K x st f (PySem.W.fnOf x x (defArgs st) (defBody st) (defScope st) .none kV doc pm an cdv ct) := ⟨a, fun_mk l c k⟩
theorem bd_is_sign {K : PySem.W.Frag} {f : Addr} {fd : FuncData} (F : Fun K "is_sign" "is_sign" s_is_sign f fd) : Binds K fd ["sign"] [] := F.binds fun _ _ _ _ _ _ us hl => match us, hl with | [_], _ => rfl
theorem bd_is_edit {K : PySem.W.Frag} {f : Addr} {fd : FuncData} (F : Fun K "is_edit" "is_edit" s_is_edit f fd) : Binds K fd ["text", "thing"] [] := F.binds fun _ _ _ _ _ _ us hl => match us, hl with | [_, _], _ => rfl
theorem bd_is_count {K : PySem.W.Frag} {f : Addr} {fd : FuncData} (F : Fun K "is_count" "is_count" s_is_count f fd) : Binds K fd ["thing"] [] := F.binds fun _ _ _ _ _ _ us hl => match us, hl with | [_], _ => rfl
theorem bd_is_put {K : PySem.W.Frag} {f : Addr} {fd : FuncData} (F : Fun K "is_put" "is_put" s_is_put f fd) : Binds K fd ["thing"] [] := F.binds fun _ _ _ _ _ _ us hl => match us, hl with | [_], _ => rfl
theorem bd_L_box {K : PySem.W.Frag} {f : Addr} {fd : FuncData} (F : Fun K "_law_box" "_law_box" s_L_box f fd) : Binds K fd ["_law_cells_here", "_law_k"] [] := F.binds fun _ _ _ _ _ _ us hl => match us, hl with | [_, _], _ => rfl
theorem bd_L_take {K : PySem.W.Frag} {f : Addr} {fd : FuncData} (F : Fun K "_law_take" "_law_take" s_L_take f fd) : Binds K fd ["_law_box_here", "_law_many"] [] := F.binds fun _ _ _ _ _ _ us hl => match us, hl with | [_, _], _ => rfl
theorem bd_L_cells {K : PySem.W.Frag} {f : Addr} {fd : FuncData} (F : Fun K "_law_cells" "_law_cells" s_L_cells f fd) : Binds K fd ["_law_script", "_law_utmost"] [] := F.binds fun _ _ _ _ _ _ us hl => match us, hl with | [_, _], _ => rfl
theorem bd_L_one_of {K : PySem.W.Frag} {f : Addr} {fd : FuncData} (F : Fun K "_law_one_of" "_law_one_of" s_L_one_of f fd) : Binds K fd ["_law_box_here", "_law_some"] [] := F.binds fun _ _ _ _ _ _ us hl => match us, hl with | [_, _], _ => rfl
theorem bd_L_row {K : PySem.W.Frag} {f : Addr} {fd : FuncData} (F : Fun K "_law_row" "_law_row" s_L_row f fd) : Binds K fd ["_law_box_here"] [] := F.binds fun _ _ _ _ _ _ us hl => match us, hl with | [_], _ => rfl
theorem bd_L_text {K : PySem.W.Frag} {f : Addr} {fd : FuncData} (F : Fun K "_law_text" "_law_text" s_L_text f fd) : Binds K fd ["_law_box_here", "_law_many"] [] := F.binds fun _ _ _ _ _ _ us hl => match us, hl with | [_, _], _ => rfl
theorem bd_L_edit {K : PySem.W.Frag} {f : Addr} {fd : FuncData} (F : Fun K "_law_edit" "_law_edit" s_L_edit f fd) : Binds K fd ["_law_box_here", "_law_writing"] [] := F.binds fun _ _ _ _ _ _ us hl => match us, hl with | [_, _], _ => rfl
theorem bd_L_signs {K : PySem.W.Frag} {f : Addr} {fd : FuncData} (F : Fun K "_law_signs" "_law_signs" s_L_signs f fd) : Binds K fd [] [] := F.binds fun _ _ _ _ _ _ us hl => match us, hl with | [], _ => rfl
theorem bd_L_is_edit {K : PySem.W.Frag} {f : Addr} {fd : FuncData} (F : Fun K "_law_is_edit" "_law_is_edit" s_L_is_edit f fd) : Binds K fd ["_law_writing", "_law_matter"] [] := F.binds fun _ _ _ _ _ _ us hl => match us, hl with | [_, _], _ => rfl
theorem bd_L_bent {K : PySem.W.Frag} {f : Addr} {fd : FuncData} (F : Fun K "_law_bent" "_law_bent" s_L_bent f fd) : Binds K fd ["_law_box_here", "_law_writing", "_law_edit_here"] [] := F.binds fun _ _ _ _ _ _ us hl => match us, hl with | [_, _, _], _ => rfl
theorem bd_L_told_right {K : PySem.W.Frag} {f : Addr} {fd : FuncData} (F : Fun K "_law_told_right" "_law_told_right" s_L_told_right f fd) : Binds K fd ["_law_writing", "_law_matter"] [] := F.binds fun _ _ _ _ _ _ us hl => match us, hl with | [_, _], _ => rfl
theorem bd_L_right {K : PySem.W.Frag} {f : Addr} {fd : FuncData} (F : Fun K "_law_right" "_law_right" s_L_right f fd) : Binds K fd ["_law_box_here"] [] := F.binds fun _ _ _ _ _ _ us hl => match us, hl with | [_], _ => rfl
theorem bd_law {K : PySem.W.Frag} {f : Addr} {fd : FuncData} (F : Fun K "law" "law" s_law f fd) : Binds K fd ["_law_script"] [] := F.binds fun _ _ _ _ _ _ us hl => match us, hl with | [_], _ => rfl
def txt_mk {K : PySem.W.Frag} {h : Heap} {mg : Str → Option Value} (X : K.In h) (G : h.Ns mainGlobals mg)
    {f_is_sign : Addr} {d_is_sign : FuncData} (h_is_sign : HasDef K "is_sign" s_is_sign f_is_sign d_is_sign) {f_is_edit : Addr} {d_is_edit : FuncData} (h_is_edit : HasDef K "is_edit" s_is_edit f_is_edit d_is_edit) {f_is_count : Addr} {d_is_count : FuncData} (h_is_count : HasDef K "is_count" s_is_count f_is_count d_is_count) {f_is_put : Addr} {d_is_put : FuncData} (h_is_put : HasDef K "is_put" s_is_put f_is_put d_is_put) {f_L_box : Addr} {d_L_box : FuncData} (h_L_box : HasDef K "_law_box" s_L_box f_L_box d_L_box) {f_L_take : Addr} {d_L_take : FuncData} (h_L_take : HasDef K "_law_take" s_L_take f_L_take d_L_take) {f_L_cells : Addr} {d_L_cells : FuncData} (h_L_cells : HasDef K "_law_cells" s_L_cells f_L_cells d_L_cells) {f_L_one_of : Addr} {d_L_one_of : FuncData} (h_L_one_of : HasDef K "_law_one_of" s_L_one_of f_L_one_of d_L_one_of) {f_L_row : Addr} {d_L_row : FuncData} (h_L_row : HasDef K "_law_row" s_L_row f_L_row d_L_row) {f_L_text : Addr} {d_L_text : FuncData} (h_L_text : HasDef K "_law_text" s_L_text f_L_text d_L_text) {f_L_edit : Addr} {d_L_edit : FuncData} (h_L_edit : HasDef K "_law_edit" s_L_edit f_L_edit d_L_edit) {f_L_signs : Addr} {d_L_signs : FuncData} (h_L_signs : HasDef K "_law_signs" s_L_signs f_L_signs d_L_signs) {f_L_is_edit : Addr} {d_L_is_edit : FuncData} (h_L_is_edit : HasDef K "_law_is_edit" s_L_is_edit f_L_is_edit d_L_is_edit) {f_L_bent : Addr} {d_L_bent : FuncData} (h_L_bent : HasDef K "_law_bent" s_L_bent f_L_bent d_L_bent) {f_L_told_right : Addr} {d_L_told_right : FuncData} (h_L_told_right : HasDef K "_law_told_right" s_L_told_right f_L_told_right d_L_told_right) {f_L_right : Addr} {d_L_right : FuncData} (h_L_right : HasDef K "_law_right" s_L_right f_L_right d_L_right) {f_law : Addr} {d_law : FuncData} (h_law : HasDef K "law" s_law f_law d_law)
    (z_ord : PySem.W.nsIn K mainGlobals "ord" = some none) (z_len : PySem.W.nsIn K mainGlobals "len" = some none) (z_isinstance : PySem.W.nsIn K mainGlobals "isinstance" = some none) (z_tuple : PySem.W.nsIn K mainGlobals "tuple" = some none) (z_bool : PySem.W.nsIn K mainGlobals "bool" = some none) (z_int : PySem.W.nsIn K mainGlobals "int" = some none) (z_all : PySem.W.nsIn K mainGlobals "all" = some none) (z_str : PySem.W.nsIn K mainGlobals "str" = some none) (z_abs : PySem.W.nsIn K mainGlobals "abs" = some none) (z_enumerate : PySem.W.nsIn K mainGlobals "enumerate" = some none) (z_list : PySem.W.nsIn K mainGlobals "list" = some none) (z_range : PySem.W.nsIn K mainGlobals "range" = some none) (z_min : PySem.W.nsIn K mainGlobals "min" = some none) (z_repr : PySem.W.nsIn K mainGlobals "repr" = some none)
    {t_NO_SIGN : Tok} (z_NO_SIGN : PySem.W.nsIn K mainGlobals "NO_SIGN" = some (some (.int 37 t_NO_SIGN))) : Facts K mg where
  f_is_sign := f_is_sign
  d_is_sign := d_is_sign
  F_is_sign := h_is_sign.fn
  g_is_sign := PySem.W.mg_of X G h_is_sign.at_
  b_is_sign := bd_is_sign h_is_sign.fn
  f_is_edit := f_is_edit
  d_is_edit := d_is_edit
  F_is_edit := h_is_edit.fn
  g_is_edit := PySem.W.mg_of X G h_is_edit.at_
  b_is_edit := bd_is_edit h_is_edit.fn
  f_is_count := f_is_count
  d_is_count := d_is_count
  F_is_count := h_is_count.fn
  g_is_count := PySem.W.mg_of X G h_is_count.at_
  b_is_count := bd_is_count h_is_count.fn
  f_is_put := f_is_put
  d_is_put := d_is_put
  F_is_put := h_is_put.fn
  g_is_put := PySem.W.mg_of X G h_is_put.at_
  b_is_put := bd_is_put h_is_put.fn
  f_L_box := f_L_box
  d_L_box := d_L_box
  F_L_box := h_L_box.fn
  g_L_box := PySem.W.mg_of X G h_L_box.at_
  b_L_box := bd_L_box h_L_box.fn
  f_L_take := f_L_take
  d_L_take := d_L_take
  F_L_take := h_L_take.fn
  g_L_take := PySem.W.mg_of X G h_L_take.at_
  b_L_take := bd_L_take h_L_take.fn
  f_L_cells := f_L_cells
  d_L_cells := d_L_cells
  F_L_cells := h_L_cells.fn
  g_L_cells := PySem.W.mg_of X G h_L_cells.at_
  b_L_cells := bd_L_cells h_L_cells.fn
  f_L_one_of := f_L_one_of
  d_L_one_of := d_L_one_of
  F_L_one_of := h_L_one_of.fn
  g_L_one_of := PySem.W.mg_of X G h_L_one_of.at_
  b_L_one_of := bd_L_one_of h_L_one_of.fn
  f_L_row := f_L_row
  d_L_row := d_L_row
  F_L_row := h_L_row.fn
  g_L_row := PySem.W.mg_of X G h_L_row.at_
  b_L_row := bd_L_row h_L_row.fn
  f_L_text := f_L_text
  d_L_text := d_L_text
  F_L_text := h_L_text.fn
  g_L_text := PySem.W.mg_of X G h_L_text.at_
  b_L_text := bd_L_text h_L_text.fn
  f_L_edit := f_L_edit
  d_L_edit := d_L_edit
  F_L_edit := h_L_edit.fn
  g_L_edit := PySem.W.mg_of X G h_L_edit.at_
  b_L_edit := bd_L_edit h_L_edit.fn
  f_L_signs := f_L_signs
  d_L_signs := d_L_signs
  F_L_signs := h_L_signs.fn
  g_L_signs := PySem.W.mg_of X G h_L_signs.at_
  b_L_signs := bd_L_signs h_L_signs.fn
  f_L_is_edit := f_L_is_edit
  d_L_is_edit := d_L_is_edit
  F_L_is_edit := h_L_is_edit.fn
  g_L_is_edit := PySem.W.mg_of X G h_L_is_edit.at_
  b_L_is_edit := bd_L_is_edit h_L_is_edit.fn
  f_L_bent := f_L_bent
  d_L_bent := d_L_bent
  F_L_bent := h_L_bent.fn
  g_L_bent := PySem.W.mg_of X G h_L_bent.at_
  b_L_bent := bd_L_bent h_L_bent.fn
  f_L_told_right := f_L_told_right
  d_L_told_right := d_L_told_right
  F_L_told_right := h_L_told_right.fn
  g_L_told_right := PySem.W.mg_of X G h_L_told_right.at_
  b_L_told_right := bd_L_told_right h_L_told_right.fn
  f_L_right := f_L_right
  d_L_right := d_L_right
  F_L_right := h_L_right.fn
  g_L_right := PySem.W.mg_of X G h_L_right.at_
  b_L_right := bd_L_right h_L_right.fn
  f_law := f_law
  d_law := d_law
  F_law := h_law.fn
  g_law := PySem.W.mg_of X G h_law.at_
  b_law := bd_law h_law.fn
  n_ord := PySem.W.mg_none_of X G z_ord
  n_len := PySem.W.mg_none_of X G z_len
  n_isinstance := PySem.W.mg_none_of X G z_isinstance
  n_tuple := PySem.W.mg_none_of X G z_tuple
  n_bool := PySem.W.mg_none_of X G z_bool
  n_int := PySem.W.mg_none_of X G z_int
  n_all := PySem.W.mg_none_of X G z_all
  n_str := PySem.W.mg_none_of X G z_str
  n_abs := PySem.W.mg_none_of X G z_abs
  n_enumerate := PySem.W.mg_none_of X G z_enumerate
  n_list := PySem.W.mg_none_of X G z_list
  n_range := PySem.W.mg_none_of X G z_range
  n_min := PySem.W.mg_none_of X G z_min
  n_repr := PySem.W.mg_none_of X G z_repr
  c_NO_SIGN := ⟨t_NO_SIGN, PySem.W.mg_of X G z_NO_SIGN⟩
theorem kb_is_edit_0_thing_text {K : PySem.W.Frag} {mg : Str → Option Value} (T : Facts K mg) : KBn K T.d_is_edit ["text", "thing"] 0 ["thing", "text"] (fun us ws => us ++ pick [1, 0] ws) (fun vs zs => vs ++ pick [1, 0] zs) :=
  kbn_pick T.F_is_edit [1, 0] fun _ _ _ _ _ _ us ws h1 h2 => match us, ws, h1, h2 with | [], [_, _], _, _ => rfl
end K02

set_option maxHeartbeats 4000000
namespace K02
open PySem PySem.Spec PyProof.Rows L2 Gx Lx
local macro_rules | `(tactic| walk_at "rd") => `(tactic| simp only [tRet, tAndV, tOrV, tNotV, tChain, tOp, tUn, tCB, tCons, tNil, tVar, tC, tGo, tTup, tLst, tSl, tM1, tM0, tSeq, tAsg, gName, tIfS, tNext, rNe, rEq, rI, rI0, rU, tB, tTest, tNot, tAnd, tOr, tIf, L2.start, wipe, List.map_cons, List.map_nil, List.cons_append, List.nil_append, List.replicate_succ, List.replicate_zero, List.set_cons_zero, List.set_cons_succ, List.getElem?_cons_zero, List.getElem?_cons_succ, List.length_cons, List.length_nil, Option.some.injEq, exists_eq_left', exists_eq_left, V.str.injEq, V.bl.injEq, V.int.injEq, V.ref.injEq, List.cons.injEq, and_true, true_and, exists_and_left, Bool.false_eq_true, if_false, if_true, if_pos])
variable {P : Program} {w : World} {K : PySem.W.Frag} {mg : Str → Option Value} {base : Heap}
theorem lt1 (a b : Nat) : ([a] < [b]) ↔ a < b := by
  constructor
  · intro h
    cases h with
    | rel h => exact h
    | cons h => cases h
  · exact fun h => List.Lex.rel h
def ok1 (c : Nat) : Bool := (!decide (c < 32) && !decide (126 < c)) && !decide (c = 37)
def sp_is_sign : Sp := fun vs H Q _ => ∃ c : Nat, vs = [.str (SX.S [c])] ∧ Q (.bl (ok1 c)) H
theorem ok_is_sign (T : Facts K mg) : FnG P w K mg base 1 T.f_is_sign T.d_is_sign ["sign"] sp_is_sign := by
  obtain ⟨tN, c_NO_SIGN⟩ := T.c_NO_SIGN
  refine fnG_of T.F_is_sign sc_is_sign (fun vs H Q E h => ?_) (fun cdv A outer s H vs Q hG hr h => ?_)
  · obtain ⟨c, rfl, _⟩ := h; rfl
  · obtain ⟨c, rfl, q⟩ := h
    refine ⟨_, (pss_one (ps_ret (pe_and (pe_chain op_le_str op_le_str pe_str (pv 0) pe_str) (pe_one (pe_cmpR op_ne (pe_callB call_ord (by rfl) T.n_ord (by decide +kernel) (pa_cons (pv 0) pa_nil)) (pe_glob (v := .int 37) rfl c_NO_SIGN ⟨_, rfl⟩) (nomark _)))))), ?_⟩
    have e1 : decide ((SX.S [c]).cps.toList < (" " : Str).cps.toList) = decide (c < 32) := decide_eq_decide.mpr (lt1 c 32)
    have e2 : decide (("~" : Str).cps.toList < (SX.S [c]).cps.toList) = decide (126 < c) := decide_eq_decide.mpr (lt1 126 c)
    walk_at "rd"
    unfold ok1 at q
    by_cases h1 : c < 32
    · simpa [e1, h1] using q
    · by_cases h2 : 126 < c
      · simpa [e1, e2, h1, h2] using q
      · have e3 : decide (V.int ((c : Nat) : Int) = V.int 37) = decide (c = 37) := decide_eq_decide.mpr ⟨fun h => by injection h with h; omega, fun h => by rw [h]; rfl⟩
        rw [e1, e2]
        simp only [h1, h2, decide_false, Bool.not_false, if_true, Bool.true_and] at q ⊢
        refine ⟨rfl, rfl, ?_⟩
        have e4 : decide (((#[c].getD 0 0 : Nat) : Int) = 37) = decide (c = 37) := decide_eq_decide.mpr (by show ((c : Nat) : Int) = 37 ↔ c = 37; omega)
        rw [e4]
        exact q
def rowOk (l : List Nat) : Bool := decide ((l.length : Int) ≤ 60) && l.all ok1
def signsL : List Nat := (" !\"#$&'()*+,-./0123456789:;<=>?@ABCDEFGHIJKLMNOPQRSTUVWXYZ[\\]^_`abcdefghijklmnopqrstuvwxyz{|}~" : Str).cps.toList
def sp_signs : Sp := fun vs H Q _ => vs = [] ∧ Q (.str (SX.S signsL)) H
theorem ok_L_signs (T : Facts K mg) : FnG P w K mg base 1 T.f_L_signs T.d_L_signs [] sp_signs := by
  refine fnG_of T.F_L_signs sc_L_signs (fun vs H Q E h => ?_) (fun cdv A outer s H vs Q hG hr h => ?_)
  · obtain ⟨rfl, _⟩ := h; rfl
  · obtain ⟨rfl, q⟩ := h
    refine ⟨_, (pss_cons (ps_set (i := 0) sc_L_signs.nd rfl (.inl rfl) pe_str)
        (pss_one (ps_ret (pv 0)))), ?_⟩
    refine ⟨_, rfl, ?_⟩
    unfold signsL at q
    rw [SX.S_tl] at q
    exact q
theorem signs_ok : ∀ c : Nat, decide (c ∈ signsL) = ok1 c := by
  have h1 : ∀ c, c < 128 → decide (c ∈ signsL) = ok1 c := by decide +kernel
  have h2 : ∀ c ∈ signsL, c < 128 := by decide +kernel
  intro c
  by_cases h : c < 128
  · exact h1 c h
  · rw [decide_eq_false fun hc => h (h2 c hc)]
    unfold ok1
    rw [decide_eq_true (show 126 < c by omega)]
    simp
end K02

set_option maxHeartbeats 4000000
namespace K02
open PySem PySem.Spec PyProof.Rows L2 Gx Lx
local macro_rules | `(tactic| walk_at "rd") => `(tactic| simp only [tRet, tAndV, tOrV, tNotV, tChain, tOp, tUn, tCB, tCons, tNil, tVar, tC, tGo, tTup, tLst, tSl, tM1, tM0, tSeq, tAsg, gName, tIfS, tNext, rNe, rEq, rI, rI0, rU, tB, tTest, tNot, tAnd, tOr, tIf, L2.start, wipe, List.map_cons, List.map_nil, List.cons_append, List.nil_append, List.replicate_succ, List.replicate_zero, List.set_cons_zero, List.set_cons_succ, List.getElem?_cons_zero, List.getElem?_cons_succ, List.length_cons, List.length_nil, Option.some.injEq, exists_eq_left', exists_eq_left, V.str.injEq, V.bl.injEq, V.int.injEq, V.ref.injEq, List.cons.injEq, and_true, true_and, exists_and_left, Bool.false_eq_true, if_false, if_true, if_pos])
variable {P : Program} {w : World} {K : PySem.W.Frag} {mg : Str → Option Value} {base : Heap}
theorem ok_L_take (T : Facts K mg) : FnG P w K mg base 1 T.f_L_take T.d_L_take ["_law_box_here", "_law_many"] sp_take := by
  refine fnG_of T.F_L_take sc_L_take (fun vs H Q E h => ?_) (fun cdv A outer s H vs Q hG hr h => ?_)
  · obtain ⟨c, _, rfl, _⟩ := h; rfl
  · obtain ⟨b, n, rfl, ⟨i, j, k, hb⟩, h0, h1, q⟩ := h
    refine ⟨_, (pss_cons (ps_if (pt_cmpR op_gt (pe_ix ix_list (pv 0) pe_int (fun _ _ => rfl)) pe_int (nomark _)) (pss_cons (ps_set (i := 2) sc_L_take.nd rfl (.inl rfl) (pe_op op_mod (pe_ix ix_list (pv 0) pe_int (fun _ _ => rfl)) (pv 1)))
        (pss_cons (ps_asg (pe_op op_fdiv (pe_ix ix_list (pv 0) pe_int (fun _ _ => rfl)) (pv 1)) (pg_sub (pv 0) pe_int set_list))
        (pss_one (ps_ret (pv 2))))) pss_nil)
        (pss_cons (ps_asg (pe_op op_add (pe_ix ix_list (pv 0) pe_int (fun _ _ => rfl)) pe_int) (pg_sub (pv 0) pe_int set_list))
        (pss_cons (ps_set (i := 3) sc_L_take.nd rfl (.inl rfl) (pe_op op_mod (pe_op op_add (pe_ix ix_list (pv 0) pe_int (fun _ _ => rfl)) (pe_op op_mul pe_int (pe_ix ix_list (pv 0) pe_int (fun _ _ => rfl)))) pe_int))
        (pss_cons (ps_set (i := 3) sc_L_take.nd rfl (.inl rfl) (pe_op op_mod (pe_op op_add (pe_op op_add (pe_op op_mul (pv 3) (pv 3)) (pe_op op_mul pe_int (pe_ix ix_list (pv 0) pe_int (fun _ _ => rfl)))) pe_int) pe_int))
        (pss_cons (ps_set (i := 3) sc_L_take.nd rfl (.inl rfl) (pe_op op_mod (pe_op op_add (pe_op op_mul (pv 3) (pe_op op_add (pe_op op_fdiv (pv 3) pe_int) pe_int)) (pe_ix ix_list (pv 0) pe_int (fun _ _ => rfl))) pe_int))
        (pss_one (ps_ret (pe_op op_mod (pe_op op_fdiv (pv 3) pe_int) (pv 1))))))))), ?_⟩
    have at0 : ∀ a b' c : V, atI [a, b', c] 0 = some a := fun a b' c => atI_nat (j := 0) rfl
    have at1 : ∀ a b' c : V, atI [a, b', c] 1 = some b' := fun a b' c => atI_nat (j := 1) rfl
    have at2 : ∀ a b' c : V, atI [a, b', c] 2 = some c := fun a b' c => atI_nat (j := 2) rfl
    have hS : SqL K H b [.int i, .int j, .int k] := SqL.of hb
    refine ⟨.ref b, rfl, b, _, 0, _, rfl, rfl, hS, at0 _ _ _, _, _, rfl, rfl, _, rfl, ite2 (fun hi => ?_) (fun hi => ?_)⟩
    · have hi' : 0 < i := of_decide_eq_true hi
      refine ⟨.ref b, rfl, b, _, 0, _, rfl, rfl, hS, at0 _ _ _, _, rfl, _, _, rfl, rfl, h0, ?_⟩
      refine ⟨.ref b, rfl, b, _, 0, _, rfl, rfl, hS, at0 _ _ _, _, rfl, _, _, rfl, rfl, ⟨h0, h1⟩, ?_⟩
      refine ⟨.ref b, rfl, b, _, 0, 0, rfl, rfl, hb, rfl, ?_⟩
      refine ⟨_, rfl, q _ _ (Int.emod_nonneg _ (by omega)) (Int.emod_lt_of_pos _ h0) ?_⟩
      exact Drawn.set fun a o _ h => h
    · refine ⟨.ref b, rfl, b, _, 2, _, rfl, rfl, hS, at2 _ _ _, _, _, rfl, rfl, ?_⟩
      refine ⟨.ref b, rfl, b, _, 2, 2, rfl, rfl, hb, rfl, ?_⟩
      have hb2 : upd H b (.lst ([V.int i, .int j, .int k].set 2 (.int (k + 1)))) b = some (.lst [.int i, .int j, .int (k + 1)]) := upd_same
      have hd : ∀ a o, a ≠ b → H a = some o → upd H b (.lst ([V.int i, .int j, .int k].set 2 (.int (k + 1)))) a = some o := fun a o n h => by rw [upd_ne n]; exact h
      generalize upd H b (.lst ([V.int i, .int j, .int k].set 2 (.int (k + 1)))) = H1 at hb2 hd ⊢
      have hS1 : SqL K H1 b [.int i, .int j, .int (k + 1)] := SqL.of hb2
      -- mixed
      refine ⟨.ref b, rfl, b, _, 1, _, rfl, rfl, hS1, at1 _ _ _, .ref b, rfl, b, _, 2, _, rfl, rfl, hS1, at2 _ _ _, _, _, rfl, rfl, .inl (by decide), _, _, rfl, rfl, _, _, rfl, rfl, (by decide : (0 : Int) < 2305843009213693951), ?_⟩
      have hm1 := Int.emod_nonneg (j + 1442695040888963407 * (k + 1)) (show (2305843009213693951 : Int) ≠ 0 by decide)
      have hm2 := Int.emod_lt_of_pos (j + 1442695040888963407 * (k + 1)) (show (0 : Int) < 2305843009213693951 by decide)
      dsimp only
      generalize (j + 1442695040888963407 * (k + 1)) % 2305843009213693951 = m at hm1 hm2
      refine ⟨.int m, rfl, .int m, rfl, _, _, rfl, rfl, .inl (by omega), .ref b, rfl, b, _, 2, _, rfl, rfl, hS1, at2 _ _ _, _, _, rfl, rfl, .inl (by decide), _, _, rfl, rfl, _, _, rfl, rfl, _, _, rfl, rfl, (by decide : (0 : Int) < 2305843009213693921), ?_⟩
      have hm3 := Int.emod_nonneg (m * m + 39373 * (k + 1) + 7) (show (2305843009213693921 : Int) ≠ 0 by decide)
      have hm4 := Int.emod_lt_of_pos (m * m + 39373 * (k + 1) + 7) (show (0 : Int) < 2305843009213693921 by decide)
      dsimp only
      generalize (m * m + 39373 * (k + 1) + 7) % 2305843009213693921 = m' at hm3 hm4
      refine ⟨.int m', rfl, .int m', rfl, _, _, rfl, rfl, ⟨by decide, by decide⟩, _, _, rfl, rfl, _, _, rfl, rfl, .inl (by omega), .ref b, rfl, b, _, 2, _, rfl, rfl, hS1, at2 _ _ _, _, _, rfl, rfl, _, _, rfl, rfl, (by decide : (0 : Int) < 2305843009213693907), ?_⟩
      dsimp only
      generalize (m' * (m' / 65536 + 3) + (k + 1)) % 2305843009213693907 = m''
      refine ⟨.int m'', rfl, _, _, rfl, rfl, ⟨by decide, by decide⟩, .int n, rfl, _, _, rfl, rfl, h0, q _ _ (Int.emod_nonneg _ (by omega)) (Int.emod_lt_of_pos _ h0) ⟨⟨_, _, _, hb2⟩, hd⟩⟩
/-! ### one of some -/
def sp_oneG : Sp := fun vs H Q _ => ∃ (b : Addr) (v : V) (xs : List V), vs = [.ref b, v] ∧ IsBox H b ∧ xs ≠ [] ∧ xs.length ≤ 100000 ∧
  ((∃ a, v = .ref a ∧ a ≠ b ∧ H a = some (.lst xs)) ∨ ∃ x : Str, v = .str x ∧ xs = x.cps.toList.map fun c => .str (SX.S [c])) ∧ ∀ y H', y ∈ xs → Drawn b H H' → Q y H'
theorem oneG_of {vs : List V} {H : Hp} {Q : VK} {E : XK} (h : sp_one_of vs H Q E) : sp_oneG vs H Q E := by
  obtain ⟨b, v, ls, rfl, hb, hne, hlen, hv, q⟩ := h
  refine ⟨b, v, txts ls, rfl, hb, ?_, by unfold txts; rw [List.length_map]; omega, ?_, fun y H' hy d => ?_⟩
  · intro e
    exact hne (List.map_eq_nil_iff.mp e)
  · rcases hv with ⟨a, rfl, ha⟩ | ⟨x, rfl, hx⟩
    · refine .inl ⟨a, rfl, fun e => ?_, ha⟩
      subst e
      obtain ⟨i, j, k, z⟩ := hb
      rw [ha] at z
      cases ls with
      | nil => exact hne rfl
      | cons l r => cases z
    · exact .inr ⟨x, rfl, by rw [hx]; unfold txts; rw [List.map_map]; rfl⟩
  · obtain ⟨l, hl, rfl⟩ := List.mem_map.mp hy
    exact q l H' hl d
theorem ok_L_one_of (T : Facts K mg) : FnG P w K mg base 2 T.f_L_one_of T.d_L_one_of ["_law_box_here", "_law_some"] sp_oneG := by
  refine fnG_of T.F_L_one_of sc_L_one_of (fun vs H Q E h => ?_) (fun cdv A outer s H vs Q hG hr h => ?_)
  · obtain ⟨c, _, _, rfl, _⟩ := h; rfl
  · obtain ⟨b, v, ls, rfl, hb, hne, hlen, hv, q⟩ := h
    refine ⟨_, (pss_one (ps_ret (pe_ix ix_seq (pv 1) (pe_go (ok_L_take T) hG (hr.mono (by decide)) (by rfl) T.g_L_take T.F_L_take.kp T.b_L_take (pa_cons (pv 0) (pa_cons (pe_callB call_len (by rfl) T.n_len PySem.boot_len (pa_cons (pv 1) pa_nil)) pa_nil))) (fun _ _ => rfl)))), ?_⟩
    have hpos : 0 < ls.length := List.length_pos_iff.mpr hne
    rcases hv with ⟨a, rfl, hab, ha⟩ | ⟨x, rfl, hx⟩
    · refine ⟨_, rfl, _, rfl, _, rfl, _, ls.length, rfl, .inl ⟨_, SqL.of ha, rfl⟩, b, _, rfl, hb, by omega, by omega, fun z H' h0 h1 hd => ?_⟩
      have hz : ls[z.toNat]? = some (ls[z.toNat]'(by omega)) := List.getElem?_eq_getElem (by omega)
      refine .inl ⟨a, ls, z, _, rfl, rfl, SqL.of (hd.2 _ _ hab ha), at_of (j := z.toNat) (by omega) hz, q _ _ (List.getElem_mem _) hd⟩
    · have hline : (100000 : Nat) ≤ sizeLine := by decide
      have hxl : x.length = ls.length := by rw [hx, List.length_map, Array.length_toList]; rfl
      refine ⟨_, rfl, _, rfl, _, rfl, _, ls.length, rfl, ⟨by omega, hxl.symm⟩, b, _, rfl, hb, by omega, by omega, fun z H' h0 h1 hd => ?_⟩
      have hz2 : z.toNat < x.cps.toList.length := by rw [Array.length_toList]; show z.toNat < x.length; omega
      obtain ⟨c, hz⟩ : ∃ c, x.cps.toList[z.toNat]? = some c := ⟨_, List.getElem?_eq_getElem hz2⟩
      have ez := atI_nat (j := z.toNat) hz
      rw [show ((z.toNat : Nat) : Int) = z by omega] at ez
      exact .inr (.inr ⟨x, z, c, rfl, rfl, by omega, ez, q _ _ (by rw [hx]; exact List.mem_map.mpr ⟨_, List.mem_of_getElem? hz, rfl⟩) hd⟩)
/-! ### the box, the cells -/
def sp_box (K : PySem.W.Frag) : Sp := fun vs H Q _ => ∃ (a : Addr) (cs : List Int) (k : Nat), vs = [.ref a, .int (k : Int)] ∧ SqL K H a (cs.map V.int) ∧ k < cs.length ∧ cs.length ≤ 1000 ∧ ∀ p H', H p = none → Same H H' → IsBox H' p → Q (.ref p) H'
theorem ok_L_box (T : Facts K mg) : FnG P w K mg base 1 T.f_L_box T.d_L_box ["_law_cells_here", "_law_k"] (sp_box K) := by
  refine fnG_of T.F_L_box sc_L_box (fun vs H Q E h => ?_) (fun cdv A outer s H vs Q hG hr h => ?_)
  · obtain ⟨c, _, _, rfl, _⟩ := h; rfl
  · obtain ⟨a, cs, k, rfl, hS, hk, hz, q⟩ := h
    refine ⟨_, (pss_cons (ps_set (i := 2) sc_L_box.nd rfl (.inl rfl) (pe_ix ix_list (pv 0) (pv 1) (fun _ _ => rfl)))
        (pss_one (ps_ret (pe_lst (pa_cons (pe_op op_mul (pe_callB call_abs (by rfl) T.n_abs (by decide +kernel) (pa_cons (pv 2) pa_nil)) (pe_callTy call_int1 (by rfl) T.n_int (by decide +kernel) (pa_cons (pe_cmpR op_ge (pe_callB call_abs (by rfl) T.n_abs (by decide +kernel) (pa_cons (pv 2) pa_nil)) (pe_op op_pow pe_int pe_int) (nomark _)) pa_nil))) (pa_cons (pe_op op_add (pe_op op_add (pe_op op_mod (pv 2) pe_int) (pe_op op_mul pe_int (pv 1))) pe_int) (pa_cons pe_int pa_nil))))))), ?_⟩
    have hc : (cs.map V.int)[k]? = some (.int cs[k]) := by rw [List.getElem?_map, List.getElem?_eq_getElem hk]; rfl
    refine ⟨_, rfl, _, rfl, a, _, _, _, rfl, rfl, hS, atI_nat hc, ?_⟩
    generalize cs[k] = c
    refine ⟨.int c, rfl, c, rfl, .int c, rfl, c, rfl, 10, 18, rfl, rfl, ⟨by decide, by decide, by decide⟩, _, _, rfl, rfl, .inr ⟨_, rfl, ?_⟩⟩
    refine ⟨_, _, rfl, rfl, .inr ?_, .int c, rfl, c, _, rfl, rfl, (by decide : (0 : Int) < 2305843009213693951), .int k, rfl, _, _, rfl, rfl, .inl (by decide), _, _, rfl, rfl, _, _, rfl, rfl, ?_⟩
    · exact (by decide : ∀ d : Bool, -(2 : Int) ^ 64 < (if d = true then (1 : Int) else 0) ∧ (if d = true then (1 : Int) else 0) < 2 ^ 64) _
    · refine ⟨by show 3 ≤ sizeLine; decide, fun p hp => q p _ hp (same_new hp) ⟨_, _, _, upd_same⟩⟩
end K02

set_option maxHeartbeats 4000000
namespace K02
open PySem PySem.Spec PyProof.Rows L2 Gx Lx
local macro_rules | `(tactic| walk_at "rd") => `(tactic| simp only [tRet, tAndV, tOrV, tNotV, tChain, tOp, tUn, tCB, tCons, tNil, tVar, tC, tGo, tTup, tLst, tSl, tM1, tM0, tSeq, tAsg, gName, tIfS, tNext, rNe, rEq, rI, rI0, rU, tB, tTest, tNot, tAnd, tOr, tIf, L2.start, wipe, List.map_cons, List.map_nil, List.cons_append, List.nil_append, List.replicate_succ, List.replicate_zero, List.set_cons_zero, List.set_cons_succ, List.getElem?_cons_zero, List.getElem?_cons_succ, List.length_cons, List.length_nil, Option.some.injEq, exists_eq_left', exists_eq_left, V.str.injEq, V.bl.injEq, V.int.injEq, V.ref.injEq, List.cons.injEq, and_true, true_and, exists_and_left, Bool.false_eq_true, if_false, if_true, if_pos])
variable {P : Program} {w : World} {K : PySem.W.Frag} {mg : Str → Option Value} {base : Heap}
def sp_cells (K : PySem.W.Frag) : Sp := fun vs H Q _ => ∃ (a : Addr) (ns : List Int) (u : Nat), vs = [.ref a, .int (u : Int)] ∧ SqL K H a (ns.map V.int) ∧ ns.length ≤ 63 ∧ 0 < u ∧ u ≤ 63 ∧
  ∀ (p : Addr) (cs : List Int) (H' : Hp), 0 < cs.length → cs.length ≤ u → H p = none → Same H H' → H' p = some (.lst (cs.map V.int)) → Q (.ref p) H'
theorem or_cells {ta : TE} {σ : L2.St} {H : Hp} {Q0 : VK} {ns : List Int} {u : Nat} (hu0 : 0 < u)
    (hta : ∀ R : VK, (∀ l H1, H l = none → Same H H1 → H1 l = some (.lst ((ns.take u).map V.int)) → R (.ref l) H1) → ta σ H R)
    (rest : ∀ p H1 (cs : List Int), H p = none → Same H H1 → H1 p = some (.lst (cs.map V.int)) → 0 < cs.length → (u < ns.length → cs.length = u) → cs.length ≤ u → Q0 (.ref p) H1) :
    tOrT K ta (tLst (tCons (tC (.int 0)) tNil)) σ H Q0 := by
  refine hta _ fun l H1 hl s1 e1 => ⟨_, .inl ⟨_, SqL.of e1, rfl⟩, ite2 (fun h => ?_) (fun h => ?_)⟩
  · exact rest l _ (ns.take u) hl s1 e1 (by cases ns with
      | nil => simp at h
      | cons n r => rw [List.length_take, List.length_cons]; omega) (fun h => by rw [List.length_take]; omega) (by rw [List.length_take]; omega)
  · refine ⟨by show 1 ≤ sizeLine; decide, fun p hp => rest p _ [0] (s1.free hp) (s1.trans (same_new hp)) upd_same (by decide) (fun h2 => ?_) (by show 1 ≤ u; omega)⟩
    exfalso
    apply h
    cases ns with
    | nil => simp at h2
    | cons n r => cases u with
      | zero => omega
      | succ u => rfl
theorem ok_L_cells (T : Facts K mg) : FnG P w K mg base 1 T.f_L_cells T.d_L_cells ["_law_script", "_law_utmost"] (sp_cells K) := by
  refine fnG_of T.F_L_cells sc_L_cells (fun vs H Q E h => ?_) (fun cdv A outer s H vs Q hG hr h => ?_)
  · obtain ⟨c, _, _, rfl, _⟩ := h; rfl
  · obtain ⟨a, ns, u, rfl, hS, hz, hu0, hu, q⟩ := h
    refine ⟨_, (pss_cons (ps_set (i := 2) sc_L_cells.nd rfl (.inl rfl) (pe_orT (pe_callTy call_list_of (by rfl) T.n_list (by decide +kernel) (pa_cons (pe_slice sl_list (pv 0) po_none (po_some (pv 1))) pa_nil)) (pe_one (pe_lst (pa_cons pe_int pa_nil)))))
        (pss_cons (ps_for PassesOwn.never rfl (pi_enum (by rfl) T.n_enumerate (pa_cons (pe_slice sl_list (pv 0) (po_some (pv 1)) (po_some pe_int)) pa_nil)) (pg_tup rfl (pgs_cons (pg_name (i := 3) sc_L_cells.nd rfl (.inl rfl)) (pgs_cons (pg_name (i := 4) sc_L_cells.nd rfl (.inl rfl)) pgs_nil))) (pss_one (ps_asg (pe_op op_add (pe_ix ix_list (pv 2) (pe_op op_mod (pv 3) (pv 1)) (fun _ _ => rfl)) (pe_op op_mul (pv 4) (pe_op op_add (pv 3) pe_int))) (pg_sub (pv 2) (pe_op op_mod (pv 3) (pv 1)) set_list))))
        (pss_one (ps_ret (pv 2))))), ?_⟩
    refine or_cells (K := K) (ns := ns) hu0 (fun R r => ?_) (fun p H1 cs hp s1 e1 h0 h2 h3 => ?_)
    · refine ⟨.ref a, rfl, .int u, rfl, u, rfl, a, _, rfl, hS, fun p1 hp1 => ?_⟩
      rw [cutV_to, ← List.map_take]
      exact ⟨p1, _, rfl, .inl (SqL.of upd_same), fun l hl => r l _ ((same_new hp1).free hl) ((same_new hp1).trans (same_new hl)) upd_same⟩
    · have hS1 := s1.seq hS
      refine ⟨.ref a, rfl, .int u, rfl, u, rfl, 63, rfl, a, _, rfl, hS1, fun sl hsl => ?_⟩
      rw [show (63 : Int) = ((63 : Nat) : Int) from rfl, cutV_mid, ← List.map_take, List.take_of_length_le hz, ← List.map_drop]
      have hne : p ≠ sl := ne_of_none e1 hsl
      refine ⟨sl, _, rfl, SqL.of upd_same, ?_⟩
      refine for_it (walk_enum (K := K) (a := sl) (xs := (ns.drop u).map V.int)) (fun i σ H' => ∃ cs' y3 y4, σ = [some (.ref a), some (.int u), some (.ref p), y3, y4] ∧ cs'.length = cs.length ∧ H' p = some (.lst (cs'.map V.int)) ∧ H' sl = some (.lst ((ns.drop u).map V.int)) ∧ Same H H')
        ⟨cs, none, none, rfl, rfl, ?_, upd_same, s1.trans (same_new hsl)⟩ (fun i σ H' _ hP => ?_) (fun i v σ H2 H3 hi hP hy => ?_) (fun σ H2 hP => ?_)
      · rw [upd_ne hne]; exact e1
      · obtain ⟨_, _, _, _, _, _, e, _⟩ := hP; exact SqL.of e
      · obtain ⟨cs', y3, y4, rfl, el, ep, es, sm⟩ := hP
        obtain ⟨t, x, y, rfl, ht, rfl, e3, e4⟩ := hy
        have hi' : i < (ns.drop u).length := by rw [List.length_map] at hi; exact hi
        have ex : x = .int (i : Nat) := (Option.some.inj e3).symm
        have ey : y = .int (ns.drop u)[i] := by
          have e5 : ((ns.drop u).map V.int)[i]? = some y := e4
          rw [List.getElem?_map, List.getElem?_eq_getElem hi'] at e5
          exact (Option.some.inj e5).symm
        subst ex ey
        generalize (ns.drop u)[i] = c
        have hcu : cs'.length = u := by rw [el]; exact h2 (by rw [List.length_drop] at hi'; omega)
        refine ⟨t, _, rfl, SqT.of upd_same, rfl, _, _, rfl, _, _, rfl, rfl, ?_⟩
        have hpt : p ≠ t := ne_of_none ep ht
        have hst : sl ≠ t := ne_of_none es ht
        have ep2 : (upd H2 t (.tup [.int (i : Nat), .int c])) p = some (.lst (cs'.map V.int)) := by rw [upd_ne hpt]; exact ep
        have hm : (((i : Nat) : Int) % ((u : Nat) : Int)) = ((i % u : Nat) : Int) := rfl
        have hlt : i % u < cs'.length := by rw [hcu]; exact Nat.mod_lt _ hu0
        have hget : (cs'.map V.int)[i % u]? = some (.int cs'[i % u]) := by rw [List.getElem?_map, List.getElem?_eq_getElem hlt]; rfl
        have hilt : i < 63 := by rw [List.length_drop] at hi'; omega
        refine ⟨_, rfl, _, rfl, .int u, rfl, _, _, rfl, rfl, (by show (0 : Int) < (u : Int); omega), p, _, _, _, rfl, rfl, SqL.of ep2, atI_nat hget, ?_⟩
        refine ⟨.int c, rfl, .int i, rfl, _, _, rfl, rfl, _, _, rfl, rfl, .inr ⟨by show -(2 : Int) ^ 64 < (i : Int) + 2; omega, by show (i : Int) + 2 < (2 : Int) ^ 64; omega⟩, _, _, rfl, rfl, ?_⟩
        refine ⟨_, rfl, .int i, rfl, .int u, rfl, _, _, rfl, rfl, (by show (0 : Int) < (u : Int); omega), p, _, _, i % u, rfl, rfl, ep2, ?_, ?_⟩
        · show ixN _ (((i : Nat) : Int) % ((u : Nat) : Int)) = _
          rw [hm]
          unfold ixN
          rw [List.length_map, if_pos (by omega), if_pos (by omega), Int.toNat_natCast]
        · refine ⟨cs'.set (i % u) (cs'[i % u] + c * ((i : Int) + 2)), _, _, rfl, by rw [List.length_set]; exact el, ?_, ?_, ?_⟩
          · rw [upd_same, List.map_set]
          · rw [upd_ne (Ne.symm hne), upd_ne hst]; exact es
          · exact same_at (sm.trans (same_new ht)) hp
      · obtain ⟨cs', y3, y4, rfl, el, ep, es, sm⟩ := hP
        exact ⟨_, rfl, q p cs' H2 (by omega) (by omega) hp sm ep⟩
theorem joinL_nil (ls : List (List Nat)) : TL.joinL [] ls = ls.flatten := by
  induction ls with
  | nil => rfl
  | cons a t ih =>
    cases t with
    | nil => simp [TL.joinL]
    | cons b r => 
      show a ++ ([] ++ TL.joinL [] (b :: r)) = _
      rw [ih]; simp
def rowGood (l : List Nat) : Prop := l.length ≤ 20 ∧ l.all ok1 = true
def sp_row : Sp := fun vs H Q _ => ∃ b : Addr, vs = [.ref b] ∧ IsBox H b ∧ ∀ l H', rowGood l → Drawn b H H' → Q (.str (SX.S l)) H'
def rowsC : List Str := ["", "let a = 1", "let bc = a + 20", "def f(x num) = x * 2", "take b", "let s = \"at b\"", "a b", "if yes", "]"]
theorem rowsC_good : ∀ l ∈ rowsC.map (fun z => z.cps.toList), rowGood l := by
  unfold rowGood; decide +kernel
def rowS : Str := " ab19=+()\",[]&<*-~!.Z"
theorem rowS_good : ∀ l ∈ rowS.cps.toList.map (fun c => [c]), l.length = 1 ∧ l.all ok1 = true := by decide +kernel
theorem rowGood.take {l : List Nat} (h : rowGood l) (n : Nat) : rowGood (l.take n) := by
  refine ⟨by rw [List.length_take]; have := h.1; omega, ?_⟩
  rw [List.all_eq_true]
  exact fun x hx => List.all_eq_true.mp h.2 x (List.mem_of_mem_take hx)
theorem ok_L_row (T : Facts K mg) : FnG P w K mg base 3 T.f_L_row T.d_L_row ["_law_box_here"] sp_row := by
  refine fnG_of T.F_L_row sc_L_row (fun vs H Q E h => ?_) (fun cdv A outer s H vs Q hG hr h => ?_)
  · obtain ⟨c, rfl, _⟩ := h; rfl
  · obtain ⟨b, rfl, hb, q⟩ := h
    refine ⟨_, (pss_cons (ps_set (i := 1) sc_L_row.nd rfl (.inl rfl) (pe_lst (pa_cons pe_str (pa_cons pe_str (pa_cons pe_str (pa_cons pe_str (pa_cons pe_str (pa_cons pe_str pa_nil))))))))
        (pss_cons (ps_set (i := 1) sc_L_row.nd rfl (.inl rfl) (pe_op op_cat (pv 1) (pe_lst (pa_cons pe_str (pa_cons pe_str (pa_cons pe_str pa_nil))))))
        (pss_cons (ps_par (i := 2) (j := 3) (by rfl) sc_L_row.nd rfl rfl (by decide) rfl rfl (pa_cons (pe_go (ok_L_one_of T) hG (hr.mono (by decide)) (by rfl) T.g_L_one_of T.F_L_one_of.kp T.b_L_one_of (pa_cons (pv 0) (pa_cons (pv 1) pa_nil))) (pa_cons (pe_go (ok_L_take T) hG (hr.mono (by decide)) (by rfl) T.g_L_take T.F_L_take.kp T.b_L_take (pa_cons (pv 0) (pa_cons pe_int pa_nil))) pa_nil)) (by rfl))
        (pss_cons (ps_if (pt_cmpR op_eq (pv 3) pe_int (nomark _)) (pss_one (ps_ret (pe_slice sl_str (pv 2) po_none (po_some (pe_go (ok_L_take T) hG (hr.mono (by decide)) (by rfl) T.g_L_take T.F_L_take.kp T.b_L_take (pa_cons (pv 0) (pa_cons (pe_op op_add (pe_callB call_len_str (by rfl) T.n_len PySem.boot_len (pa_cons (pv 2) pa_nil)) pe_int) pa_nil))))))) pss_nil)
        (pss_cons (ps_if (pt_cmpR op_eq (pv 3) pe_int (nomark _)) (pss_cons (ps_set (i := 4) sc_L_row.nd rfl (.inr rfl) pe_str)
        (pss_one (ps_ret (pe_join pe_str (pe_lc (own := [("_law_k", 5)]) rfl sc_L_row.nd (pi_range1 (by rfl) T.n_range (pa_cons (pe_go (ok_L_take T) hG (hr.mono (by decide)) (by rfl) T.g_L_take T.F_L_take.kp T.b_L_take (pa_cons (pv 0) (pa_cons pe_int pa_nil))) pa_nil)) (blkOk_by (own := [("_law_k", 5)]) (N := ["_law_box_here", "_law_some", "_law_row_here", "_law_way", "_law_signs_here", "_law_k"]) (sc := defScope s_L_row) (by decide +kernel)) (fun _ _ _ _ _ => (pg_name (i := 5) sc_L_row.nd rfl (.inl rfl))) (fun _ _ _ _ _ => pts_nil) (fun _ _ _ _ _ => (pe_go (ok_L_one_of T) hG (hr.mono (by decide)) (by rfl) T.g_L_one_of T.F_L_one_of.kp T.b_L_one_of (pa_cons (pv 0) (pa_cons (pv 4) pa_nil))))))))) pss_nil)
        (pss_one (ps_ret (pv 2)))))))), ?_⟩
    have hline : (1000 : Nat) ≤ sizeLine := by decide
    refine ⟨by show 6 ≤ sizeLine; decide, fun p1 hp1 => ?_⟩
    refine ⟨_, rfl, by show 3 ≤ sizeLine; decide, fun p2 hp2 => ⟨p1, p2, _, _, rfl, rfl, same_new hp2 _ _ upd_same, upd_same, by show 6 + 3 ≤ sizeLine; decide, fun p3 hp3 => ?_⟩⟩
    generalize hH1 : upd (upd (upd H p1 _) p2 _) p3 _ = H1
    have s1 : Same H H1 := by rw [← hH1]; exact ((same_new hp1).trans (same_new hp2)).trans (same_new hp3)
    have e1 : H1 p3 = some (.lst (txts (rowsC.map fun z => z.cps.toList))) := by rw [← hH1, upd_same, txts_of]; rfl
    clear hH1
    have d1 : Drawn b H H1 := Drawn.of hb s1
    refine ⟨_, rfl, _, rfl, oneG_of (E := E0) ⟨b, _, rowsC.map (fun z => z.cps.toList), rfl, d1.1, by decide, by decide, .inl ⟨p3, rfl, e1⟩, fun l H2 hl d2 => ?_⟩⟩
    have hlg := rowsC_good l hl
    refine ⟨_, rfl, b, 4, rfl, d2.1, by decide, by decide, fun way H3 h0 h1 d3 => ?_⟩
    have d4 := (d1.trans d2).trans d3
    refine ⟨_, _, rfl, ?_⟩
    refine ⟨_, rfl, rfl, _, rfl, ite2 (fun hw => ?_) (fun hw => ?_)⟩
    · refine ⟨_, rfl, _, rfl, _, rfl, SX.S l, rfl, by rw [SX.S_len]; have := hlg.1; omega, _, _, rfl, rfl, b, _, rfl, d3.1, by show (0 : Int) < _ + 1; omega, by show ((SX.S l).length : Int) + 1 < 1073741824; rw [SX.S_len]; have := hlg.1; omega, fun v H4 h2 h3 d5 => ?_⟩
      refine ⟨v, rfl, SX.S l, rfl, by rw [SX.S_len]; have := hlg.1; omega, ?_⟩
      have e := cutS_to (SX.S l) v.toNat
      rw [show ((v.toNat : Nat) : Int) = v by omega] at e
      have q1 := q (l.take v.toNat) H4 (hlg.take _) (d4.trans d5)
      rw [← SX.S_tl (cutS (SX.S l) none (some v)), e]
      exact q1
    · refine ⟨_, rfl, rfl, _, rfl, ite2 (fun hw2 => ?_) (fun hw2 => ?_)⟩
      · refine ⟨⟨_, rfl⟩, ?_⟩
        have eS : V.str rowS = V.str (SX.S rowS.cps.toList) := by rw [SX.S_tl]
        refine lc_drawn (b := b) (j := 5) (vs := [5]) (fun m => m ≤ 8) (fun l => l.length = 1 ∧ l.all ok1 = true) d4.1 (fun m h => by omega) (fun R r => ?_) (fun k H' hb' Qv q1 => ?_) (fun D ls H' h8 hR hD d5 => ?_) (fun x => rfl)
        · exact ⟨_, rfl, b, 9, rfl, d4.1, by decide, by decide, fun v H4 h2 h3 d5 => by
            have e := r H4 v.toNat (by omega) d5
            rw [show ((v.toNat : Nat) : Int) = v by omega] at e
            exact e⟩
        · exact ⟨_, rfl, _, rfl, oneG_of (E := E0) ⟨b, _, rowS.cps.toList.map (fun c => [c]), rfl, hb', by decide +kernel, by decide +kernel, .inr ⟨rowS, rfl, rfl⟩, fun l' H4 hl' d5 => q1 l' H4 (rowS_good l' hl') d5⟩⟩
        · have hfl : ls.flatten.length = ls.length := by
            rw [List.length_flatten]
            have : ∀ ys : List (List Nat), (∀ l ∈ ys, l.length = 1 ∧ l.all ok1 = true) → (ys.map List.length).sum = ys.length := by
              intro ys
              induction ys with
              | nil => exact fun _ => rfl
              | cons y ys ih => exact fun h => by rw [List.map_cons, List.sum_cons, ih fun l hl => h l (List.mem_cons_of_mem _ hl), (h y (List.mem_cons_self ..)).1, List.length_cons]; omega
            exact this ls hR
          refine ⟨SX.S [], D, ls.map SX.S, rfl, rfl, .inl (SqL.of (by rw [← txts_eq]; exact hD)), ?_, ?_⟩
          · rw [SX.lens, SX.S_len, List.length_nil, Nat.mul_zero, Nat.add_zero, ← List.length_flatten, hfl]; omega
          · rw [SX.join_S, joinL_nil]
            refine q ls.flatten H' ⟨by omega, ?_⟩ (d4.trans d5)
            rw [List.all_eq_true]
            intro x hx
            obtain ⟨l', hl', hx'⟩ := List.mem_flatten.mp hx
            exact List.all_eq_true.mp (hR l' hl').2 x hx'
      · exact ⟨_, rfl, q l H3 hlg d4⟩
/-! ### a text -/
def sp_ltext : Sp := fun vs H Q _ => ∃ (b : Addr) (n : Int), vs = [.ref b, .int n] ∧ IsBox H b ∧ 0 < n ∧ n ≤ 24 ∧ ∀ (ls : List (List Nat)) (H' : Hp), 0 < ls.length → ls.length ≤ 24 → (∀ l ∈ ls, rowGood l) → Drawn b H H' → Q (.str (SX.S (TL.joinL [10] ls))) H'
theorem ok_L_text (T : Facts K mg) : FnG P w K mg base 4 T.f_L_text T.d_L_text ["_law_box_here", "_law_many"] sp_ltext := by
  refine fnG_of T.F_L_text sc_L_text (fun vs H Q E h => ?_) (fun cdv A outer s H vs Q hG hr h => ?_)
  · obtain ⟨c, _, rfl, _⟩ := h; rfl
  · obtain ⟨b, n, rfl, hb, h0, h1, q⟩ := h
    refine ⟨_, (pss_one (ps_ret (pe_join pe_str (pe_lc (own := [("_law_k", 2)]) rfl sc_L_text.nd (pi_range1 (by rfl) T.n_range (pa_cons (pe_op op_add pe_int (pe_go (ok_L_take T) hG (hr.mono (by decide)) (by rfl) T.g_L_take T.F_L_take.kp T.b_L_take (pa_cons (pv 0) (pa_cons (pv 1) pa_nil)))) pa_nil)) (blkOk_by (own := [("_law_k", 2)]) (N := ["_law_box_here", "_law_many", "_law_k"]) (sc := defScope s_L_text) (by decide +kernel)) (fun _ _ _ _ _ => (pg_name (i := 2) sc_L_text.nd rfl (.inl rfl))) (fun _ _ _ _ _ => pts_nil) (fun _ _ _ _ _ => (pe_go (ok_L_row T) hG (hr.mono (by decide)) (by rfl) T.g_L_row T.F_L_row.kp T.b_L_row (pa_cons (pv 0) pa_nil))))))), ?_⟩
    refine ⟨⟨_, rfl⟩, ?_⟩
    refine lc_drawn (b := b) (j := 2) (vs := [2]) (fun m => 0 < m ∧ m ≤ 24) rowGood hb (fun m h => by omega) (fun R r => ?_) (fun k H' hb' Qv q1 => ?_) (fun D ls H' h8 hR hD d5 => ?_) (fun x => rfl)
    · exact ⟨_, rfl, _, rfl, b, n, rfl, hb, h0, by omega, fun v H4 h2 h3 d5 => ⟨_, _, rfl, rfl, by
        have e := r H4 (1 + v).toNat (by omega) d5
        rw [show (((1 + v).toNat : Nat) : Int) = 1 + v by omega] at e
        exact e⟩⟩
    · exact ⟨_, rfl, b, rfl, hb', fun l H4 hl d5 => q1 l H4 hl d5⟩
    · refine ⟨nl, D, ls.map SX.S, rfl, rfl, .inl (SqL.of (by rw [← txts_eq]; exact hD)), join_room ?_, ?_⟩
      · have : ∀ ys : List (List Nat), (∀ l ∈ ys, rowGood l) → (ys.map fun l => l.length + 1).sum ≤ 21 * ys.length := by
          intro ys
          induction ys with
          | nil => exact fun _ => Nat.le_refl _
          | cons y ys ih =>
            intro h
            rw [List.map_cons, List.sum_cons, List.length_cons]
            have h3 := ih fun l hl => h l (List.mem_cons_of_mem _ hl)
            have h4 := (h y (List.mem_cons_self ..)).1
            omega
        have := this ls hR
        omega
      · rw [join_S ⟨#[]⟩ ls]
        exact q ls H' h8.1 h8.2 hR d5
theorem flat_le (m : Nat) : ∀ ys : List (List Nat), (∀ l ∈ ys, l.length ≤ m) → (ys.map fun l => l.length + 1).sum ≤ (m + 1) * ys.length
  | [], _ => Nat.zero_le _
  | y :: ys, h => by
    have h3 := flat_le m ys fun l hl => h l (List.mem_cons_of_mem _ hl)
    have h4 := h y (List.mem_cons_self ..)
    rw [List.map_cons, List.sum_cons, List.length_cons, Nat.mul_add, Nat.mul_one]
    omega
theorem joinL_len : ∀ ys : List (List Nat), (TL.joinL [10] ys).length ≤ (ys.map fun l => l.length + 1).sum
  | [] => Nat.le_refl _
  | [y] => by show y.length ≤ _; simp
  | y :: z :: ys => by
    have h := joinL_len (z :: ys)
    show (y ++ ([10] ++ TL.joinL [10] (z :: ys))).length ≤ _
    rw [List.map_cons, List.sum_cons, List.length_append, List.length_append, List.length_singleton]
    omega
theorem rowGood.no10 {l : List Nat} (h : rowGood l) : 10 ∉ l := fun hc => by
  have := List.all_eq_true.mp h.2 10 hc
  revert this; decide
theorem ok1_lt {c : Nat} (h : ok1 c = true) : c < 1114112 := by
  unfold ok1 at h
  rw [Bool.and_eq_true, Bool.and_eq_true, Bool.not_eq_true', Bool.not_eq_true'] at h
  have := of_decide_eq_false h.1.2
  omega
theorem rowGood.ok {l : List Nat} (h : rowGood l) : rowOk l = true := by
  unfold rowOk
  rw [decide_eq_true (show ((l.length : Int) ≤ 60) by have := h.1; omega), h.2]; rfl
structure Wr (ls : List (List Nat)) (x : Str) : Prop where
  tl : x.cps.toList = TL.joinL [10] ls
  ln : lines x.cps.toList = ls
  many : 0 < ls.length ∧ ls.length ≤ 24
  good : ∀ l ∈ ls, rowGood l
  short : x.length ≤ 520
theorem wr_of {ls : List (List Nat)} (h0 : 0 < ls.length) (h1 : ls.length ≤ 24) (h : ∀ l ∈ ls, rowGood l) : Wr ls (SX.S (TL.joinL [10] ls)) := by
  refine ⟨rfl, lines_join (List.length_pos_iff.mp h0) fun r hr => (h r hr).no10, ⟨h0, h1⟩, h, ?_⟩
  rw [SX.S_len]
  have h2 := joinL_len ls
  have h3 := flat_le 20 ls fun l hl => (h l hl).1
  have h4 := Nat.mul_le_mul_left 21 h1
  omega
theorem Wr.cps {ls : List (List Nat)} {x : Str} (h : Wr ls x) : ∀ l ∈ ls, ∀ c ∈ l, c < 1114112 := fun l hl c hc => ok1_lt (List.all_eq_true.mp (h.good l hl).2 c hc)
end K02

set_option maxHeartbeats 4000000
namespace K02
open PySem PySem.Spec PyProof.Rows L2 Gx Lx
variable {P : Program} {w : World} {K : PySem.W.Frag} {mg : Str → Option Value} {base : Heap}
def ok2 (c : Nat) : Bool := decide (c = 10) || ok1 c
theorem cutS_mem {x : Str} {lo hi : Option Int} {k : Nat} (h : k ∈ (cutS x lo hi).cps.toList) : k ∈ x.cps.toList := by
  unfold cutS at h
  exact List.mem_of_mem_drop (List.mem_of_mem_take h)
def sp_edit : Sp := fun vs H Q _ => ∃ (b : Addr) (x : Str), vs = [.ref b, .str x] ∧ IsBox H b ∧ x.length ≤ 10000 ∧ x.cps.toList.all ok2 = true ∧
  ∀ (t : Addr) (a c : Nat) (z : Str) (H' : Hp), H t = none → t ≠ b → Drawn b H H' → H' t = some (.tup [.int (a : Int), .int (c : Int), .str z]) → a + c ≤ x.length → z.length ≤ x.length + 20 → z.cps.toList.all ok2 = true → Q (.ref t) H'
theorem ok_L_edit (T : Facts K mg) : FnG P w K mg base 4 T.f_L_edit T.d_L_edit ["_law_box_here", "_law_writing"] sp_edit := by
  refine fnG_of T.F_L_edit sc_L_edit (fun vs H Q E h => ?_) (fun cdv A outer s H vs Q hG hr h => ?_)
  · obtain ⟨c, _, rfl, _⟩ := h; rfl
  · obtain ⟨b, x, rfl, hb, hx, hxo, q⟩ := h
    refine ⟨_, (pss_cons (ps_par (i := 2) (j := 3) (by rfl) sc_L_edit.nd rfl rfl (by decide) rfl rfl (pa_cons (pe_callB call_len_str (by rfl) T.n_len PySem.boot_len (pa_cons (pv 1) pa_nil)) (pa_cons (pe_lc (own := [("_law_k", 7), ("_law_sign", 8)]) rfl sc_L_edit.nd (pi_enumS (by rfl) T.n_enumerate (pa_cons (pv 1) pa_nil)) (blkOk_by (own := [("_law_k", 7), ("_law_sign", 8)]) (N := ["_law_box_here", "_law_writing", "_law_size", "_law_feeds", "_law_at", "_law_cut", "_law_put", "_law_k", "_law_sign"]) (sc := defScope s_L_edit) (by decide +kernel)) (fun _ _ _ _ _ => (pg_tupK (K := K) (n := 2) rfl rfl (pgs_cons (pg_name (i := 7) sc_L_edit.nd rfl (.inl rfl)) (pgs_cons (pg_name (i := 8) sc_L_edit.nd rfl (.inl rfl)) pgs_nil)))) (fun _ _ _ _ _ => (pts_one (pt_cmpR op_eq (pv 8) pe_str (nomark _)))) (fun _ _ _ _ _ => (pv 7))) pa_nil)) (by rfl))
        (pss_cons (ps_set (i := 4) sc_L_edit.nd rfl (.inl rfl) (pe_ix ix_list (pe_lst (pa_cons (pe_go (ok_L_take T) hG (hr.mono (by decide)) (by rfl) T.g_L_take T.F_L_take.kp T.b_L_take (pa_cons (pv 0) (pa_cons (pe_op op_add (pv 2) pe_int) pa_nil))) (pa_cons (pe_go (ok_L_take T) hG (hr.mono (by decide)) (by rfl) T.g_L_take T.F_L_take.kp T.b_L_take (pa_cons (pv 0) (pa_cons (pe_op op_add (pv 2) pe_int) pa_nil))) (pa_cons pe_int (pa_cons (pv 2) pa_nil))))) (pe_go (ok_L_take T) hG (hr.mono (by decide)) (by rfl) T.g_L_take T.F_L_take.kp T.b_L_take (pa_cons (pv 0) (pa_cons pe_int pa_nil))) (fun _ _ => rfl)))
        (pss_cons (ps_if (PW.pt (pw_and (pt_cmpR (op_neD hr.units) (pv 3) (pe_lst pa_nil) (nomark _)) (pw_and1 (pt_cmpR op_eq (pe_go (ok_L_take T) hG (hr.mono (by decide)) (by rfl) T.g_L_take T.F_L_take.kp T.b_L_take (pa_cons (pv 0) (pa_cons pe_int pa_nil))) pe_int (nomark _))))) (pss_one (ps_set (i := 4) sc_L_edit.nd rfl (.inl rfl) (pe_op op_add (pe_go (ok_L_one_of T) hG (hr.mono (by decide)) (by rfl) T.g_L_one_of T.F_L_one_of.kp T.b_L_one_of (pa_cons (pv 0) (pa_cons (pv 3) pa_nil))) (pe_go (ok_L_take T) hG (hr.mono (by decide)) (by rfl) T.g_L_take T.F_L_take.kp T.b_L_take (pa_cons (pv 0) (pa_cons pe_int pa_nil)))))) pss_nil)
        (pss_cons (ps_set (i := 5) sc_L_edit.nd rfl (.inl rfl) (pe_callB (call_min2 rfl) (by rfl) T.n_min (by decide +kernel) (pa_cons (pe_op op_sub (pv 2) (pv 4)) (pa_cons (pe_ix ix_list (pe_lst (pa_cons pe_int (pa_cons pe_int (pa_cons pe_int (pa_cons (pe_go (ok_L_take T) hG (hr.mono (by decide)) (by rfl) T.g_L_take T.F_L_take.kp T.b_L_take (pa_cons (pv 0) (pa_cons pe_int pa_nil))) (pa_cons (pe_go (ok_L_take T) hG (hr.mono (by decide)) (by rfl) T.g_L_take T.F_L_take.kp T.b_L_take (pa_cons (pv 0) (pa_cons (pe_op op_add (pv 2) pe_int) pa_nil))) pa_nil)))))) (pe_go (ok_L_take T) hG (hr.mono (by decide)) (by rfl) T.g_L_take T.F_L_take.kp T.b_L_take (pa_cons (pv 0) (pa_cons pe_int pa_nil))) (fun _ _ => rfl)) pa_nil))))
        (pss_cons (ps_set (i := 6) sc_L_edit.nd rfl (.inl rfl) (pe_go (ok_L_one_of T) hG (hr.mono (by decide)) (by rfl) T.g_L_one_of T.F_L_one_of.kp T.b_L_one_of (pa_cons (pv 0) (pa_cons (pe_lst (pa_cons pe_str (pa_cons pe_str (pa_cons pe_str (pa_cons pe_str (pa_cons pe_str (pa_cons pe_str (pa_cons (pe_go (ok_L_row T) hG (hr.mono (by decide)) (by rfl) T.g_L_row T.F_L_row.kp T.b_L_row (pa_cons (pv 0) pa_nil)) (pa_cons (pe_slice sl_str (pv 1) (po_some (pv 4)) (po_some (pe_op op_add (pv 4) (pv 5)))) (pa_cons (pe_slice sl_str (pv 1) po_none (po_some pe_int)) pa_nil)))))))))) pa_nil))))
        (pss_one (ps_ret (pe_tup (pa_cons (pv 4) (pa_cons (pv 5) (pa_cons (pv 6) pa_nil))))))))))), ?_⟩
    have hline : (1000000 : Nat) ≤ sizeLine := by decide
    refine ⟨_, rfl, x, rfl, by omega, ?_⟩
    refine ⟨_, rfl, x, rfl, fun D hD => ?_⟩
    refine lc_it walk_enumS (fun i H2 => Drawn b H H2 ∧ ∃ fs : List Nat, H2 D = some (.lst (fs.map fun i => V.int ((i : Nat) : Int))) ∧ (∀ f ∈ fs, f < x.length) ∧ fs.length ≤ i) ?h0 (fun _ _ _ _ => trivial) (fun i v H2 H3 hi hP hy => ?hs) (fun H2 hP => ?hd)
    case h0 =>
      exact ⟨(Drawn.refl hb).new hD, [], upd_same, (fun _ h => absurd h List.not_mem_nil), Nat.le_refl _⟩
    case hs =>
      obtain ⟨d, fs, e, hf, hl⟩ := hP
      obtain ⟨t, c, rfl, ht, rfl, hc⟩ := hy
      have hDt : D ≠ t := ne_of_none e ht
      have hDb : D ≠ b := fun e2 => by
        subst e2
        obtain ⟨i, j, k, z⟩ := hb
        rw [z] at hD; cases hD
      have d1 : Drawn b H (upd H2 t (.tup [.int (i : Int), .str ⟨#[c]⟩])) := d.new ht
      have e1 : (upd H2 t (.tup [.int (i : Int), .str ⟨#[c]⟩])) D = some (.lst (fs.map fun i => V.int ((i : Nat) : Int))) := by rw [upd_ne hDt]; exact e
      refine ⟨t, _, rfl, SqT.of upd_same, rfl, _, _, rfl, _, _, rfl, rfl, rfl, ?_⟩
      refine ⟨_, rfl, rfl, _, rfl, ite2 (fun h => ?_) (fun h => ?_)⟩
      · refine ⟨_, rfl, _, e1, ?_, d1.at hD hDb _, fs ++ [i], ?_, ?_, ?_⟩
        · have := hi
          rw [List.length_map]
          have hxx : x.cps.size = x.length := rfl
          omega
        · rw [upd_same, List.map_append]; rfl
        · intro f hf'
          rcases List.mem_append.mp hf' with h' | h'
          · exact hf f h'
          · rw [List.mem_singleton.mp h']; exact hi
        · rw [List.length_append]; show fs.length + 1 ≤ i + 1; omega
      · exact ⟨d1, fs, e1, hf, by omega⟩
    case hd =>
      obtain ⟨d, fs, e, hf, hl⟩ := hP
      have hfl : fs.length ≤ 10000 := Nat.le_trans hl hx
      have hDb : D ≠ b := fun e2 => by
        subst e2
        obtain ⟨i, j, k, z⟩ := hb
        rw [z] at hD; cases hD
      refine ⟨_, _, rfl, ?_⟩
      refine ⟨_, rfl, _, rfl, _, _, rfl, rfl, b, _, rfl, d.1, by show (0 : Int) < _ + 1; omega, by show ((x.length : Nat) : Int) + 1 < 1073741824; omega, fun v1 H3 h0 h1 d3 => ?_⟩
      refine ⟨_, rfl, _, rfl, _, _, rfl, rfl, b, _, rfl, d3.1, by show (0 : Int) < _ + 1; omega, by show ((x.length : Nat) : Int) + 1 < 1073741824; omega, fun v2 H4 h2 h3 d4 => ?_⟩
      refine ⟨_, rfl, by show 4 ≤ sizeLine; decide, fun p1 hp1 => ?_⟩
      have d5 := (d3.trans d4).new (o := .lst [.int v1, .int v2, .int 0, .int (x.length : Int)]) hp1
      refine ⟨_, rfl, b, 4, rfl, d5.1, by decide, by decide, fun v3 H5 h4 h5 d6 => ?_⟩
      have e5 := d6.2 _ _ ((d3.trans d4).nb hp1) upd_same
      have d7 := d5.trans d6
      have hv : ∃ a : Nat, atI [V.int v1, V.int v2, V.int 0, V.int (x.length : Int)] v3 = some (.int (a : Int)) ∧ a ≤ x.length := by
        have : v3 = 0 ∨ v3 = 1 ∨ v3 = 2 ∨ v3 = 3 := by omega
        rcases this with rfl | rfl | rfl | rfl
        · exact ⟨v1.toNat, by rw [show ((v1.toNat : Nat) : Int) = v1 by omega]; exact atI_nat (j := 0) rfl, by omega⟩
        · exact ⟨v2.toNat, by rw [show ((v2.toNat : Nat) : Int) = v2 by omega]; exact atI_nat (j := 1) rfl, by omega⟩
        · exact ⟨0, atI_nat (j := 2) rfl, by omega⟩
        · exact ⟨x.length, atI_nat (j := 3) rfl, Nat.le_refl _⟩
      obtain ⟨a0, ha0, hal0⟩ := hv
      refine ⟨p1, _, v3, _, rfl, rfl, SqL.of e5, ha0, ?_⟩
      dsimp only [gName]
      refine seq_via (fun σ' H' => Drawn b H2 H' ∧ ∃ a : Nat, a ≤ x.length ∧ σ' = [some (.ref b), some (.str x), some (.int (x.length : Int)), some (.ref D), some (.int (a : Int)), none, none, none, none]) (fun D' k => ?_) (fun σ' H' hP => ?_)
      · refine ⟨_, rfl, Nat.zero_le _, fun p2 hp2 => ?_⟩
        have d8 := d7.new (o := .lst []) hp2
        have eD : (upd H5 p2 (.lst [])) D = some (.lst (fs.map fun i => V.int ((i : Nat) : Int))) := by
          rw [upd_ne (ne_of_none (d7.2 _ _ hDb e) hp2)]; exact d7.2 _ _ hDb e
        refine ne_nats (SqL.of eD) (SqL.of upd_same) ⟨_, rfl, ite2 (fun hf0 => ?_) (fun hf0 => ?_)⟩
        · refine ⟨_, rfl, b, 4, rfl, d8.1, by decide, by decide, fun v4 H6 h6 h7 d9 => ?_⟩
          have d10 := d8.trans d9
          refine ⟨rfl, _, rfl, ite2 (fun hw => ?_) (fun hw => ?_)⟩
          · refine ⟨_, rfl, _, rfl, b, _, fs.map (fun i => V.int ((i : Nat) : Int)), rfl, d9.1, ?_, by rw [List.length_map]; omega, .inl ⟨D, rfl, hDb, d9.2 _ _ hDb eD⟩, fun y H7 hy d11 => ?_⟩
            · intro h
              rw [List.map_eq_nil_iff] at h
              rw [h] at hf0; cases hf0
            · obtain ⟨f, hfm, rfl⟩ := List.mem_map.mp hy
              have hfx := hf f hfm
              refine ⟨_, rfl, b, 2, rfl, d11.1, by decide, by decide, fun v5 H8 h8 h9 d12 => ⟨_, _, rfl, rfl, ?_⟩⟩
              exact k _ _ ⟨(d10.trans d11).trans d12, f + v5.toNat, by omega, by
                show [some (V.ref b), some (.str x), some (.int (x.length : Int)), some (.ref D), some (.int ((f : Int) + v5)), none, none, none, none] = _
                rw [show (((f + v5.toNat : Nat) : Int)) = (f : Int) + v5 by omega]⟩
          · exact k _ _ ⟨d10, a0, hal0, rfl⟩
        · exact k _ _ ⟨d8, a0, hal0, rfl⟩
      · obtain ⟨dA, a, ha, rfl⟩ := hP
        -- cut
        refine ⟨_, rfl, _, rfl, _, _, rfl, rfl, ?_⟩
        refine ⟨_, rfl, b, 6, rfl, dA.1, by decide, by decide, fun w1 H6 g0 g1 dB => ?_⟩
        refine ⟨_, rfl, _, rfl, _, _, rfl, rfl, b, _, rfl, dB.1, by show (0 : Int) < _ + 1; omega, by show ((x.length : Nat) : Int) + 1 < 1073741824; omega, fun w2 H7 g2 g3 dC => ?_⟩
        refine ⟨by show 5 ≤ sizeLine; decide, fun p3 hp3 => ?_⟩
        have dD := ((dA.trans dB).trans dC).new (o := .lst [.int 0, .int 0, .int 1, .int w1, .int w2]) hp3
        have n3 := ((dA.trans dB).trans dC).nb hp3
        refine ⟨_, rfl, b, 5, rfl, dD.1, by decide, by decide, fun w3 H8 g4 g5 dE => ?_⟩
        have e8 := dE.2 _ _ n3 upd_same
        have dF := dD.trans dE
        have hv : ∃ c : Int, atI [V.int 0, V.int 0, V.int 1, V.int w1, V.int w2] w3 = some (.int c) ∧ 0 ≤ c := by
          have : w3 = 0 ∨ w3 = 1 ∨ w3 = 2 ∨ w3 = 3 ∨ w3 = 4 := by omega
          rcases this with rfl | rfl | rfl | rfl | rfl
          · exact ⟨0, atI_nat (j := 0) rfl, by omega⟩
          · exact ⟨0, atI_nat (j := 1) rfl, by omega⟩
          · exact ⟨1, atI_nat (j := 2) rfl, by omega⟩
          · exact ⟨w1, atI_nat (j := 3) rfl, g0⟩
          · exact ⟨w2, atI_nat (j := 4) rfl, g2⟩
        obtain ⟨c0, hc0, hcn⟩ := hv
        refine ⟨p3, _, w3, _, rfl, rfl, SqL.of e8, hc0, _, _, rfl, ?_⟩
        obtain ⟨c, ec, hac⟩ : ∃ c : Nat, (if c0 < (x.length : Int) - (a : Int) then c0 else (x.length : Int) - (a : Int)) = (c : Int) ∧ a + c ≤ x.length := by
          by_cases h : c0 < (x.length : Int) - (a : Int)
          · rw [if_pos h]; exact ⟨c0.toNat, by omega, by omega⟩
          · rw [if_neg h]; exact ⟨x.length - a, by omega, by omega⟩
        rw [ec]
        clear ec hc0 e8 n3 hcn
        -- put
        refine ⟨_, rfl, _, rfl, b, rfl, dF.1, fun l H9 hl9 dG => ?_⟩
        refine ⟨_, rfl, _, rfl, _, rfl, _, rfl, _, rfl, _, _, rfl, rfl, _, rfl, x, rfl, by omega, ?_⟩
        refine ⟨_, rfl, 3, rfl, x, rfl, by omega, ?_⟩
        refine ⟨by show 9 ≤ sizeLine; decide, fun p4 hp4 => ?_⟩
        have n4 := (dF.trans dG).nb hp4
        have dH := (dF.trans dG).new (o := .lst [.str "", .str "", .str "x", .str "\n", .str " = 1", .str "let d = 4\n", .str (SX.S l), .str (cutS x (some (a : Int)) (some ((a : Int) + (c : Int)))), .str (cutS x none (some 3))]) hp4
        refine ⟨b, _, _, rfl, dH.1, List.cons_ne_nil _ _, by show 9 ≤ 100000; decide, .inl ⟨p4, rfl, n4, upd_same⟩, fun y HA hy dI => ?_⟩
        have dJ := d.trans (dH.trans dI)
        have hall : ∀ z : List Nat, z.all ok1 = true → z.all ok2 = true := fun z hz => by
          rw [List.all_eq_true] at hz ⊢
          intro k hk
          unfold ok2
          rw [hz k hk, Bool.or_true]
        have hcut : ∀ lo hi : Option Int, (cutS x lo hi).length ≤ x.length + 20 ∧ (cutS x lo hi).cps.toList.all ok2 = true := fun lo hi => ⟨Nat.le_trans (cutS_short x lo hi (Nat.le_refl _)) (by omega), by
          rw [List.all_eq_true] at hxo ⊢
          exact fun k hk => hxo k (cutS_mem hk)⟩
        have hy2 : ∃ z : Str, y = .str z ∧ z.length ≤ x.length + 20 ∧ z.cps.toList.all ok2 = true := by
          simp only [List.mem_cons, List.not_mem_nil, or_false] at hy
          rcases hy with rfl | rfl | rfl | rfl | rfl | rfl | rfl | rfl | rfl
          · exact ⟨_, rfl, Nat.le_trans (by decide +kernel : _ ≤ 20) (by omega), by decide +kernel⟩
          · exact ⟨_, rfl, Nat.le_trans (by decide +kernel : _ ≤ 20) (by omega), by decide +kernel⟩
          · exact ⟨_, rfl, Nat.le_trans (by decide +kernel : _ ≤ 20) (by omega), by decide +kernel⟩
          · exact ⟨_, rfl, Nat.le_trans (by decide +kernel : _ ≤ 20) (by omega), by decide +kernel⟩
          · exact ⟨_, rfl, Nat.le_trans (by decide +kernel : _ ≤ 20) (by omega), by decide +kernel⟩
          · exact ⟨_, rfl, Nat.le_trans (by decide +kernel : _ ≤ 20) (by omega), by decide +kernel⟩
          · exact ⟨_, rfl, by rw [SX.S_len]; have := hl9.1; omega, hall _ hl9.2⟩
          · exact ⟨_, rfl, hcut _ _⟩
          · exact ⟨_, rfl, hcut _ _⟩
        obtain ⟨z, rfl, hz, hzo⟩ := hy2
        refine ⟨_, rfl, _, rfl, _, rfl, by show 3 ≤ sizeLine; decide, fun t ht => ?_⟩
        exact q t a c z _ (dJ.free hb ht) (dJ.nb ht) (dJ.new ht) upd_same hac hz hzo
end K02

set_option maxHeartbeats 4000000
namespace K02
open PySem PySem.Spec PyProof.Rows L2 Gx Lx
variable {P : Program} {w : World} {K : PySem.W.Frag} {mg : Str → Option Value} {base : Heap}
def putLen : PyData → Nat
  | .tuple [_, _, .str z] => z.length
  | _ => 0
def editD (n : Nat) : PyData → Bool
  | .tuple [.int a, .int c, .str z] => decide (0 ≤ a) && (decide (0 ≤ c) && (decide (a + c ≤ (n : Int)) && z.cps.toList.all ok2))
  | _ => false
def sp_is_edit (K : PySem.W.Frag) : Sp := fun vs H Q _ => ∃ (x : Str) (v : V) (d : PyData), vs = [.str x, v] ∧ x.length ≤ 1000 ∧ Dp K H v d ∧ putLen d ≤ 1000000 ∧ ∀ H', Same H H' → Q (.bl (editD x.length d)) H'
theorem dpAll3 {K : PySem.W.Frag} {H : Hp} {xs : List V} {ds : List PyData} (h : DpAll K H xs ds) : xs.length = ds.length := by
  induction xs generalizing ds with
  | nil => cases h; rfl
  | cons x xs ih => cases h with | cons a b => rw [List.length_cons, List.length_cons, ih b]
theorem dpAll_three {K : PySem.W.Frag} {H : Hp} {xs : List V} {ds : List PyData} (h : DpAll K H xs ds) (h3 : ds.length = 3) : ∃ v1 v2 v3 d1 d2 d3, xs = [v1, v2, v3] ∧ ds = [d1, d2, d3] ∧ Dp K H v1 d1 ∧ Dp K H v2 d2 ∧ Dp K H v3 d3 := by
  cases h with
  | nil => cases h3
  | cons p1 h => cases h with
    | nil => cases h3
    | cons p2 h => cases h with
      | nil => cases h3
      | cons p3 h => cases h with
        | nil => exact ⟨_, _, _, _, _, _, rfl, rfl, p1, p2, p3⟩
        | cons _ _ => simp at h3
theorem editD_len {n : Nat} {ds : List PyData} (h : ds.length ≠ 3) : editD n (.tuple ds) = false := by
  unfold editD
  split
  · rename_i e
    injection e with e
    subst e
    exact absurd rfl h
  · rfl
def ge0 : PyData → Bool
  | .int i => decide (0 ≤ i)
  | _ => false
def numD (d : PyData) : Bool := isI d && (!isB d && ge0 d)
theorem numD_int {d : PyData} (h : numD d = true) : ∃ i, d = .int i ∧ 0 ≤ i := by
  cases d with
  | int i => exact ⟨i, rfl, by simpa [numD, isI, isB, ge0] using h⟩
  | _ => cases h
theorem ok_L_is_edit (T : Facts K mg) : FnG P w K mg base 2 T.f_L_is_edit T.d_L_is_edit ["_law_writing", "_law_matter"] (sp_is_edit K) := by
  refine fnG_of T.F_L_is_edit sc_L_is_edit (fun vs H Q E h => ?_) (fun cdv A outer s H vs Q hG hr h => ?_)
  · obtain ⟨c, _, _, rfl, _⟩ := h; rfl
  · obtain ⟨x, v, d, rfl, hx, hd, hz, q⟩ := h
    refine ⟨_, (pss_cons (ps_if (PW.pt (pw_or (pt_not (pt_val (pe_callB call_isi (by rfl) T.n_isinstance (by decide +kernel) (pa_cons (pv 1) (pa_cons (pe_bltn (v := .ty "tuple") (by rfl) T.n_tuple (by decide +kernel) rfl) pa_nil))))) (pw_or1 (pt_cmpR op_ne (pe_callB call_len_seq (by rfl) T.n_len PySem.boot_len (pa_cons (pv 1) pa_nil)) pe_int (nomark _))))) (pss_one (ps_ret pe_bl)) pss_nil)
        (pss_cons (ps_asg (pv 1) (pg_tup rfl (pgs_cons (pg_name (i := 2) sc_L_is_edit.nd rfl (.inl rfl)) (pgs_cons (pg_name (i := 3) sc_L_is_edit.nd rfl (.inl rfl)) (pgs_cons (pg_name (i := 4) sc_L_is_edit.nd rfl (.inl rfl)) pgs_nil)))))
        (pss_cons (ps_if (pt_not (pt_val (pe_callB (cr_all rfl) (by rfl) T.n_all (by decide +kernel) (pa_cons (pe_lc (own := [("_law_one", 7)]) rfl sc_L_is_edit.nd (pi_tup (pe_tup (pa_cons (pv 2) (pa_cons (pv 3) pa_nil)))) (blkOk_by (own := [("_law_one", 7)]) (N := ["_law_writing", "_law_matter", "_law_at", "_law_cut", "_law_put", "_law_signs_here", "_law_sign", "_law_one"]) (sc := defScope s_L_is_edit) (by decide +kernel)) (fun _ _ _ _ _ => (pg_name (i := 7) sc_L_is_edit.nd rfl (.inl rfl))) (fun _ _ _ _ _ => pts_nil) (fun _ _ _ _ _ => (pe_and (pe_callB (call_isiC (K := K) rfl) (by rfl) T.n_isinstance (by decide +kernel) (pa_cons (pv 7) (pa_cons (pe_bltn (v := .ty "int") (by rfl) T.n_int (by decide +kernel) rfl) pa_nil))) (pe_and (pe_not (pe_callB (call_isiC (K := K) rfl) (by rfl) T.n_isinstance (by decide +kernel) (pa_cons (pv 7) (pa_cons (pe_bltn (v := .ty "bool") (by rfl) T.n_bool (by decide +kernel) rfl) pa_nil)))) (pe_one (pe_cmpR op_ge (pv 7) pe_int (nomark _))))))) pa_nil)))) (pss_one (ps_ret pe_bl)) pss_nil)
        (pss_cons (ps_if (PW.pt (pw_or (pt_not (pt_val (pe_callB call_isi (by rfl) T.n_isinstance (by decide +kernel) (pa_cons (pv 4) (pa_cons (pe_bltn (v := .ty "str") (by rfl) T.n_str (by decide +kernel) rfl) pa_nil))))) (pw_or1 (pt_cmpR op_gt (pe_op op_add (pv 2) (pv 3)) (pe_callB call_len_str (by rfl) T.n_len PySem.boot_len (pa_cons (pv 0) pa_nil)) (nomark _))))) (pss_one (ps_ret pe_bl)) pss_nil)
        (pss_cons (ps_set (i := 5) sc_L_is_edit.nd rfl (.inr rfl) (pe_op op_add_str (pe_go0 (ok_L_signs T) hG (hr.mono (by decide)) (by rfl) T.g_L_signs T.F_L_signs.kp T.b_L_signs) pe_str))
        (pss_one (ps_ret (pe_callB (cr_all rfl) (by rfl) T.n_all (by decide +kernel) (pa_cons (pe_lc (own := [("_law_sign", 6)]) rfl sc_L_is_edit.nd (pi_str (pv 4)) (blkOk_by (own := [("_law_sign", 6)]) (N := ["_law_writing", "_law_matter", "_law_at", "_law_cut", "_law_put", "_law_signs_here", "_law_sign", "_law_one"]) (sc := defScope s_L_is_edit) (by decide +kernel)) (fun _ _ _ _ _ => (pg_name (i := 6) sc_L_is_edit.nd rfl (.inl rfl))) (fun _ _ _ _ _ => pts_nil) (fun _ _ _ _ _ => (pe_cmpR op_in_sign (pv 6) (pv 5) rfl))) pa_nil))))))))), ?_⟩
    refine ⟨_, rfl, v, .ty "tuple", _, _, isT d, rfl, .ty _, dp_ty hd, k_tuple hd, _, rfl, ?_⟩
    have nt : isT d = false → editD x.length d = false := fun h => by
      unfold editD
      split
      · cases h
      · rfl
    refine ite2 (fun h1 => ?_) (fun h1 => ?_)
    · have q1 := q H (Same.refl _)
      rw [nt (by simpa using h1)] at q1
      exact q1
    have h1 : isT d = true := by simpa using h1
    cases hd with
    | non => cases h1
    | bl => cases h1
    | int => cases h1
    | str => cases h1
    | lst => cases h1
    | @tup a xs ds hS hA =>
      clear h1
      have hlen := dpAll3 hA
      refine ⟨_, rfl, a, xs, rfl, .inr hS, rfl, _, rfl, ite2 (fun h2 => ?_) (fun h2 => ?_)⟩
      · have q1 := q H (Same.refl _)
        rw [editD_len (fun e => by rw [hlen, e] at h2; simp at h2)] at q1
        exact q1
      have h3 : ds.length = 3 := by
        rw [← hlen]
        have h2 : V.int (xs.length : Int) = V.int 3 := by simpa using h2
        injection h2 with h2; omega
      clear h2 hlen
      obtain ⟨v1, v2, v3, d1, d2, d3, rfl, rfl, p1, p2, p3⟩ := dpAll_three hA h3
      clear h1 nt
      have q0 := q
      have hf : (numD d1 && numD d2) = false ∨ isS d3 = false → editD x.length (.tuple [d1, d2, d3]) = false := fun h => by
        unfold editD
        split
        · rename_i a c z e
          injection e with e
          simp only [List.cons.injEq, and_true] at e
          obtain ⟨rfl, rfl, rfl⟩ := e
          rcases h with h | h
          · simp only [numD, isI, isB, ge0, Bool.not_false, Bool.true_and] at h
            rw [← Bool.and_assoc, h, Bool.false_and]
          · cases h
        · rfl
      refine ⟨_, rfl, a, _, rfl, hS, rfl, _, _, rfl, _, _, rfl, _, _, rfl, rfl, ?_⟩
      have hb : ∀ (i : Nat) (y : V), [v1, v2][i]? = some y → ∃ d, [d1, d2][i]? = some d ∧ Dp K H y d := fun i y hy => by
        match i, hy with
        | 0, hy => cases hy; exact ⟨_, rfl, p1⟩
        | 1, hy => cases hy; exact ⟨_, rfl, p2⟩
      dsimp only [tSeq, tIfS, tNot, tB, tCB, tCons]
      refine lc_tupI (K := K) (j := 7) (vs := [7]) (xs := [v1, v2]) (fun i => .bl (numD ([d1, d2].getD i .none))) (fun R r => ?_) (by show 2 ≤ 1000000; decide) (fun i y H' hy s1 Qv q1 => ?_) (fun D H' hD s1 eD => ?_) (fun x => rfl)
      · refine ⟨_, rfl, _, rfl, by show 2 ≤ sizeLine; decide, fun p hp => r _ _ (same_new hp) ⟨p, rfl, SqT.of upd_same⟩⟩
      · obtain ⟨d, ed, hd⟩ := hb i y hy
        have hd' := Dp.same s1 hd
        rw [show [d1, d2].getD i PyData.none = d by rw [List.getD_eq_getElem?_getD, ed]; rfl] at q1
        refine ⟨_, rfl, y, .ty "int", _, _, isI d, rfl, .ty _, dp_ty hd', k_int hd', ?_⟩
        have en : numD d = (isI d && (!isB d && ge0 d)) := rfl
        refine ⟨_, rfl, ite2 (fun h1 => ?_) (fun h1 => ?_)⟩
        · refine ⟨_, rfl, y, .ty "bool", _, _, isB d, rfl, .ty _, dp_ty hd', k_bool hd', ?_⟩
          refine ⟨_, rfl, _, rfl, ite2 (fun h2 => ?_) (fun h2 => ?_)⟩
          · have h2' : isB d = false := by simpa using h2
            cases hd' with
            | int i =>
              refine ⟨_, rfl, _, _, rfl, rfl, ?_⟩
              have q2 := q1 _ (Same.refl _)
              simpa [numD, isI, isB, ge0] using q2
            | bl => cases h2'
            | _ => cases h1
          · have q2 := q1 _ (Same.refl _)
            rw [en, h1, show (!isB d) = false by simpa using h2] at q2
            exact q2
        · have q2 := q1 _ (Same.refl _)
          rw [en, show isI d = false by simpa using h1] at q2
          exact q2
      · refine ⟨D, [numD d1, numD d2], rfl, SqL.of eD, _, rfl, ite2 (fun h1 => ?_) (fun h1 => ?_)⟩
        · have q1 := q H' s1
          rw [hf (.inl (by cases e1 : numD d1 <;> cases e2 : numD d2 <;> simp_all))] at q1
          exact q1
        have hn : numD d1 = true ∧ numD d2 = true := by simpa using h1
        obtain ⟨a1, rfl, ha1⟩ := numD_int hn.1
        obtain ⟨a2, rfl, ha2⟩ := numD_int hn.2
        cases p1
        cases p2
        clear hf hb h1 hn eD h3 hA q0
        have p3' := Dp.same s1 p3
        refine ⟨_, rfl, v3, .ty "str", _, _, isS d3, rfl, .ty _, dp_ty p3', k_str p3', _, rfl, ?_⟩
        refine ite2 (fun h1 => ?_) (fun h1 => ?_)
        · have q1 := q H' s1
          have : editD x.length (.tuple [.int a1, .int a2, d3]) = false := by
            cases d3 with
            | str z => cases h1
            | _ => rfl
          rw [this] at q1
          exact q1
        cases p3' with
        | str z =>
          have hzl : z.length ≤ 1000000 := hz
          have hline : (1000000 : Nat) ≤ sizeLine := by decide
          have eE : editD x.length (.tuple [.int a1, .int a2, .str z]) = (decide (a1 + a2 ≤ (x.length : Int)) && z.cps.toList.all ok2) := by
            show (decide (0 ≤ a1) && (decide (0 ≤ a2) && (decide (a1 + a2 ≤ (x.length : Int)) && z.cps.toList.all ok2))) = _
            rw [decide_eq_true ha1, decide_eq_true ha2, Bool.true_and, Bool.true_and]
          refine ⟨_, rfl, _, rfl, _, _, rfl, rfl, _, rfl, x, rfl, by omega, _, _, rfl, rfl, _, rfl, ite2 (fun h2 => ?_) (fun h2 => ?_)⟩
          · have q1 := q H' s1
            rw [eE, decide_eq_false (show ¬(a1 + a2 ≤ (x.length : Int)) by have := of_decide_eq_true h2; omega)] at q1
            exact q1
          · have q1 := fun H2 s2 => q H2 (s1.trans s2)
            rw [eE, decide_eq_true (show a1 + a2 ≤ (x.length : Int) by have := of_decide_eq_false (Bool.eq_false_iff.mpr h2); omega), Bool.true_and] at q1
            refine ⟨rfl, SX.S signsL, "\n", rfl, rfl, by rw [SX.S_len]; decide +kernel, ?_⟩
            dsimp only [gName, tRet, tCB, tCons]
            refine lc_text (x := z) (j := 6) (vs := [6]) (fun c => .bl (ok2 c)) (fun R r => ⟨_, rfl, r _ _ (Same.refl _) rfl⟩) hzl (fun c H2 hc s2 Qv q2 => ?_) (fun D2 H2 hD s2 e2 => ?_) (fun x => rfl)
            · refine ⟨_, rfl, _, rfl, c, _, rfl, rfl, ?_⟩
              have q3 := q2 _ (Same.refl _)
              have : decide (c ∈ (SX.S signsL ++ "\n" : Str).cps.toList) = ok2 c := by
                have hh : (SX.S signsL ++ "\n" : Str).cps.toList = signsL ++ [10] := by
                  rw [Str.cps_append, Array.toList_append]; rfl
                rw [hh]
                unfold ok2
                rw [← signs_ok c]
                by_cases h : c ∈ signsL <;> by_cases h' : c = 10 <;> simp [h, h']
              rw [this]
              exact q3
            · refine ⟨D2, z.cps.toList.map ok2, rfl, SqL.of (by rw [e2, List.map_map]; rfl), ?_⟩
              rw [List.all_map]
              exact q1 _ s2
        | _ => exact absurd rfl h1
end K02

set_option maxHeartbeats 4000000
namespace K02
open PySem PySem.Spec PyProof.Rows L2 Gx Lx
variable {P : Program} {w : World} {K : PySem.W.Frag} {mg : Str → Option Value} {base : Heap}
theorem up_part {b l : Addr} {H H1 : Hp} (d : Drawn b H H1) (hl : H l = none) : Same (off b H) (off l (off b H1)) := fun a o h => by
  have h1 := d.off a o h
  have : a ≠ l := fun e => by subst e; rw [off_same a o h] at hl; cases hl
  exact off_at this h1
theorem up_set {b l : Addr} {H : Hp} {o : HO} : Same (off l (off b H)) (off b (upd H l o)) := fun a u h => by
  by_cases e : a = l
  · unfold off at h; rw [if_pos e] at h; cases h
  · have h1 := off_same a u h
    by_cases e2 : a = b
    · unfold off at h1; rw [if_pos e2] at h1; cases h1
    · exact off_at e2 (by rw [upd_ne e]; exact off_same a u h1)
theorem te_str {σ : L2.St} {H : Hp} {R : VK} {i : Nat} {v : V} {n : Int} (hv : σ[i]? = some (some v)) (hn : asI v = some n) (hb : n.natAbs ≤ 1000000000) (r : ∀ z : Str, z.length ≤ 70 → (∀ c ∈ z.cps.toList, c < 1114112) → R (.str z) H) :
    tCB (fun xs H Q => ∃ i : Int, (xs = [V.int i] ∧ i.natAbs.log2 < 1920 ∧ Q (.str (toString i)) H) ∨ ∃ b, xs = [V.bl b] ∧ Q (.str (if b then "True" else "False")) H) (tCons (tVar i) tNil) σ H R := by
  refine ⟨v, hv, ?_⟩
  have h64 := log_small hb
  cases v with
  | int m =>
    cases hn
    refine ⟨n, .inl ⟨rfl, by omega, r _ ?_ (ofs_lt _)⟩⟩
    have h4 := int_text_length_le (a := n) (k := 64) (by decide) h64
    show (Str.ofString (toString n)).length ≤ _
    rw [PySem.ofString_length]
    omega
  | bl c =>
    refine ⟨0, .inr ⟨c, rfl, ?_⟩⟩
    cases c
    · exact r _ (by decide +kernel) (ofs_lt _)
    · exact r _ (by decide +kernel) (ofs_lt _)
  | _ => cases hn
theorem dpAll_set {K : PySem.W.Frag} {H : Hp} {y : V} {e : PyData} (hy : Dp K H y e) : ∀ {xs : List V} {ds : List PyData} {j : Nat}, DpAll K H xs ds → DpAll K H (xs.set j y) (ds.set j e)
  | _, _, _, .nil => .nil
  | _, _, 0, .cons a r => .cons hy r
  | _, _, j + 1, .cons a r => .cons a (dpAll_set hy r)
theorem dpAll_take {K : PySem.W.Frag} {H : Hp} : ∀ {xs : List V} {ds : List PyData}, DpAll K H xs ds → ∀ n, DpAll K H (xs.take n) (ds.take n)
  | _, _, .nil, n => by rw [List.take_nil, List.take_nil]; exact .nil
  | _, _, .cons a r, 0 => .nil
  | _, _, .cons a r, n + 1 => .cons a (dpAll_take r n)
theorem dpAll_app {K : PySem.W.Frag} {H : Hp} {ys : List V} {es : List PyData} (h2 : DpAll K H ys es) : ∀ {xs : List V} {ds : List PyData}, DpAll K H xs ds → DpAll K H (xs ++ ys) (ds ++ es)
  | _, _, .nil => h2
  | _, _, .cons a r => .cons a (dpAll_app h2 r)
theorem dpAll_rev {K : PySem.W.Frag} {H : Hp} : ∀ {xs : List V} {ds : List PyData}, DpAll K H xs ds → DpAll K H xs.reverse ds.reverse
  | _, _, .nil => .nil
  | _, _, .cons a r => by
    rw [List.reverse_cons, List.reverse_cons]
    exact dpAll_app (.cons a .nil) (dpAll_rev r)
theorem ixN3 {α : Type} {a b c : α} {j : Nat} (h : j < 3) : ixN [a, b, c].length (j : Int) = some j := by
  unfold ixN
  rw [if_pos (by omega), if_pos (by show (j : Int) < 3; omega), Int.toNat_natCast]
def sp_bent (K : PySem.W.Frag) : Sp := fun vs H Q _ => ∃ (b : Addr) (x : Str) (t : Addr) (ds : List PyData) (B M : Nat), vs = [.ref b, .str x, .ref t] ∧ IsBox H b ∧ x.length ≤ 1000 ∧ Dp K (off b H) (.ref t) (.tuple ds) ∧ ds.length = 3 ∧ (∀ e ∈ ds, PD B M e) ∧
  1001 ≤ B ∧ B ≤ 1000000 ∧ 100 ≤ M ∧ M ≤ 10000 ∧ ∀ v d H', Drawn b H H' → Dp K (off b H') v d → MD (B + 1) (M + 100) d → Q v H'
theorem ok_L_bent (T : Facts K mg) : FnG P w K mg base 3 T.f_L_bent T.d_L_bent ["_law_box_here", "_law_writing", "_law_edit_here"] (sp_bent K) := by
  refine fnG_of T.F_L_bent sc_L_bent (fun vs H Q E h => ?_) (fun cdv A outer s H vs Q hG hr h => ?_)
  · obtain ⟨c, _, _, _, _, _, rfl, _⟩ := h; rfl
  · obtain ⟨b, x, t, ds, B, M, rfl, hb, hx, hd, h3, hpd, hB0, hB1, hM0, hM1, q⟩ := h
    refine ⟨_, (pss_cons (ps_par (i := 3) (j := 4) (by rfl) sc_L_bent.nd rfl rfl (by decide) rfl rfl (pa_cons (pe_callTy call_list_of (by rfl) T.n_list (by decide +kernel) (pa_cons (pv 2) pa_nil)) (pa_cons (pe_go (ok_L_take T) hG (hr.mono (by decide)) (by rfl) T.g_L_take T.F_L_take.kp T.b_L_take (pa_cons (pv 0) (pa_cons pe_int pa_nil))) pa_nil)) (by rfl))
        (pss_cons (ps_set (i := 5) sc_L_bent.nd rfl (.inr rfl) (pe_ix ix_list (pv 3) (pv 4) (fun _ _ => rfl)))
        (pss_cons (ps_if (pt_val (pe_callB call_isi (by rfl) T.n_isinstance (by decide +kernel) (pa_cons (pv 5) (pa_cons (pe_bltn (v := .ty "int") (by rfl) T.n_int (by decide +kernel) rfl) pa_nil)))) (pss_cons (ps_set (i := 6) sc_L_bent.nd rfl (.inl rfl) (pe_lst (pa_cons (pe_op op_addN (pv 5) pe_int) (pa_cons (pe_op op_subN (pv 5) pe_int) (pa_cons (pe_op op_subN pe_int (pv 5)) (pa_cons (pe_callB call_len_str (by rfl) T.n_len PySem.boot_len (pa_cons (pv 1) pa_nil)) (pa_cons (pe_op op_add (pe_callB call_len_str (by rfl) T.n_len PySem.boot_len (pa_cons (pv 1) pa_nil)) pe_int) (pa_cons (pe_un un_neg pe_int) (pa_cons pe_bl (pa_cons pe_non (pa_cons (pe_callTy call_strA (by rfl) T.n_str (by decide +kernel) (pa_cons (pv 5) pa_nil)) pa_nil)))))))))))
        (pss_cons (ps_set (i := 6) sc_L_bent.nd rfl (.inl rfl) (pe_op op_cat (pv 6) (pe_lst (pa_cons (pe_tup (pa_cons (pv 5) pa_nil)) pa_nil))))
        (pss_one (ps_asg (pe_go (ok_L_one_of T) hG (hr.mono (by decide)) (by rfl) T.g_L_one_of T.F_L_one_of.kp T.b_L_one_of (pa_cons (pv 0) (pa_cons (pv 6) pa_nil))) (pg_sub (pv 3) (pv 4) set_list))))) (pss_one (ps_if (pt_val (pe_callB call_isi (by rfl) T.n_isinstance (by decide +kernel) (pa_cons (pv 5) (pa_cons (pe_bltn (v := .ty "str") (by rfl) T.n_str (by decide +kernel) rfl) pa_nil)))) (pss_cons (ps_set (i := 7) sc_L_bent.nd rfl (.inl rfl) (pe_lst (pa_cons pe_str (pa_cons pe_str (pa_cons (pe_op op_mulS pe_str pe_int) (pa_cons (pe_op op_mulS pe_str pe_int) (pa_cons (pe_go0 (ok_L_signs T) hG (hr.mono (by decide)) (by rfl) T.g_L_signs T.F_L_signs.kp T.b_L_signs) (pa_cons (pe_go (ok_L_one_of T) hG (hr.mono (by decide)) (by rfl) T.g_L_one_of T.F_L_one_of.kp T.b_L_one_of (pa_cons (pv 0) (pa_cons (pe_go0 (ok_L_signs T) hG (hr.mono (by decide)) (by rfl) T.g_L_signs T.F_L_signs.kp T.b_L_signs) pa_nil))) pa_nil))))))))
        (pss_one (ps_asg (pe_go (ok_L_one_of T) hG (hr.mono (by decide)) (by rfl) T.g_L_one_of T.F_L_one_of.kp T.b_L_one_of (pa_cons (pv 0) (pa_cons (pe_op op_cat (pe_lc (own := [("_law_sign", 9)]) rfl sc_L_bent.nd (pi_list (pv 7)) (blkOk_by (own := [("_law_sign", 9)]) (N := ["_law_box_here", "_law_writing", "_law_edit_here", "_law_some", "_law_at", "_law_part", "_law_near", "_law_signs_here", "_law_way", "_law_sign"]) (sc := defScope s_L_bent) (by decide +kernel)) (fun _ _ _ _ _ => (pg_name (i := 9) sc_L_bent.nd rfl (.inl rfl))) (fun _ _ _ _ _ => pts_nil) (fun _ _ _ _ _ => (pe_op op_add_str (pv 5) (pv 9)))) (pe_lst (pa_cons pe_non (pa_cons pe_int (pa_cons (pe_tup (pa_cons (pv 5) pa_nil)) (pa_cons (pe_lst (pa_cons (pv 5) pa_nil)) (pa_cons pe_str pa_nil))))))) pa_nil))) (pg_sub (pv 3) (pv 4) set_list)))) pss_nil)))
        (pss_cons (ps_set (i := 8) sc_L_bent.nd rfl (.inl rfl) (pe_go (ok_L_take T) hG (hr.mono (by decide)) (by rfl) T.g_L_take T.F_L_take.kp T.b_L_take (pa_cons (pv 0) (pa_cons pe_int pa_nil))))
        (pss_cons (ps_if (pt_cmpR op_eq (pv 8) pe_int (nomark _)) (pss_one (ps_ret (pv 3))) pss_nil)
        (pss_one (ps_ret (pe_callTy call_tuple_of (by rfl) T.n_tuple (by decide +kernel) (pa_cons (pe_ix ix_list (pe_lst (pa_cons (pe_slice sl_list (pv 3) po_none (po_some pe_int)) (pa_cons (pe_op op_cat (pv 3) (pe_lst (pa_cons pe_int pa_nil))) (pa_cons (pe_revL (pv 3)) (pa_cons (pv 3) (pa_cons (pv 3) pa_nil)))))) (pe_op op_sub (pe_callB (call_min2 rfl) (by rfl) T.n_min (by decide +kernel) (pa_cons (pv 8) (pa_cons pe_int pa_nil))) pe_int) (fun _ _ => rfl)) pa_nil))))))))), ?_⟩
    have hline : (1000000 : Nat) ≤ sizeLine := by decide
    cases hd with
    | tup hS hA =>
    obtain ⟨v1, v2, v3, d1, d2, d3, rfl, rfl, p1, p2, p3⟩ := dpAll_three hA h3
    refine ⟨_, rfl, t, _, rfl, .inr (same_tup off_same hS), fun l hl => ?_⟩
    have dl := (Drawn.refl hb).new (o := .lst [v1, v2, v3]) hl
    have hlb := (Drawn.refl hb).nb hl
    refine ⟨_, rfl, b, 3, rfl, dl.1, by decide, by decide, fun k H1 k0 k1 dk => ?_⟩
    have e1 := dk.2 _ _ hlb upd_same
    have dA := dl.trans dk
    have hget : ∃ (j : Nat) (v : V) (d : PyData), k = (j : Int) ∧ j < 3 ∧ [v1, v2, v3][j]? = some v ∧ d ∈ [d1, d2, d3] ∧ Dp K (off b H) v d := by
      have : k = 0 ∨ k = 1 ∨ k = 2 := by omega
      rcases this with rfl | rfl | rfl
      · exact ⟨0, v1, d1, rfl, by decide, rfl, by simp, p1⟩
      · exact ⟨1, v2, d2, rfl, by decide, rfl, by simp, p2⟩
      · exact ⟨2, v3, d3, rfl, by decide, rfl, by simp, p3⟩
    obtain ⟨j, v, d, rfl, hj, hv, hdm, hd⟩ := hget
    have hP := hpd d hdm
    refine ⟨_, _, rfl, _, rfl, _, rfl, l, _, _, _, rfl, rfl, SqL.of e1, atI_nat hv, ?_⟩
    dsimp only [gName]
    refine seq_via (fun σ' H' => Drawn b H H' ∧ ∃ ws es y6 y7, H' l = some (.lst ws) ∧ DpAll K (off b H') ws es ∧ es.length = 3 ∧ (∀ e ∈ es, PD (B + 1) (M + 100) e) ∧ σ' = [some (.ref b), some (.str x), some (.ref t), some (.ref l), some (.int (j : Int)), some v, y6, y7, none, none]) (fun D' kk => ?_) (fun σ' H' hP => ?_)
    · have fin : ∀ (y : V) (e : PyData) (HA : Hp) (y6 y7 : Option V), Drawn b H1 HA → Dp K (off l (off b HA)) y e → PD (B + 1) (M + 100) e → D'.nx [some (.ref b), some (.str x), some (.ref t), some (.ref l), some (.int (j : Int)), some v, y6, y7, none, none] (upd HA l (.lst ([v1, v2, v3].set j y))) := by
        intro y e HA y6 y7 dy hy he
        refine kk _ _ ⟨(dA.trans dy).at hl hlb _, _, [d1, d2, d3].set j e, y6, y7, upd_same, dpAll_set (Dp.same up_set hy) (DpAll.same ((up_part (dA.trans dy) hl).trans up_set) hA), by rw [List.length_set]; rfl, fun e' he' => ?_, rfl⟩
        rcases List.mem_or_eq_of_mem_set he' with h | h
        · exact (hpd e' h).mono (by omega) (by omega)
        · rw [h]; exact he
      have hd1 : Dp K (off l (off b H1)) v d := Dp.same (up_part dA hl) hd
      have hdo : Dp K H1 v d := Dp.same (off_same.trans off_same) hd1
      refine ⟨_, rfl, v, .ty "int", _, _, isI d, rfl, .ty _, dp_ty hdo, k_int hdo, _, rfl, ite2 (fun hi => ?_) (fun hi => ?_)⟩
      · obtain ⟨n, hn, hnB⟩ : ∃ n : Int, asI v = some n ∧ n.natAbs ≤ B := by
          cases hdo with
          | int i =>
            refine ⟨i, rfl, ?_⟩
            rcases hP with (h | ⟨_, h⟩ | ⟨i', h, hi'⟩ | ⟨_, h, _⟩) | ⟨_, _, h | h⟩
            · cases h
            · cases h
            · cases h; exact hi'
            · cases h
            · cases h
            · cases h
          | bl c => exact ⟨_, rfl, by cases c <;> simp <;> omega⟩
          | _ => cases hi
        refine ⟨_, rfl, n, 1, hn, rfl, _, rfl, n, 1, hn, rfl, .inr ⟨_, rfl⟩, _, rfl, 0, n, rfl, hn, .inl ⟨_, rfl⟩, _, rfl, x, rfl, by omega, _, rfl, x, rfl, by omega, _, _, rfl, rfl, 1, rfl, ?_⟩
        dsimp only [tCons, tC]
        refine te_str (i := 5) (v := v) (n := n) rfl hn (by omega) (fun z hz hzc => ?_)
        refine ⟨by show 9 ≤ sizeLine; decide, fun p6 hp6 => ?_⟩
        have n6 := dA.nb hp6
        have l6 : l ≠ p6 := ne_of_none e1 hp6
        have dB := (Drawn.refl dA.1).new (o := .lst [.int (n + 1), .int (n - 1), .int (0 - n), .int (x.length : Int), .int ((x.length : Int) + 1), .int (-1), .bl true, .non, .str z]) hp6
        refine ⟨_, rfl, _, rfl, by show 1 ≤ sizeLine; decide, fun tp htp => ?_⟩
        have ntp := dB.nb htp
        have ltp : l ≠ tp := ne_of_none (dB.2 _ _ hlb e1) htp
        have dC := dB.new (o := .tup [v]) htp
        refine ⟨by show 1 ≤ sizeLine; decide, fun p7 hp7 => ?_⟩
        have dD := dC.new (o := .lst [.ref tp]) hp7
        have f6 := same_new (o := .lst [.ref tp]) hp7 _ _ (same_new (o := .tup [v]) htp _ _ (upd_same (H := H1) (a := p6) (o := .lst [.int (n + 1), .int (n - 1), .int (0 - n), .int (x.length : Int), .int ((x.length : Int) + 1), .int (-1), .bl true, .non, .str z])))
        have ft := same_new (o := .lst [.ref tp]) hp7 _ _ (upd_same (H := upd H1 p6 (.lst [.int (n + 1), .int (n - 1), .int (0 - n), .int (x.length : Int), .int ((x.length : Int) + 1), .int (-1), .bl true, .non, .str z])) (a := tp) (o := .tup [v]))
        refine ⟨p6, p7, _, _, rfl, rfl, f6, upd_same, by show 9 + 1 ≤ sizeLine; decide, fun p8 hp8 => ?_⟩
        have n8 := dD.nb hp8
        have dE := dD.new (o := .lst [.int (n + 1), .int (n - 1), .int (0 - n), .int (x.length : Int), .int ((x.length : Int) + 1), .int (-1), .bl true, .non, .str z, .ref tp]) hp8
        have ft2 := same_new (o := .lst [.int (n + 1), .int (n - 1), .int (0 - n), .int (x.length : Int), .int ((x.length : Int) + 1), .int (-1), .bl true, .non, .str z, .ref tp]) hp8 _ _ ft
        refine ⟨_, rfl, _, rfl, b, _, [.int (n + 1), .int (n - 1), .int (0 - n), .int (x.length : Int), .int ((x.length : Int) + 1), .int (-1), .bl true, .non, .str z, .ref tp], rfl, dE.1, List.cons_ne_nil _ _, by show 10 ≤ 100000; decide, .inl ⟨p8, rfl, n8, upd_same⟩, fun y HA hy dF => ?_⟩
        have dG := dE.trans dF
        refine ⟨_, rfl, _, rfl, l, _, _, j, rfl, rfl, dG.2 _ _ hlb e1, ?_, ?_⟩
        · exact ixN3 hj
        · have hbs : Bs B M d := by
            rcases hP with h | ⟨_, _, h | h⟩
            · exact h
            · rw [h] at hi; cases hi
            · rw [h] at hi; cases hi
          have hint : ∀ m : Int, m.natAbs ≤ B + 1 → D'.nx [some (.ref b), some (.str x), some (.ref t), some (.ref l), some (.int (j : Int)), some v, some (.ref p8), none, none, none] (upd HA l (.lst ([v1, v2, v3].set j (.int m)))) := fun m hm =>
            fin _ _ HA _ _ dG (.int m) (.inl (.inr (.inr (.inl ⟨m, rfl, hm⟩))))
          simp only [List.mem_cons, List.not_mem_nil, or_false] at hy
          rcases hy with rfl | rfl | rfl | rfl | rfl | rfl | rfl | rfl | rfl | rfl
          · exact hint _ (by omega)
          · exact hint _ (by omega)
          · exact hint _ (by omega)
          · exact hint _ (by omega)
          · exact hint _ (by omega)
          · exact hint _ (by omega)
          · exact fin _ _ HA _ _ dG (.bl true) (.inl (.inr (.inl ⟨_, rfl⟩)))
          · exact fin _ _ HA _ _ dG .non (.inl (.inl rfl))
          · exact fin _ _ HA _ _ dG (.str z) (.inl (.inr (.inr (.inr ⟨z, rfl, by omega, hzc⟩))))
          · refine fin _ (.tuple [d]) HA _ _ dG ?_ (.inr ⟨d, hbs.mono (by omega) (by omega), .inl rfl⟩)
            exact .tup (SqT.of (off_at (Ne.symm ltp) (off_at ntp (dF.2 _ _ ntp ft2)))) (.cons (Dp.same (up_part (dA.trans dG) hl) hd) .nil)
      · refine ⟨_, rfl, v, .ty "str", _, _, isS d, rfl, .ty _, dp_ty hdo, k_str hdo, _, rfl, ite2 (fun hs => ?_) (fun hs => ?_)⟩
        · obtain ⟨z0, rfl, rfl, hz0, hz0c⟩ : ∃ z : Str, v = .str z ∧ d = .str z ∧ z.length ≤ M ∧ ∀ c ∈ z.cps.toList, c < 1114112 := by
            cases hdo with
            | str z =>
              rcases hP with (h | ⟨_, h⟩ | ⟨_, h, _⟩ | ⟨z', h, hz, hzc⟩) | ⟨_, _, h | h⟩
              · cases h
              · cases h
              · cases h
              · cases h; exact ⟨_, rfl, rfl, hz, hzc⟩
              · cases h
              · cases h
            | _ => cases hs
          refine ⟨"z", 61, rfl, rfl, by decide, by decide, by decide +kernel, "\n", 30, rfl, rfl, by decide, by decide, by decide +kernel, rfl, ?_⟩
          refine ⟨_, rfl, rfl, b, _, signsL.map (fun c => .str (SX.S [c])), rfl, dA.1, by decide +kernel, by decide +kernel, .inr ⟨SX.S signsL, rfl, rfl⟩, fun y1 H2 hy1 d2 => ?_⟩
          obtain ⟨c1, hc1, rfl⟩ := List.mem_map.mp hy1
          have e2 := d2.2 _ _ hlb e1
          refine ⟨by show 6 ≤ sizeLine; decide, fun p7 hp7 => ?_⟩
          have n7 := d2.nb hp7
          have f7 : (upd H2 p7 (.lst [.str "~", .str "\n", .str (timesS "z" 61), .str (timesS "\n" 30), .str (SX.S signsL), .str (SX.S [c1])])) p7 = some (.lst [.str "~", .str "\n", .str (timesS "z" 61), .str (timesS "\n" 30), .str (SX.S signsL), .str (SX.S [c1])]) := upd_same
          have d3 := d2.new (o := .lst [.str "~", .str "\n", .str (timesS "z" 61), .str (timesS "\n" 30), .str (SX.S signsL), .str (SX.S [c1])]) hp7
          have hsl : ∀ c ∈ signsL, c < 1114112 := by decide +kernel
          have hsg : ∀ y ∈ [V.str "~", .str "\n", .str (timesS "z" 61), .str (timesS "\n" 30), .str (SX.S signsL), .str (SX.S [c1])], ∃ s : Str, y = .str s ∧ s.length ≤ 94 ∧ ∀ c ∈ s.cps.toList, c < 1114112 := by
            intro y hy
            simp only [List.mem_cons, List.not_mem_nil, or_false] at hy
            rcases hy with rfl | rfl | rfl | rfl | rfl | rfl
            · exact ⟨_, rfl, by decide +kernel, by decide +kernel⟩
            · exact ⟨_, rfl, by decide +kernel, by decide +kernel⟩
            · exact ⟨_, rfl, by decide +kernel, by decide +kernel⟩
            · exact ⟨_, rfl, by decide +kernel, by decide +kernel⟩
            · exact ⟨_, rfl, by rw [SX.S_len]; decide +kernel, hsl⟩
            · refine ⟨_, rfl, by rw [SX.S_len]; show 1 ≤ 94; decide, fun c hc => ?_⟩
              rw [List.mem_singleton.mp (show c ∈ [c1] from hc)]
              exact hsl c1 hc1
          obtain ⟨sgs, esg⟩ : ∃ sgs : List V, sgs = [V.str "~", .str "\n", .str (timesS "z" 61), .str (timesS "\n" 30), .str (SX.S signsL), .str (SX.S [c1])] := ⟨_, rfl⟩
          have hsl6 : sgs.length = 6 := by rw [esg]; rfl
          rw [← esg] at hsg f7 d3
          obtain ⟨H3, eH3⟩ : ∃ H3, H3 = upd H2 p7 (.lst sgs) := ⟨_, rfl⟩
          rw [← eH3] at f7 d3
          have eH4 : upd H2 p7 (.lst [.str "~", .str "\n", .str (timesS "z" (Int.toNat 61)), .str (timesS "\n" (Int.toNat 30)), .str (SX.S signsL), .str (SX.S [c1])]) = H3 := by rw [eH3, esg]; rfl
          dsimp only [gName]
          rw [eH4]
          clear eH4 eH3 esg hsl
          dsimp only [tAsg, tGo]
          refine ⟨_, rfl, ?_⟩
          dsimp only [tOp, tCons]
          refine lc_lst (K := K) (j := 9) (vs := [9]) (xs := sgs) (fun y => match y with | .str s => .str (z0 ++ s) | _ => .non) (fun R r => ⟨_, rfl, r _ _ (Same.refl _) ⟨p7, rfl, SqL.of f7⟩⟩) (by omega) (fun y H' hy s1 Qv q1 => ?_) (fun D H4 hD s1 eD => ?_) (fun x => rfl)
          · obtain ⟨s0, rfl, hs0, _⟩ := hsg y hy
            exact ⟨_, rfl, _, rfl, z0, s0, rfl, rfl, by omega, q1 _ (Same.refl _)⟩
          · have d4 := d3.trans (Drawn.of d3.1 s1)
            have hDl : H1 D = none := by
              cases hq : H1 D with
              | none => rfl
              | some o =>
                by_cases hDb : D = b
                · subst hDb
                  obtain ⟨_, _, _, w⟩ := d3.1
                  rw [w] at hD; cases hD
                · rw [d3.2 D o hDb hq] at hD; cases hD
            have eL4 := d4.2 _ _ hlb e1
            refine ⟨_, rfl, by show 1 ≤ sizeLine; decide, fun tp htp => ?_⟩
            have ntp := d4.nb htp
            have ltp : l ≠ tp := ne_of_none eL4 htp
            have d5 := d4.new (o := .tup [.str z0]) htp
            have sA := same_new (o := .tup [.str z0]) htp
            have ft : (upd H4 tp (.tup [.str z0])) tp = some (.tup [.str z0]) := upd_same
            generalize upd H4 tp (.tup [.str z0]) = H5 at d5 sA ft ⊢
            refine ⟨_, rfl, by show 1 ≤ sizeLine; decide, fun lp hlp => ?_⟩
            have nlp := d5.nb hlp
            have llp : l ≠ lp := ne_of_none (sA _ _ eL4) hlp
            have d6 := d5.new (o := .lst [.str z0]) hlp
            have sB := same_new (o := .lst [.str z0]) hlp
            have fl : (upd H5 lp (.lst [.str z0])) lp = some (.lst [.str z0]) := upd_same
            generalize upd H5 lp (.lst [.str z0]) = H6 at d6 sB fl ⊢
            refine ⟨by show 5 ≤ sizeLine; decide, fun p9 hp9 => ?_⟩
            have d7 := d6.new (o := .lst [.non, .int 0, .ref tp, .ref lp, .str ""]) hp9
            have sC := same_new (o := .lst [.non, .int 0, .ref tp, .ref lp, .str ""]) hp9
            refine ⟨D, p9, _, _, rfl, rfl, sC _ _ (sB _ _ (sA _ _ eD)), upd_same, by rw [List.length_map, hsl6]; show 6 + 5 ≤ sizeLine; decide, fun p10 hp10 => ?_⟩
            have n10 := d7.nb hp10
            have d8 := d7.new (o := .lst (sgs.map (fun y => match y with | .str s => V.str (z0 ++ s) | _ => .non) ++ [.non, .int 0, .ref tp, .ref lp, .str ""])) hp10
            have sD := sC.trans (same_new (o := .lst (sgs.map (fun y => match y with | .str s => V.str (z0 ++ s) | _ => .non) ++ [.non, .int 0, .ref tp, .ref lp, .str ""])) hp10)
            refine ⟨b, _, sgs.map (fun y => match y with | .str s => V.str (z0 ++ s) | _ => .non) ++ [.non, .int 0, .ref tp, .ref lp, .str ""], rfl, d8.1, by simp, by rw [List.length_append, List.length_map, hsl6]; show 6 + 5 ≤ 100000; decide, .inl ⟨p10, rfl, n10, upd_same⟩, fun y HA hy dF => ?_⟩
            have dG := d8.trans dF
            have ft' := dF.2 _ _ ntp (sD _ _ (sB _ _ ft))
            have fl' := dF.2 _ _ nlp (sD _ _ fl)
            have hz1 : Bs (B + 1) (M + 100) (.str z0) := .inr (.inr (.inr ⟨z0, rfl, by omega, hz0c⟩))
            refine ⟨_, rfl, _, rfl, l, _, _, j, rfl, rfl, dG.2 _ _ hlb e1, ixN3 hj, ?_⟩
            rcases List.mem_append.mp hy with hy | hy
            · obtain ⟨y0, hy0, rfl⟩ := List.mem_map.mp hy
              obtain ⟨s0, rfl, hs0, hs0c⟩ := hsg y0 hy0
              refine fin _ _ HA _ _ dG (.str (z0 ++ s0)) (.inl (.inr (.inr (.inr ⟨_, rfl, by rw [app_len]; omega, fun c hc => ?_⟩))))
              rw [Str.cps_append, Array.toList_append] at hc
              rcases List.mem_append.mp hc with hc | hc
              · exact hz0c c hc
              · exact hs0c c hc
            · simp only [List.mem_cons, List.not_mem_nil, or_false] at hy
              rcases hy with rfl | rfl | rfl | rfl | rfl
              · exact fin _ _ HA _ _ dG .non (.inl (.inl rfl))
              · exact fin _ _ HA _ _ dG (.int 0) (.inl (.inr (.inr (.inl ⟨0, rfl, Nat.zero_le _⟩))))
              · exact fin _ (.tuple [.str z0]) HA _ _ dG (.tup (SqT.of (off_at (Ne.symm ltp) (off_at ntp ft'))) (.cons (.str z0) .nil)) (.inr ⟨_, hz1, .inl rfl⟩)
              · exact fin _ (.list [.str z0]) HA _ _ dG (.lst (SqL.of (off_at (Ne.symm llp) (off_at nlp fl'))) (.cons (.str z0) .nil)) (.inr ⟨_, hz1, .inr rfl⟩)
              · exact fin _ _ HA _ _ dG (.str "") (.inl (.inr (.inr (.inr ⟨_, rfl, by show 0 ≤ _; omega, by decide +kernel⟩))))
        · exact kk _ _ ⟨dA, _, _, none, none, e1, DpAll.same dA.off hA, rfl, fun e he => (hpd e he).mono (by omega) (by omega), rfl⟩
    · obtain ⟨dB, ws, es, y6, y7, e2, hE, h3e, hPe, rfl⟩ := hP
      clear hd p1 p2 p3 hA hpd hdm hv
      refine ⟨_, rfl, b, 9, rfl, dB.1, by decide, by decide, fun wv HB w0 w1 dW => ?_⟩
      have dC := dB.trans dW
      have eB := dW.2 _ _ hlb e2
      have hEB := DpAll.same dW.off hE
      refine ⟨_, rfl, rfl, _, rfl, ite2 (fun hw => ?_) (fun hw => ?_)⟩
      · exact ⟨_, rfl, q _ (.list es) HB dC (.lst (SqL.of (off_at hlb eB)) hEB) ⟨es, .inr rfl, by omega, hPe⟩⟩
      · have hwn : 1 ≤ wv := by
          have : ¬ wv = 0 := fun h => hw (by rw [h]; rfl)
          omega
        have hwl : ws.length = 3 := (dpAll3 hE).trans h3e
        refine ⟨_, rfl, 2, rfl, l, ws, rfl, SqL.of eB, fun p1 hp1 => ?_⟩
        have s1 := same_new (o := .lst (cutV ws none (some 2))) hp1
        have f1 : (upd HB p1 (.lst (cutV ws none (some 2)))) p1 = some (.lst (cutV ws none (some 2))) := upd_same
        have d1 := dC.new (o := .lst (cutV ws none (some 2))) hp1
        have n1 := dC.nb hp1
        generalize upd HB p1 (.lst (cutV ws none (some 2))) = HC at s1 f1 d1 ⊢
        refine ⟨_, rfl, by show 1 ≤ sizeLine; decide, fun p2 hp2 => ?_⟩
        have s2 := same_new (o := .lst [.int 0]) hp2
        have d2 := d1.new (o := .lst [.int 0]) hp2
        refine ⟨l, p2, _, _, rfl, rfl, s2 _ _ (s1 _ _ eB), upd_same, by rw [hwl]; show 3 + 1 ≤ sizeLine; decide, fun p3 hp3 => ?_⟩
        have s3 := s2.trans (same_new (o := .lst (ws ++ [.int 0])) hp3)
        have d3 := d2.new (o := .lst (ws ++ [.int 0])) hp3
        have n3 := d2.nb hp3
        have f3 : (upd (upd HC p2 (.lst [.int 0])) p3 (.lst (ws ++ [.int 0]))) p3 = some (.lst (ws ++ [.int 0])) := upd_same
        generalize upd (upd HC p2 (.lst [.int 0])) p3 (.lst (ws ++ [.int 0])) = HD at s3 f3 d3 ⊢
        refine ⟨_, rfl, l, ws, rfl, SqL.of (s3 _ _ (s1 _ _ eB)), fun p4 hp4 => ?_⟩
        have s4 := same_new (o := .lst ws.reverse) hp4
        have d4 := d3.new (o := .lst ws.reverse) hp4
        have n4 := d3.nb hp4
        have f4 : (upd HD p4 (.lst ws.reverse)) p4 = some (.lst ws.reverse) := upd_same
        generalize upd HD p4 (.lst ws.reverse) = HE at s4 f4 d4 ⊢
        refine ⟨_, rfl, _, rfl, by show 5 ≤ sizeLine; decide, fun p5 hp5 => ?_⟩
        have s5 := same_new (o := .lst [.ref p1, .ref p3, .ref p4, .ref l, .ref l]) hp5
        have d5 := d4.new (o := .lst [.ref p1, .ref p3, .ref p4, .ref l, .ref l]) hp5
        have f5 : (upd HE p5 (.lst [.ref p1, .ref p3, .ref p4, .ref l, .ref l])) p5 = some (.lst [.ref p1, .ref p3, .ref p4, .ref l, .ref l]) := upd_same
        generalize upd HE p5 (.lst [.ref p1, .ref p3, .ref p4, .ref l, .ref l]) = HF at s5 f5 d5 ⊢
        have sF : Same HB HF := ((s1.trans s3).trans s4).trans s5
        have hEF := DpAll.same (same_off sF) hEB
        have key : ∃ (pX : Addr) (zs : List V) (es' : List PyData), atI [V.ref p1, .ref p3, .ref p4, .ref l, .ref l] ((if 5 < wv then 5 else wv) - 1) = some (.ref pX) ∧ HF pX = some (.lst zs) ∧ DpAll K (off b HF) zs es' ∧ es'.length ≤ 4 ∧ ∀ e ∈ es', PD (B + 1) (M + 100) e := by
          have h5 : (if 5 < wv then 5 else wv) - 1 = 0 ∨ (if 5 < wv then 5 else wv) - 1 = 1 ∨ (if 5 < wv then 5 else wv) - 1 = 2 ∨ (if 5 < wv then 5 else wv) - 1 = 3 ∨ (if 5 < wv then 5 else wv) - 1 = 4 := by
            by_cases h : 5 < wv
            · rw [if_pos h]; omega
            · rw [if_neg h]; omega
          rcases h5 with h | h | h | h | h <;> rw [h]
          · refine ⟨p1, _, es.take 2, atI_nat (j := 0) rfl, s5 _ _ (s4 _ _ (s3 _ _ f1)), ?_, by rw [List.length_take]; omega, fun e he => hPe e (List.mem_of_mem_take he)⟩
            rw [show (some 2 : Option Int) = some ((2 : Nat) : Int) from rfl, cutV_to]
            exact dpAll_take hEF 2
          · refine ⟨p3, _, es ++ [.int 0], atI_nat (j := 1) rfl, s5 _ _ (s4 _ _ f3), dpAll_app (.cons (.int 0) .nil) hEF, by rw [List.length_append, h3e]; show 3 + 1 ≤ 4; decide, fun e he => ?_⟩
            rcases List.mem_append.mp he with he | he
            · exact hPe e he
            · rw [List.mem_singleton.mp he]; exact .inl (.inr (.inr (.inl ⟨0, rfl, Nat.zero_le _⟩)))
          · exact ⟨p4, _, es.reverse, atI_nat (j := 2) rfl, s5 _ _ f4, dpAll_rev hEF, by rw [List.length_reverse]; omega, fun e he => hPe e (List.mem_reverse.mp he)⟩
          · exact ⟨l, _, es, atI_nat (j := 3) rfl, sF _ _ eB, hEF, by omega, hPe⟩
          · exact ⟨l, _, es, atI_nat (j := 4) rfl, sF _ _ eB, hEF, by omega, hPe⟩
        obtain ⟨pX, zs, es', hat, fX, hX, hXl, hXp⟩ := key
        refine ⟨_, rfl, _, _, rfl, _, _, rfl, rfl, p5, _, _, _, rfl, rfl, SqL.of f5, hat, pX, zs, rfl, .inl ⟨SqL.of fX, fun tq htq => ?_⟩⟩
        exact q _ (.tuple es') _ (d5.new htq) (.tup (SqT.of (off_at (d5.nb htq) upd_same)) (DpAll.same (same_off (same_new htq)) hX)) ⟨es', .inl rfl, hXl, hXp⟩
end K02

set_option maxHeartbeats 4000000
namespace K02
open PySem PySem.Spec PyProof.Rows L2 Gx Lx
variable {P : Program} {w : World} {K : PySem.W.Frag} {mg : Str → Option Value} {base : Heap}
def sp_is_count (K : PySem.W.Frag) : Sp := fun vs H Q _ => ∃ (v : V) (d : PyData), vs = [v] ∧ Dp K H v d ∧ ∀ H', Same H H' → Q (.bl (numD d)) H'
theorem ok_is_count (T : Facts K mg) : FnG P w K mg base 1 T.f_is_count T.d_is_count ["thing"] (sp_is_count K) := by
  refine fnG_of T.F_is_count sc_is_count (fun vs H Q E h => ?_) (fun cdv A outer s H vs Q hG hr h => ?_)
  · obtain ⟨_, _, rfl, _⟩ := h; rfl
  · obtain ⟨v, d, rfl, hd, q⟩ := h
    refine ⟨_, (pss_one (ps_ret (pe_and (pe_callB call_isi (by rfl) T.n_isinstance (by decide +kernel) (pa_cons (pv 0) (pa_cons (pe_bltn (v := .ty "int") (by rfl) T.n_int (by decide +kernel) rfl) pa_nil))) (pe_and (pe_not (pe_callB call_isi (by rfl) T.n_isinstance (by decide +kernel) (pa_cons (pv 0) (pa_cons (pe_bltn (v := .ty "bool") (by rfl) T.n_bool (by decide +kernel) rfl) pa_nil)))) (pe_one (pe_cmpR op_ge (pv 0) pe_int (nomark _))))))), ?_⟩
    have en : numD d = (isI d && (!isB d && ge0 d)) := rfl
    refine ⟨_, rfl, v, .ty "int", _, _, isI d, rfl, .ty _, dp_ty hd, k_int hd, ?_⟩
    refine ⟨_, rfl, ite2 (fun h1 => ?_) (fun h1 => ?_)⟩
    · refine ⟨_, rfl, v, .ty "bool", _, _, isB d, rfl, .ty _, dp_ty hd, k_bool hd, ?_⟩
      refine ⟨_, rfl, _, rfl, ite2 (fun h2 => ?_) (fun h2 => ?_)⟩
      · have h2' : isB d = false := by simpa using h2
        cases hd with
        | int i =>
          refine ⟨_, rfl, _, _, rfl, rfl, ?_⟩
          have q2 := q _ (Same.refl _)
          simpa [numD, isI, isB, ge0] using q2
        | bl => cases h2'
        | _ => cases h1
      · have q2 := q _ (Same.refl _)
        rw [en, h1, show (!isB d) = false by simpa using h2] at q2
        exact q2
    · have q2 := q _ (Same.refl _)
      rw [en, show isI d = false by simpa using h1] at q2
      exact q2
theorem nl_eq {c : Nat} (h : decide (V.str (SX.S [c]) = V.str (Str.ofString "\n")) = true) : c = 10 := by
  have h := of_decide_eq_true h
  injection h with h
  have h2 : (SX.S [c]).cps.toList = (SX.S [10]).cps.toList := by rw [h]; rfl
  simpa [SX.S] using h2
def putD : PyData → Bool
  | .str z => z.cps.toList.all ok2
  | _ => false
def lenD : PyData → Nat
  | .str z => z.length
  | _ => 0
def sp_is_put (K : PySem.W.Frag) : Sp := fun vs H Q _ => ∃ (v : V) (d : PyData), vs = [v] ∧ Dp K H v d ∧ lenD d ≤ 1000000 ∧ ∀ H', Same H H' → Q (.bl (putD d)) H'
theorem ok_is_put (T : Facts K mg) : FnG P w K mg base 2 T.f_is_put T.d_is_put ["thing"] (sp_is_put K) := by
  refine fnG_of T.F_is_put sc_is_put (fun vs H Q E h => ?_) (fun cdv A outer s H vs Q hG hr h => ?_)
  · obtain ⟨_, _, rfl, _⟩ := h; rfl
  · obtain ⟨v, d, rfl, hd, hz, q⟩ := h
    refine ⟨_, (pss_one (ps_ret (pe_and (pe_callB call_isi (by rfl) T.n_isinstance (by decide +kernel) (pa_cons (pv 0) (pa_cons (pe_bltn (v := .ty "str") (by rfl) T.n_str (by decide +kernel) rfl) pa_nil))) (pe_one (pe_callB (cr_all rfl) (by rfl) T.n_all (by decide +kernel) (pa_cons (pe_lc (own := [("sign", 1)]) rfl sc_is_put.nd (pi_str (pv 0)) (blkOk_by (own := [("sign", 1)]) (N := ["thing", "sign"]) (sc := defScope s_is_put) (by decide +kernel)) (fun _ _ _ _ _ => (pg_name (i := 1) sc_is_put.nd rfl (.inl rfl))) (fun _ _ _ _ _ => pts_nil) (fun _ _ _ _ _ => (pe_or (pe_cmpR op_eq (pv 1) pe_str (nomark _)) (pe_one (pe_go (ok_is_sign T) hG (hr.mono (by decide)) (by rfl) T.g_is_sign T.F_is_sign.kp T.b_is_sign (pa_cons (pv 1) pa_nil)))))) pa_nil)))))), ?_⟩
    refine ⟨_, rfl, v, .ty "str", _, _, isS d, rfl, .ty _, dp_ty hd, k_str hd, ?_⟩
    refine ⟨_, rfl, ite2 (fun h1 => ?_) (fun h1 => ?_)⟩
    · cases hd with
      | str z =>
        have hzl : z.length ≤ 1000000 := hz
        dsimp only [gName, tRet, tCB, tCons]
        refine lc_text (x := z) (j := 1) (vs := [1]) (fun c => .bl (ok2 c)) (fun R r => ⟨_, rfl, r _ _ (Same.refl _) rfl⟩) hzl (fun c H2 hc s2 Qv q2 => ?_) (fun D2 H2 hD s2 e2 => ?_) (fun x => rfl)
        · have q3 := q2 _ (Same.refl _)
          refine ⟨_, rfl, rfl, _, rfl, ite2 (fun h2 => ?_) (fun h2 => ?_)⟩
          · have hc10 : c = 10 := nl_eq h2
            rw [show ok2 c = true by rw [hc10]; rfl] at q3
            exact q3
          · have hc10 : c ≠ 10 := fun e => h2 (by subst e; exact decide_eq_true (p := V.str (SX.S [10]) = V.str (Str.ofString "\n")) rfl)
            rw [show ok2 c = ok1 c by unfold ok2; rw [decide_eq_false hc10, Bool.false_or]] at q3
            exact ⟨_, rfl, c, rfl, q3⟩
        · refine ⟨D2, z.cps.toList.map ok2, rfl, SqL.of (by rw [e2, List.map_map]; rfl), ?_⟩
          rw [List.all_map]
          exact q _ s2
      | _ => cases h1
    · have q2 := q _ (Same.refl _)
      have : putD d = false := by
        cases d with
        | str => exact absurd rfl h1
        | _ => rfl
      rw [this] at q2
      exact q2
theorem ok_is_edit (T : Facts K mg) : FnG P w K mg base 3 T.f_is_edit T.d_is_edit ["text", "thing"] (sp_is_edit K) := by
  refine fnG_of T.F_is_edit sc_is_edit (fun vs H Q E h => ?_) (fun cdv A outer s H vs Q hG hr h => ?_)
  · obtain ⟨c, _, _, rfl, _⟩ := h; rfl
  · obtain ⟨x, v, d, rfl, hx, hd, hz, q⟩ := h
    refine ⟨_, (pss_cons (ps_if (PW.pt (pw_or (pt_not (pt_val (pe_callB call_isi (by rfl) T.n_isinstance (by decide +kernel) (pa_cons (pv 1) (pa_cons (pe_bltn (v := .ty "tuple") (by rfl) T.n_tuple (by decide +kernel) rfl) pa_nil))))) (pw_or1 (pt_cmpR op_ne (pe_callB call_len_seq (by rfl) T.n_len PySem.boot_len (pa_cons (pv 1) pa_nil)) pe_int (nomark _))))) (pss_one (ps_ret pe_bl)) pss_nil)
        (pss_cons (ps_asg (pv 1) (pg_tup rfl (pgs_cons (pg_name (i := 2) sc_is_edit.nd rfl (.inl rfl)) (pgs_cons (pg_name (i := 3) sc_is_edit.nd rfl (.inl rfl)) (pgs_cons (pg_name (i := 4) sc_is_edit.nd rfl (.inl rfl)) pgs_nil)))))
        (pss_one (ps_ret (pe_and (pe_go (ok_is_count T) hG (hr.mono (by decide)) (by rfl) T.g_is_count T.F_is_count.kp T.b_is_count (pa_cons (pv 2) pa_nil)) (pe_and (pe_go (ok_is_count T) hG (hr.mono (by decide)) (by rfl) T.g_is_count T.F_is_count.kp T.b_is_count (pa_cons (pv 3) pa_nil)) (pe_and (pe_cmpR op_le (pe_op op_add (pv 2) (pv 3)) (pe_callB call_len_str (by rfl) T.n_len PySem.boot_len (pa_cons (pv 0) pa_nil)) (nomark _)) (pe_one (pe_go (ok_is_put T) hG (hr.mono (by decide)) (by rfl) T.g_is_put T.F_is_put.kp T.b_is_put (pa_cons (pv 4) pa_nil)))))))))), ?_⟩
    refine ⟨_, rfl, v, .ty "tuple", _, _, isT d, rfl, .ty _, dp_ty hd, k_tuple hd, _, rfl, ?_⟩
    have nt : isT d = false → editD x.length d = false := fun h => by
      unfold editD
      split
      · cases h
      · rfl
    refine ite2 (fun h1 => ?_) (fun h1 => ?_)
    · have q1 := q H (Same.refl _)
      rw [nt (by simpa using h1)] at q1
      exact q1
    have h1 : isT d = true := by simpa using h1
    cases hd with
    | non => cases h1
    | bl => cases h1
    | int => cases h1
    | str => cases h1
    | lst => cases h1
    | @tup a xs ds hS hA =>
      clear h1
      have hlen := dpAll3 hA
      refine ⟨_, rfl, a, xs, rfl, .inr hS, rfl, _, rfl, ite2 (fun h2 => ?_) (fun h2 => ?_)⟩
      · have q1 := q H (Same.refl _)
        rw [editD_len (fun e => by rw [hlen, e] at h2; simp at h2)] at q1
        exact q1
      have h3 : ds.length = 3 := by
        rw [← hlen]
        have h2 : V.int (xs.length : Int) = V.int 3 := by simpa using h2
        injection h2 with h2; omega
      clear h2 hlen
      obtain ⟨v1, v2, v3, d1, d2, d3, rfl, rfl, p1, p2, p3⟩ := dpAll_three hA h3
      clear h1 nt
      refine ⟨_, rfl, a, _, rfl, hS, rfl, _, _, rfl, _, _, rfl, _, _, rfl, rfl, ?_⟩
      have hf : (numD d1 && (numD d2 && putD d3)) = false → editD x.length (.tuple [d1, d2, d3]) = false := fun h => by
        unfold editD
        split
        · rename_i a c z e
          injection e with e
          simp only [List.cons.injEq, and_true] at e
          obtain ⟨rfl, rfl, rfl⟩ := e
          simp only [numD, isI, isB, ge0, Bool.not_false, Bool.true_and, putD] at h
          cases hh : decide (0 ≤ a) <;> cases hk : decide (0 ≤ c) <;> simp_all
        · rfl
      refine ⟨_, rfl, v1, d1, rfl, p1, fun H1 s1 => ⟨_, rfl, ite2 (fun h1 => ?_) (fun h1 => ?_)⟩⟩
      · refine ⟨_, rfl, v2, d2, rfl, Dp.same s1 p2, fun H2 s2 => ⟨_, rfl, ite2 (fun h2 => ?_) (fun h2 => ?_)⟩⟩
        · have hn1 : numD d1 = true := by simpa using h1
          have hn2 : numD d2 = true := by simpa using h2
          obtain ⟨a1, rfl, ha1⟩ := numD_int hn1
          obtain ⟨a2, rfl, ha2⟩ := numD_int hn2
          cases p1
          cases p2
          have p3' := Dp.same (s1.trans s2) p3
          have hline : (1000000 : Nat) ≤ sizeLine := by decide
          refine ⟨_, rfl, _, rfl, _, _, rfl, rfl, _, rfl, x, rfl, by omega, _, _, rfl, rfl, ?_⟩
          refine ⟨_, rfl, ite2 (fun h4 => ?_) (fun h4 => ?_)⟩
          · refine ⟨_, rfl, v3, d3, rfl, p3', ?_, fun H3 s3 => ?_⟩
            · cases d3 <;> first | exact hz | exact Nat.zero_le _
            · have q1 := q H3 ((s1.trans s2).trans s3)
              have : editD x.length (.tuple [.int a1, .int a2, d3]) = putD d3 := by
                cases d3 with
                | str z =>
                  show (decide (0 ≤ a1) && (decide (0 ≤ a2) && (decide (a1 + a2 ≤ (x.length : Int)) && z.cps.toList.all ok2))) = z.cps.toList.all ok2
                  rw [decide_eq_true ha1, decide_eq_true ha2, Bool.true_and, Bool.true_and, decide_eq_true (of_decide_eq_true h4), Bool.true_and]
                | _ => rfl
              rw [this] at q1
              exact q1
          · have q1 := q H2 (s1.trans s2)
            have : editD x.length (.tuple [.int a1, .int a2, d3]) = false := by
              cases d3 with
              | str z =>
                show (decide (0 ≤ a1) && (decide (0 ≤ a2) && (decide (a1 + a2 ≤ (x.length : Int)) && z.cps.toList.all ok2))) = false
                rw [decide_eq_false (p := a1 + a2 ≤ (x.length : Int)) (of_decide_eq_false (Bool.eq_false_iff.mpr h4)), Bool.false_and, Bool.and_false, Bool.and_false]
              | _ => rfl
            rw [this] at q1
            exact q1
        · have q1 := q H2 (s1.trans s2)
          rw [hf (by rw [show numD d2 = false by simpa using h2, Bool.false_and, Bool.and_false])] at q1
          exact q1
      · have q1 := q H1 s1
        rw [hf (by rw [show numD d1 = false by simpa using h1, Bool.false_and])] at q1
        exact q1
end K02

set_option maxHeartbeats 4000000
namespace K02
open PySem PySem.Spec PyProof.Rows L2 Gx Lx
variable {P : Program} {w : World} {K : PySem.W.Frag} {mg : Str → Option Value} {base : Heap}
def sp_told (K : PySem.W.Frag) : Sp := fun vs H Q _ => ∃ (x : Str) (v : V) (d : PyData), vs = [.str x, v] ∧ x.length ≤ 1000 ∧ Dp K H v d ∧ putLen d ≤ 1000000 ∧ Rp 5000000 60 d ∧ ∀ H', Same H H' → Q (.bl true) H'
theorem ok_L_told_right (T : Facts K mg) : FnG P w K mg base 4 T.f_L_told_right T.d_L_told_right ["_law_writing", "_law_matter"] (sp_told K) := by
  refine fnG_of T.F_L_told_right sc_L_told_right (fun vs H Q E h => ?_) (fun cdv A outer s H vs Q hG hr h => ?_)
  · obtain ⟨c, _, _, rfl, _⟩ := h; rfl
  · obtain ⟨x, v, d, rfl, hx, hd, hz, hR, q⟩ := h
    refine ⟨_, (pss_cons (ps_par (i := 2) (j := 3) (by rfl) sc_L_told_right.nd rfl rfl (by decide) rfl rfl (pa_cons (pe_callB (call_reprA hG hr.units) (by rfl) T.n_repr (by decide +kernel) (pa_cons (pv 1) pa_nil)) (pa_cons (pe_go (ok_is_edit T) hG (hr.mono (by decide)) (by rfl) T.g_is_edit T.F_is_edit.kp T.b_is_edit (pa_cons (pv 0) (pa_cons (pv 1) pa_nil))) pa_nil)) (by rfl))
        (pss_one (ps_ret (pe_and (pe_callB call_isi (by rfl) T.n_isinstance (by decide +kernel) (pa_cons (pv 3) (pa_cons (pe_bltn (v := .ty "bool") (by rfl) T.n_bool (by decide +kernel) rfl) pa_nil))) (pe_and (pe_cmpR op_eq (pv 3) (pe_go (ok_L_is_edit T) hG (hr.mono (by decide)) (by rfl) T.g_L_is_edit T.F_L_is_edit.kp T.b_L_is_edit (pa_cons (pv 0) (pa_cons (pv 1) pa_nil))) (nomark _)) (pe_one (pe_cmpR op_eq (pe_callB (call_reprA hG hr.units) (by rfl) T.n_repr (by decide +kernel) (pa_cons (pv 1) pa_nil)) (pv 2) (nomark _)))))))), ?_⟩
    have hsl : (5000000 : Nat) ≤ sizeLine := by decide
    refine ⟨_, rfl, v, d, rfl, hd, hR.1, hR.2.1, hR.2.2.1, Nat.le_trans hR.2.2.2 hsl, ?_⟩
    refine ⟨_, rfl, _, rfl, x, v, d, rfl, hx, hd, hz, fun H1 s1 => ?_⟩
    refine ⟨_, _, rfl, ?_⟩
    have hd1 := Dp.same s1 hd
    refine ⟨_, rfl, .bl _, .ty "bool", _, _, true, rfl, .ty _, .base (.bl _), kit_ty (by decide +kernel), true, rfl, iteT ?_⟩
    refine ⟨_, rfl, _, rfl, _, rfl, x, v, d, rfl, hx, hd1, hz, fun H2 s2 => ?_⟩
    have hd2 := Dp.same s2 hd1
    refine ⟨rfl, true, by simp, iteT ?_⟩
    refine ⟨_, rfl, v, d, rfl, hd2, hR.1, hR.2.1, hR.2.2.1, Nat.le_trans hR.2.2.2 hsl, ?_⟩
    refine ⟨_, rfl, rfl, ?_⟩
    have q1 := q H2 (s1.trans s2)
    simpa using q1
end K02

set_option maxHeartbeats 4000000
namespace K02
open PySem PySem.Spec PyProof.Rows L2 Gx Lx
variable {P : Program} {w : World} {K : PySem.W.Frag} {mg : Str → Option Value} {base : Heap}
theorem joinL_all {p : Nat → Bool} (h10 : p 10 = true) : ∀ ls : List (List Nat), (∀ l ∈ ls, l.all p = true) → (TL.joinL [10] ls).all p = true
  | [], _ => rfl
  | [l], h => h l (List.mem_cons_self ..)
  | l :: m :: ls, h => by
    show (l ++ ([10] ++ TL.joinL [10] (m :: ls))).all p = true
    rw [List.all_append, List.all_append, h l (List.mem_cons_self ..), joinL_all h10 (m :: ls) fun y hy => h y (List.mem_cons_of_mem _ hy), Bool.true_and, Bool.and_true]
    show (p 10 && true) = true
    rw [h10]; rfl
theorem Wr.ok2 {ls : List (List Nat)} {x : Str} (h : Wr ls x) : x.cps.toList.all ok2 = true := by
  rw [h.tl]
  refine joinL_all rfl ls fun l hl => ?_
  have := (h.good l hl).2
  rw [List.all_eq_true] at this ⊢
  intro k hk
  unfold K02.ok2
  rw [this k hk, Bool.or_true]
theorem ok2_lt {z : Str} (h : z.cps.toList.all ok2 = true) : ∀ c ∈ z.cps.toList, c < 1114112 := fun c hc => by
  have := List.all_eq_true.mp h c hc
  unfold ok2 at this
  rw [Bool.or_eq_true] at this
  rcases this with h | h
  · rw [of_decide_eq_true h]; decide
  · exact ok1_lt h
theorem putLen_md {B M : Nat} {d : PyData} (h : MD B M d) : putLen d ≤ M := by
  obtain ⟨ds, hd, hl, hp⟩ := h
  unfold putLen
  split
  · rename_i z
    rcases hd with hd | hd
    · injection hd with hd
      have := hp (.str z) (by rw [← hd]; simp)
      rcases this with (h | ⟨_, h⟩ | ⟨_, h, _⟩ | ⟨z', h, hz, _⟩) | ⟨_, _, h | h⟩
      · cases h
      · cases h
      · cases h
      · cases h; exact hz
      · cases h
      · cases h
    · cases hd
  · exact Nat.zero_le _
def sp_right : Sp := fun vs H Q _ => ∃ b : Addr, vs = [.ref b] ∧ IsBox H b ∧ ∀ H', Drawn b H H' → Q (.bl true) H'
theorem ok_L_right (T : Facts K mg) : FnG P w K mg base 5 T.f_L_right T.d_L_right ["_law_box_here"] sp_right := by
  refine fnG_of T.F_L_right sc_L_right (fun vs H Q E h => ?_) (fun cdv A outer s H vs Q hG hr h => ?_)
  · obtain ⟨c, rfl, _⟩ := h; rfl
  · obtain ⟨b, rfl, hb, q⟩ := h
    refine ⟨_, (pss_cons (ps_for PassesOwn.never rfl (pi_range1 (by rfl) T.n_range (pa_cons pe_int pa_nil)) (pg_name (i := 1) sc_L_right.nd rfl (.inl rfl)) (pss_cons (ps_set (i := 2) sc_L_right.nd rfl (.inl rfl) (pe_go (ok_L_text T) hG (hr.mono (by decide)) (by rfl) T.g_L_text T.F_L_text.kp T.b_L_text (pa_cons (pv 0) (pa_cons pe_int pa_nil))))
        (pss_cons (ps_set (i := 3) sc_L_right.nd rfl (.inl rfl) (pe_go (ok_L_edit T) hG (hr.mono (by decide)) (by rfl) T.g_L_edit T.F_L_edit.kp T.b_L_edit (pa_cons (pv 0) (pa_cons (pv 2) pa_nil))))
        (pss_cons (ps_if (PW.pt (pw_or (pt_not (pt_val (pe_go (ok_L_is_edit T) hG (hr.mono (by decide)) (by rfl) T.g_L_is_edit T.F_L_is_edit.kp T.b_L_is_edit (pa_cons (pv 2) (pa_cons (pv 3) pa_nil))))) (pw_or1 (pt_cmpR op_notBl (pe_goK0 (ok_is_edit T) hG (hr.mono (by decide)) (by rfl) T.g_is_edit T.F_is_edit.kp (kb_is_edit_0_thing_text T) (pk_cons (pv 3) (pk_cons (pv 2) pk_nil))) pe_bl (nomark _))))) (pss_one (ps_ret pe_bl)) pss_nil)
        (pss_cons (ps_for PassesOwn.never rfl (pi_range1 (by rfl) T.n_range (pa_cons pe_int pa_nil)) (pg_name (i := 4) sc_L_right.nd rfl (.inl rfl)) (pss_cons (ps_set (i := 5) sc_L_right.nd rfl (.inl rfl) (pe_go (ok_L_bent T) hG (hr.mono (by decide)) (by rfl) T.g_L_bent T.F_L_bent.kp T.b_L_bent (pa_cons (pv 0) (pa_cons (pv 2) (pa_cons (pv 3) pa_nil)))))
        (pss_cons (ps_if (PW.pt (pw_and (pt_val (pe_callB call_isi (by rfl) T.n_isinstance (by decide +kernel) (pa_cons (pv 5) (pa_cons (pe_bltn (v := .ty "tuple") (by rfl) T.n_tuple (by decide +kernel) rfl) pa_nil)))) (pw_and (pt_cmpR op_eq (pe_callB call_len_seq (by rfl) T.n_len PySem.boot_len (pa_cons (pv 5) pa_nil)) pe_int (nomark _)) (pw_and1 (pt_cmpR op_eq (pe_go (ok_L_take T) hG (hr.mono (by decide)) (by rfl) T.g_L_take T.F_L_take.kp T.b_L_take (pa_cons (pv 0) (pa_cons pe_int pa_nil))) pe_int (nomark _)))))) (pss_one (ps_set (i := 5) sc_L_right.nd rfl (.inl rfl) (pe_go (ok_L_bent T) hG (hr.mono (by decide)) (by rfl) T.g_L_bent T.F_L_bent.kp T.b_L_bent (pa_cons (pv 0) (pa_cons (pv 2) (pa_cons (pv 5) pa_nil)))))) pss_nil)
        (pss_one (ps_if (pt_not (pt_val (pe_go (ok_L_told_right T) hG (hr.mono (by decide)) (by rfl) T.g_L_told_right T.F_L_told_right.kp T.b_L_told_right (pa_cons (pv 2) (pa_cons (pv 5) pa_nil))))) (pss_one (ps_ret pe_bl)) pss_nil)))))
        (pss_cons (ps_set (i := 6) sc_L_right.nd rfl (.inl rfl) (pe_lst (pa_cons pe_non (pa_cons pe_bl (pa_cons pe_str (pa_cons (pe_tup pa_nil) (pa_cons (pe_lst pa_nil) (pa_cons (pe_tup (pa_cons pe_int (pa_cons pe_int pa_nil))) (pa_cons (pe_tup (pa_cons pe_int (pa_cons pe_int (pa_cons pe_str pa_nil)))) (pa_cons (pe_tup (pa_cons (pe_callB call_len_str (by rfl) T.n_len PySem.boot_len (pa_cons (pv 2) pa_nil)) (pa_cons pe_int (pa_cons pe_str pa_nil)))) (pa_cons (pe_slice sl_tup (pv 3) po_none (po_some pe_int)) pa_nil)))))))))))
        (pss_one (ps_for PassesOwn.never rfl (pi_list (pe_op op_cat (pv 6) (pe_lst (pa_cons (pe_tup (pa_cons pe_int (pa_cons (pe_callB call_len_str (by rfl) T.n_len PySem.boot_len (pa_cons (pv 2) pa_nil)) (pa_cons pe_str pa_nil)))) pa_nil)))) (pg_name (i := 5) sc_L_right.nd rfl (.inl rfl)) (pss_one (ps_if (pt_not (pt_val (pe_go (ok_L_told_right T) hG (hr.mono (by decide)) (by rfl) T.g_L_told_right T.F_L_told_right.kp T.b_L_told_right (pa_cons (pv 2) (pa_cons (pv 5) pa_nil))))) (pss_one (ps_ret pe_bl)) pss_nil))))))))))
        (pss_one (ps_ret pe_bl))), ?_⟩
    have hline : (1000000 : Nat) ≤ sizeLine := by decide
    refine ⟨6, rfl, by decide, by decide, for_it walk_range (fun i σ H' => Drawn b H H' ∧ ∃ y1 y2 y3 y4 y5 y6, σ = [some (.ref b), y1, y2, y3, y4, y5, y6]) ⟨Drawn.refl hb, none, none, none, none, none, none, rfl⟩ (fun _ _ _ _ _ => trivial) (fun i v σ H1 H2 hi hP hy => ?_) (fun σ H1 hP => ?_)⟩
    · obtain ⟨d1, y1, y2, y3, y4, y5, y6, rfl⟩ := hP
      obtain ⟨rfl, rfl⟩ := hy
      refine ⟨_, rfl, b, 4, rfl, d1.1, by decide, by decide, fun ls H3 hl0 hl1 hgood d2 => ?_⟩
      have hx := wr_of hl0 hl1 hgood
      generalize SX.S (TL.joinL [10] ls) = x at hx ⊢
      have hxs := hx.short
      have hxo := hx.ok2
      have dA := d1.trans d2
      refine ⟨_, rfl, _, rfl, b, x, rfl, dA.1, by omega, hxo, fun t a c z H4 ht htb d3 e4 hac hz hzo => ?_⟩
      have dB := dA.trans d3
      have hdE : Dp K (off b H4) (.ref t) (.tuple [.int (a : Int), .int (c : Int), .str z]) := .tup (SqT.of (off_at htb e4)) (.cons (.int _) (.cons (.int _) (.cons (.str _) .nil)))
      have eE : editD x.length (.tuple [.int (a : Int), .int (c : Int), .str z]) = true := by
        show (decide (0 ≤ (a : Int)) && (decide (0 ≤ (c : Int)) && (decide ((a : Int) + (c : Int) ≤ (x.length : Int)) && z.cps.toList.all ok2))) = true
        rw [decide_eq_true (by omega), decide_eq_true (by omega), decide_eq_true (by omega), hzo]; rfl
      have hzl : putLen (.tuple [.int (a : Int), .int (c : Int), .str z]) ≤ 1000000 := by show z.length ≤ 1000000; omega
      refine ⟨_, rfl, _, rfl, x, .ref t, _, rfl, by omega, Dp.same off_same hdE, hzl, fun H5 s5 => ?_⟩
      rw [eE]
      refine ⟨_, rfl, iteF ?_⟩
      have dC := dB.trans (Drawn.of dB.1 s5)
      have hdE5 := Dp.same (same_off s5) hdE
      refine ⟨_, rfl, _, rfl, rfl, rfl, x, .ref t, _, rfl, by omega, Dp.same off_same hdE5, hzl, fun H6 s6 => ?_⟩
      rw [eE]
      refine ⟨true, true, rfl, rfl, _, rfl, iteNS rfl ?_⟩
      have dD := dC.trans (Drawn.of dC.1 s6)
      have hdE6 := Dp.same (same_off s6) hdE5
      have e6 := s6 _ _ (s5 _ _ e4)
      have hbs : ∀ e ∈ [PyData.int (a : Int), .int (c : Int), .str z], PD 1001 1000 e := by
        intro e he
        simp only [List.mem_cons, List.not_mem_nil, or_false] at he
        rcases he with rfl | rfl | rfl
        · exact .inl (.inr (.inr (.inl ⟨_, rfl, by rw [Int.natAbs_natCast]; omega⟩)))
        · exact .inl (.inr (.inr (.inl ⟨_, rfl, by rw [Int.natAbs_natCast]; omega⟩)))
        · exact .inl (.inr (.inr (.inr ⟨_, rfl, by omega, ok2_lt hzo⟩)))
      clear hdE hdE5 s5 s6 eE hzl
      refine ⟨6, rfl, by decide, by decide, for_it walk_range (fun _ σ H' => Drawn b H6 H' ∧ ∃ z4 z5, σ = [some (.ref b), some (.int (0 + (i : Int))), some (.str x), some (.ref t), z4, z5, y6]) ⟨Drawn.refl dD.1, _, _, rfl⟩ (fun _ _ _ _ _ => trivial) (fun j v σ H7 H8 hj hP hy => ?_) (fun σ H7 hP => ?_)⟩
      · obtain ⟨d7, z4, z5, rfl⟩ := hP
        obtain ⟨rfl, rfl⟩ := hy
        have hdE7 := Dp.same d7.off hdE6
        refine ⟨_, rfl, _, rfl, _, rfl, b, x, t, _, 1001, 1000, rfl, d7.1, by omega, hdE7, rfl, hbs, by decide, by decide, by decide, by decide, fun v d H9 d9 hd hMD => ?_⟩
        dsimp only [gName]
        have dE := d7.trans d9
        refine seq_via (fun σ' H' => Drawn b H6 H' ∧ ∃ (v' : V) (d' : PyData) (w4 : Option V), Dp K (off b H') v' d' ∧ MD 1003 1200 d' ∧ σ' = [some (.ref b), some (.int (0 + (i : Int))), some (.str x), some (.ref t), w4, some v', y6]) (fun D' kk => ?_) (fun σ' H' hP => ?_)
        · have hMD' : MD 1003 1200 d := by
            obtain ⟨es, h1, h2, h3⟩ := hMD
            exact ⟨es, h1, h2, fun e he => (h3 e he).mono (by decide) (by decide)⟩
          have hdo := Dp.same off_same hd
          have k0 := fun Hx (dx : Drawn b H9 Hx) => kk [some (.ref b), some (.int (0 + (i : Int))), some (.str x), some (.ref t), some (.int (0 + (j : Int))), some v, y6] Hx ⟨dE.trans dx, v, d, _, Dp.same dx.off hd, hMD', rfl⟩
          refine ⟨_, rfl, v, .ty "tuple", _, _, isT d, rfl, .ty _, dp_ty hdo, k_tuple hdo, _, rfl, ite2 (fun hT => ?_) (fun hT => ?_)⟩
          · cases hd with
            | @tup p xs ds hS hA =>
              refine ⟨_, rfl, p, xs, rfl, .inr (same_tup off_same hS), rfl, _, rfl, ite2 (fun h3 => ?_) (fun h3 => ?_)⟩
              · have h3' : ds.length = 3 := by
                  rw [← dpAll3 hA]
                  have h3 : V.int (xs.length : Int) = V.int 3 := of_decide_eq_true h3
                  injection h3 with h3; omega
                refine ⟨_, rfl, b, 3, rfl, d9.1, by decide, by decide, fun k HA k0' k1' dF => ?_⟩
                refine ⟨rfl, _, rfl, ite2 (fun h4 => ?_) (fun h4 => ?_)⟩
                · obtain ⟨es, h1, h2, hpe⟩ := hMD
                  have : es = ds := by
                    rcases h1 with h1 | h1
                    · injection h1 with h1; exact h1.symm
                    · cases h1
                  subst this
                  refine ⟨_, rfl, _, rfl, _, rfl, b, x, p, es, 1002, 1100, rfl, dF.1, by omega, Dp.same dF.off (.tup hS hA), h3', hpe, by decide, by decide, by decide, by decide, fun v2 d2 HB dG hd2 hMD2 => ?_⟩
                  exact kk _ _ ⟨(dE.trans dF).trans dG, v2, d2, _, hd2, hMD2, rfl⟩
                · exact k0 _ dF
              · exact k0 _ (Drawn.refl d9.1)
            | _ => cases hT
          · exact k0 _ (Drawn.refl d9.1)
        · obtain ⟨dF, v', d', w4, hd', hMD', rfl⟩ := hP
          refine ⟨_, rfl, _, rfl, x, v', d', rfl, by omega, Dp.same off_same hd', Nat.le_trans (putLen_md hMD') (by decide), (md_rp (by decide) (by decide) hMD').mono (Nat.le_refl _) (by decide), fun HC sC => ⟨_, rfl, iteF ?_⟩⟩
          exact ⟨dF.trans (Drawn.of dF.1 sC), _, _, rfl⟩
      · obtain ⟨d7, z4, z5, rfl⟩ := hP
        have hdE7 := Dp.same off_same (Dp.same d7.off hdE6)
        have et : H7 t = some (.tup [.int (a : Int), .int (c : Int), .str z]) := d7.2 _ _ htb e6
        have dD7 := dD.trans d7
        clear d1 d2 d3 dA dB dC dD hdE6 e4 hgood
        refine ⟨by show 0 ≤ sizeLine; decide, fun t1 ht1 => ?_⟩
        have s1 := same_new (o := .tup []) ht1
        have f1 : (upd H7 t1 (.tup [])) t1 = some (.tup []) := upd_same
        generalize upd H7 t1 (.tup []) = K1 at s1 f1 ⊢
        refine ⟨by show 0 ≤ sizeLine; decide, fun t2 ht2 => ?_⟩
        have s2 := same_new (o := .lst []) ht2
        have f2 : (upd K1 t2 (.lst [])) t2 = some (.lst []) := upd_same
        generalize upd K1 t2 (.lst []) = K2 at s2 f2 ⊢
        refine ⟨by show 2 ≤ sizeLine; decide, fun t3 ht3 => ?_⟩
        have s3 := same_new (o := .tup [.int 0, .int 0]) ht3
        have f3 : (upd K2 t3 (.tup [.int 0, .int 0])) t3 = some (.tup [.int 0, .int 0]) := upd_same
        generalize upd K2 t3 (.tup [.int 0, .int 0]) = K3 at s3 f3 ⊢
        refine ⟨by show 3 ≤ sizeLine; decide, fun t4 ht4 => ?_⟩
        have s4 := same_new (o := .tup [.int 0, .int 0, .str ""]) ht4
        have f4 : (upd K3 t4 (.tup [.int 0, .int 0, .str ""])) t4 = some (.tup [.int 0, .int 0, .str ""]) := upd_same
        generalize upd K3 t4 (.tup [.int 0, .int 0, .str ""]) = K4 at s4 f4 ⊢
        refine ⟨_, rfl, x, rfl, by omega, by show 3 ≤ sizeLine; decide, fun t5 ht5 => ?_⟩
        have s5 := same_new (o := .tup [.int (x.length : Int), .int 0, .str ""]) ht5
        have f5 : (upd K4 t5 (.tup [.int (x.length : Int), .int 0, .str ""])) t5 = some (.tup [.int (x.length : Int), .int 0, .str ""]) := upd_same
        generalize upd K4 t5 (.tup [.int (x.length : Int), .int 0, .str ""]) = K5 at s5 f5 ⊢
        have s05 := (((s1.trans s2).trans s3).trans s4).trans s5
        refine ⟨_, rfl, 2, rfl, t, _, rfl, SqT.of (s05 _ _ et), (by show ¬ (HT.sIx 3 0 none = 0 ∧ HT.sIx 3 3 (some 2) = 3); decide), fun t6 ht6 => ?_⟩
        rw [show cutV [V.int (a : Int), .int (c : Int), .str z] none (some 2) = [.int (a : Int), .int (c : Int)] from cutV_to _ 2]
        have s6 := same_new (o := .tup [.int (a : Int), .int (c : Int)]) ht6
        have f6 : (upd K5 t6 (.tup [.int (a : Int), .int (c : Int)])) t6 = some (.tup [.int (a : Int), .int (c : Int)]) := upd_same
        generalize upd K5 t6 (.tup [.int (a : Int), .int (c : Int)]) = K6 at s6 f6 ⊢
        refine ⟨by show 9 ≤ sizeLine; decide, fun p7 hp7 => ?_⟩
        have s7 := same_new (o := .lst [.non, .bl true, .str "", .ref t1, .ref t2, .ref t3, .ref t4, .ref t5, .ref t6]) hp7
        have f7 : (upd K6 p7 (.lst [.non, .bl true, .str "", .ref t1, .ref t2, .ref t3, .ref t4, .ref t5, .ref t6])) p7 = some (.lst [.non, .bl true, .str "", .ref t1, .ref t2, .ref t3, .ref t4, .ref t5, .ref t6]) := upd_same
        generalize upd K6 p7 (.lst [.non, .bl true, .str "", .ref t1, .ref t2, .ref t3, .ref t4, .ref t5, .ref t6]) = K7 at s7 f7 ⊢
        refine ⟨_, rfl, _, rfl, x, rfl, by omega, by show 3 ≤ sizeLine; decide, fun t8 ht8 => ?_⟩
        have s8 := same_new (o := .tup [.int 0, .int (x.length : Int), .str ""]) ht8
        have f8 : (upd K7 t8 (.tup [.int 0, .int (x.length : Int), .str ""])) t8 = some (.tup [.int 0, .int (x.length : Int), .str ""]) := upd_same
        generalize upd K7 t8 (.tup [.int 0, .int (x.length : Int), .str ""]) = K8 at s8 f8 ⊢
        refine ⟨by show 1 ≤ sizeLine; decide, fun p9 hp9 => ?_⟩
        have s9 := same_new (o := .lst [.ref t8]) hp9
        have f9 : (upd K8 p9 (.lst [.ref t8])) p9 = some (.lst [.ref t8]) := upd_same
        generalize upd K8 p9 (.lst [.ref t8]) = K9 at s9 f9 ⊢
        refine ⟨p7, p9, _, _, rfl, rfl, s9 _ _ (s8 _ _ f7), f9, by show 9 + 1 ≤ sizeLine; decide, fun pp hpp => ?_⟩
        have sx := same_new (o := .lst ([.non, .bl true, .str "", .ref t1, .ref t2, .ref t3, .ref t4, .ref t5, .ref t6] ++ [.ref t8])) hpp
        have fx : (upd K9 pp (.lst ([.non, .bl true, .str "", .ref t1, .ref t2, .ref t3, .ref t4, .ref t5, .ref t6] ++ [.ref t8]))) pp = some (.lst ([.non, .bl true, .str "", .ref t1, .ref t2, .ref t3, .ref t4, .ref t5, .ref t6] ++ [.ref t8])) := upd_same
        generalize upd K9 pp (.lst ([.non, .bl true, .str "", .ref t1, .ref t2, .ref t3, .ref t4, .ref t5, .ref t6] ++ [.ref t8])) = KX at sx fx ⊢
        have u8 := s9.trans sx
        have u6 := (s7.trans s8).trans u8
        have u5 := s6.trans u6
        have u4 := s5.trans u5
        have u3 := s4.trans u4
        have u2 := s3.trans u3
        have u1 := s2.trans u2
        have u0 := s1.trans u1
        have dX := dD7.trans (Drawn.of dD7.1 u0)
        have ok_b : ∀ d, Bs 1000 1000 d → putLen d ≤ 1000000 ∧ Rp 5000000 60 d := fun d h => by
          refine ⟨?_, (bs_rp (by decide) h).mono (by decide) (by decide)⟩
          rcases h with rfl | ⟨_, rfl⟩ | ⟨_, rfl, _⟩ | ⟨_, rfl, _⟩ <;> exact Nat.zero_le _
        have ok_m : ∀ d, MD 1000 1000 d → putLen d ≤ 1000000 ∧ Rp 5000000 60 d := fun d h => ⟨Nat.le_trans (putLen_md h) (by decide), (md_rp (by decide) (by decide) h).mono (Nat.le_refl _) (by decide)⟩
        have hbi : ∀ n : Nat, n ≤ 1000 → PD 1000 1000 (.int (n : Int)) := fun n hn => .inl (.inr (.inr (.inl ⟨_, rfl, by rw [Int.natAbs_natCast]; exact hn⟩)))
        have hbs0 : PD 1000 1000 (.str "") := .inl (.inr (.inr (.inr ⟨"", rfl, by decide +kernel, by decide +kernel⟩)))
        have hall : ∀ y ∈ ([V.non, .bl true, .str "", .ref t1, .ref t2, .ref t3, .ref t4, .ref t5, .ref t6] ++ [.ref t8] : List V), ∃ d, Dp K KX y d ∧ putLen d ≤ 1000000 ∧ Rp 5000000 60 d := by
          intro y hy
          simp only [List.cons_append, List.nil_append, List.mem_cons, List.not_mem_nil, or_false] at hy
          rcases hy with rfl | rfl | rfl | rfl | rfl | rfl | rfl | rfl | rfl | rfl
          · exact ⟨_, .non, ok_b _ (.inl rfl)⟩
          · exact ⟨_, .bl true, ok_b _ (.inr (.inl ⟨_, rfl⟩))⟩
          · exact ⟨_, .str "", ok_b _ (.inr (.inr (.inr ⟨_, rfl, by decide +kernel, by decide +kernel⟩)))⟩
          · exact ⟨_, .tup (SqT.of (u1 _ _ f1)) .nil, ok_m _ ⟨[], .inl rfl, by decide, fun e he => absurd he List.not_mem_nil⟩⟩
          · exact ⟨_, .lst (SqL.of (u2 _ _ f2)) .nil, ok_m _ ⟨[], .inr rfl, by decide, fun e he => absurd he List.not_mem_nil⟩⟩
          · exact ⟨_, .tup (SqT.of (u3 _ _ f3)) (.cons (.int 0) (.cons (.int 0) .nil)), ok_m _ ⟨_, .inl rfl, by show 2 ≤ 4; decide, fun e he => by
              simp only [List.mem_cons, List.not_mem_nil, or_false] at he
              rcases he with rfl | rfl <;> exact hbi 0 (by decide)⟩⟩
          · exact ⟨_, .tup (SqT.of (u4 _ _ f4)) (.cons (.int 0) (.cons (.int 0) (.cons (.str "") .nil))), ok_m _ ⟨_, .inl rfl, by show 3 ≤ 4; decide, fun e he => by
              simp only [List.mem_cons, List.not_mem_nil, or_false] at he
              rcases he with rfl | rfl | rfl
              · exact hbi 0 (by decide)
              · exact hbi 0 (by decide)
              · exact hbs0⟩⟩
          · exact ⟨_, .tup (SqT.of (u5 _ _ f5)) (.cons (.int _) (.cons (.int 0) (.cons (.str "") .nil))), ok_m _ ⟨_, .inl rfl, by show 3 ≤ 4; decide, fun e he => by
              simp only [List.mem_cons, List.not_mem_nil, or_false] at he
              rcases he with rfl | rfl | rfl
              · exact hbi _ (by omega)
              · exact hbi 0 (by decide)
              · exact hbs0⟩⟩
          · exact ⟨_, .tup (SqT.of (u6 _ _ f6)) (.cons (.int _) (.cons (.int _) .nil)), ok_m _ ⟨_, .inl rfl, by show 2 ≤ 4; decide, fun e he => by
              simp only [List.mem_cons, List.not_mem_nil, or_false] at he
              rcases he with rfl | rfl
              · exact hbi a (by omega)
              · exact hbi c (by omega)⟩⟩
          · exact ⟨_, .tup (SqT.of (u8 _ _ f8)) (.cons (.int 0) (.cons (.int _) (.cons (.str "") .nil))), ok_m _ ⟨_, .inl rfl, by show 3 ≤ 4; decide, fun e he => by
              simp only [List.mem_cons, List.not_mem_nil, or_false] at he
              rcases he with rfl | rfl | rfl
              · exact hbi 0 (by decide)
              · exact hbi _ (by omega)
              · exact hbs0⟩⟩
        refine ⟨pp, rfl, ⟨_, SqL.of fx⟩, ?_⟩
        refine for_it (walk_list (K := K) (xs := [.non, .bl true, .str "", .ref t1, .ref t2, .ref t3, .ref t4, .ref t5, .ref t6] ++ [.ref t8])) (fun k σ H' => Same KX H' ∧ ∃ w5, σ = [some (.ref b), some (.int (0 + (i : Int))), some (.str x), some (.ref t), z4, w5, some (.ref p7)]) ⟨Same.refl _, _, rfl⟩ (fun k σ H' _ hP => hP.1.seq (SqL.of fx)) (fun k v σ HY HZ hk hP hy => ?_) (fun σ HY hP => ?_)
        · obtain ⟨sm, w5, rfl⟩ := hP
          obtain ⟨rfl, hv⟩ := hy
          obtain ⟨d, hd, hl, hR⟩ := hall v (List.mem_of_getElem? hv)
          exact ⟨_, rfl, _, rfl, x, v, d, rfl, by omega, Dp.same sm hd, hl, hR, fun HC sC => ⟨_, rfl, iteF ⟨sm.trans sC, _, rfl⟩⟩⟩
        · obtain ⟨sm, w5, rfl⟩ := hP
          exact ⟨dX.trans (Drawn.of dX.1 sm), _, _, _, _, _, _, rfl⟩
    · obtain ⟨d1, y1, y2, y3, y4, y5, y6, rfl⟩ := hP
      exact q H1 d1
end K02

set_option maxHeartbeats 4000000
namespace K02
open PySem PySem.Spec PyProof.Rows L2 Gx Lx
section
variable {P : Program} {w : World} {K : PySem.W.Frag} {mg : Str → Option Value} {base : Heap}
def sp_law (K : PySem.W.Frag) : Sp := fun vs H Q _ => ∃ (a : Addr) (ns : List Int), vs = [.ref a] ∧ SqL K H a (ns.map V.int) ∧ ns.length ≤ 63 ∧ ∀ H', Q (.bl true) H'
theorem law_end {K : PySem.W.Frag} {n : Nat} {ns : List Int} {H : Hp} {a : Addr} (hl : ns.length ≤ 63) (_ : ∀ z ∈ ns, Builtin.Int.intBits z ≤ n) (_ : Only H) (hS : SqL K H a (ns.map V.int)) : sp_law K [.ref a] H (fun v _ => v = .bl true) E0 :=
  ⟨a, ns, rfl, hS, hl, fun _ => rfl⟩
theorem ok_law (T : Facts K mg) : FnG P w K mg base 6 T.f_law T.d_law ["_law_script"] (sp_law K) := by
  refine fnG_of T.F_law sc_law (fun vs H Q E h => ?_) (fun cdv A outer s H vs Q hG hr h => ?_)
  · obtain ⟨c, _, rfl, _⟩ := h; rfl
  · obtain ⟨a, ns, rfl, hS, hl, q⟩ := h
    refine ⟨_, (pss_cons (ps_set (i := 1) sc_law.nd rfl (.inr rfl) (pe_go (ok_L_cells T) hG (hr.mono (by decide)) (by rfl) T.g_L_cells T.F_L_cells.kp T.b_L_cells (pa_cons (pv 0) (pa_cons pe_int pa_nil))))
        (pss_one (ps_ret (pe_callB (cr_all rfl) (by rfl) T.n_all (by decide +kernel) (pa_cons (pe_lc (own := [("_law_k", 2)]) rfl sc_law.nd (pi_range1 (by rfl) T.n_range (pa_cons (pe_callB call_len_seq (by rfl) T.n_len PySem.boot_len (pa_cons (pv 1) pa_nil)) pa_nil)) (blkOk_by (own := [("_law_k", 2)]) (N := ["_law_script", "_law_cells_here", "_law_k"]) (sc := defScope s_law) (by decide +kernel)) (fun _ _ _ _ _ => (pg_name (i := 2) sc_law.nd rfl (.inl rfl))) (fun _ _ _ _ _ => pts_nil) (fun _ _ _ _ _ => (pe_go (ok_L_right T) hG (hr.mono (by decide)) (by rfl) T.g_L_right T.F_L_right.kp T.b_L_right (pa_cons (pe_go (ok_L_box T) hG (hr.mono (by decide)) (by rfl) T.g_L_box T.F_L_box.kp T.b_L_box (pa_cons (pv 1) (pa_cons (pv 2) pa_nil))) pa_nil)))) pa_nil))))), ?_⟩
    have hbig : (1000 : Nat) < sizeLine := by decide
    refine ⟨_, rfl, a, ns, 4, rfl, hS, hl, by decide, by decide, fun p cs H1 hc0 hc1 hp s1 e1 => ?_⟩
    have e2 : (cs.map V.int).length = cs.length := List.length_map _
    refine ⟨_, rfl, p, _, rfl, .inl (SqL.of e1), _, rfl, by rw [e2]; omega, by rw [e2]; omega, fun D hD => ?_⟩
    rw [e2, Int.toNat_natCast]
    have hpD : p ≠ D := ne_of_none e1 hD
    refine lc_it walk_range (fun i H2 => H2 p = some (.lst (cs.map V.int)) ∧ H2 D = some (.lst ((List.replicate i true).map V.bl))) ⟨by rw [upd_ne hpD]; exact e1, upd_same⟩ (fun _ _ _ _ => trivial) (fun i v H2 H3 hi hP hy => ?_) (fun H2 hP => ?_)
    · obtain ⟨ep, eD⟩ := hP
      obtain ⟨rfl, hv0⟩ := hy
      have hv : v = .int ((i : Nat) : Int) := hv0.trans (congrArg V.int (Int.zero_add _))
      clear hv0
      subst hv
      refine ⟨rfl, ?_⟩
      unfold tYes
      dsimp only
      rw [if_pos rfl]
      refine ⟨_, rfl, _, rfl, p, cs, i, rfl, SqL.of ep, by omega, by omega, fun bx H4 hbx s4 hbox => ?_⟩
      refine ⟨bx, rfl, hbox, fun H5 d5 => ?_⟩
      have hpb : p ≠ bx := ne_of_none ep hbx
      have hDb : D ≠ bx := ne_of_none eD hbx
      refine ⟨_, d5.2 _ _ hDb (s4 _ _ eD), by rw [List.length_map, List.length_replicate]; omega, ?_, ?_⟩
      · rw [upd_ne hpD]; exact d5.2 _ _ hpb (s4 _ _ ep)
      · rw [upd_same, List.replicate_succ', List.map_append]; rfl
    · obtain ⟨ep, eD⟩ := hP
      refine ⟨D, List.replicate cs.length true, rfl, SqL.of eD, ?_⟩
      have : (List.replicate cs.length true).all id = true := by rw [List.all_eq_true]; exact fun x hx => by rw [List.eq_of_mem_replicate hx]; rfl
      rw [this]
      exact q H2
end
theorem all_mk {l : PySem.W.OpenLaw} {w : World} {K : PySem.W.Frag} {h : Heap} {mg : Str → Option Value} {fa : Addr} (X : K.In h) (G : h.Ns mainGlobals mg) (hfa : mg "law" = some (.ref fa))
    {f_is_sign : Addr} {d_is_sign : FuncData} (h_is_sign : HasDef K "is_sign" s_is_sign f_is_sign d_is_sign) {f_is_edit : Addr} {d_is_edit : FuncData} (h_is_edit : HasDef K "is_edit" s_is_edit f_is_edit d_is_edit) {f_is_count : Addr} {d_is_count : FuncData} (h_is_count : HasDef K "is_count" s_is_count f_is_count d_is_count) {f_is_put : Addr} {d_is_put : FuncData} (h_is_put : HasDef K "is_put" s_is_put f_is_put d_is_put) {f_L_box : Addr} {d_L_box : FuncData} (h_L_box : HasDef K "_law_box" s_L_box f_L_box d_L_box) {f_L_take : Addr} {d_L_take : FuncData} (h_L_take : HasDef K "_law_take" s_L_take f_L_take d_L_take) {f_L_cells : Addr} {d_L_cells : FuncData} (h_L_cells : HasDef K "_law_cells" s_L_cells f_L_cells d_L_cells) {f_L_one_of : Addr} {d_L_one_of : FuncData} (h_L_one_of : HasDef K "_law_one_of" s_L_one_of f_L_one_of d_L_one_of) {f_L_row : Addr} {d_L_row : FuncData} (h_L_row : HasDef K "_law_row" s_L_row f_L_row d_L_row) {f_L_text : Addr} {d_L_text : FuncData} (h_L_text : HasDef K "_law_text" s_L_text f_L_text d_L_text) {f_L_edit : Addr} {d_L_edit : FuncData} (h_L_edit : HasDef K "_law_edit" s_L_edit f_L_edit d_L_edit) {f_L_signs : Addr} {d_L_signs : FuncData} (h_L_signs : HasDef K "_law_signs" s_L_signs f_L_signs d_L_signs) {f_L_is_edit : Addr} {d_L_is_edit : FuncData} (h_L_is_edit : HasDef K "_law_is_edit" s_L_is_edit f_L_is_edit d_L_is_edit) {f_L_bent : Addr} {d_L_bent : FuncData} (h_L_bent : HasDef K "_law_bent" s_L_bent f_L_bent d_L_bent) {f_L_told_right : Addr} {d_L_told_right : FuncData} (h_L_told_right : HasDef K "_law_told_right" s_L_told_right f_L_told_right d_L_told_right) {f_L_right : Addr} {d_L_right : FuncData} (h_L_right : HasDef K "_law_right" s_L_right f_L_right d_L_right) {f_law : Addr} {d_law : FuncData} (h_law : HasDef K "law" s_law f_law d_law)
    (z_ord : PySem.W.nsIn K mainGlobals "ord" = some none) (z_len : PySem.W.nsIn K mainGlobals "len" = some none) (z_isinstance : PySem.W.nsIn K mainGlobals "isinstance" = some none) (z_tuple : PySem.W.nsIn K mainGlobals "tuple" = some none) (z_bool : PySem.W.nsIn K mainGlobals "bool" = some none) (z_int : PySem.W.nsIn K mainGlobals "int" = some none) (z_all : PySem.W.nsIn K mainGlobals "all" = some none) (z_str : PySem.W.nsIn K mainGlobals "str" = some none) (z_abs : PySem.W.nsIn K mainGlobals "abs" = some none) (z_enumerate : PySem.W.nsIn K mainGlobals "enumerate" = some none) (z_list : PySem.W.nsIn K mainGlobals "list" = some none) (z_range : PySem.W.nsIn K mainGlobals "range" = some none) (z_min : PySem.W.nsIn K mainGlobals "min" = some none) (z_repr : PySem.W.nsIn K mainGlobals "repr" = some none)
    {t_NO_SIGN : Tok} (z_NO_SIGN : PySem.W.nsIn K mainGlobals "NO_SIGN" = some (some (.int 37 t_NO_SIGN))) :
    ∃ fd : FuncData, (∀ (s : Shared) (v : Value), BindsTo s fd ⟨[v], []⟩ [("_law_script", v)]) ∧ ∀ base : Heap, K.In base → base.Ns mainGlobals mg → FnG l.prog w K mg base 6 fa fd ["_law_script"] (sp_law K) := by
  have e := hfa.symm.trans (PySem.W.mg_of X G h_law.at_)
  cases e
  exact ⟨_, fun s v => Gx.binds_law h_law.fn (fun _ _ _ _ _ _ us hl => match us, hl with | [_], _ => rfl) s v, fun base _ _ => ok_law (txt_mk X G h_is_sign h_is_edit h_is_count h_is_put h_L_box h_L_take h_L_cells h_L_one_of h_L_row h_L_text h_L_edit h_L_signs h_L_is_edit h_L_bent h_L_told_right h_L_right h_law z_ord z_len z_isinstance z_tuple z_bool z_int z_all z_str z_abs z_enumerate z_list z_range z_min z_repr z_NO_SIGN)⟩
end K02
open PySem PySem.W PyProof.Rows
set_option maxHeartbeats 0 in
theorem PySem.Challenge.cw_typedahead_k02_what_edits_are_holds : PySem.Challenge.rw_typedahead_k02_what_edits_are.Holds := by
  w_on; o_law; k_head; (case hw => w_witness2)
  k_fill
  refine Gx.walk_ofG (l := PySem.Challenge.rw_typedahead_k02_what_edits_are) (n := 63) (k := 6) (x := "_law_script") (sp := fun w => K02.sp_law _) rfl (by decide) rfl ⟨rfl, by decide, by decide⟩ (fun w h Y => PySem.W.kIn_of Y) ?F (fun w H a ns hl hb ho hS => K02.law_end hl hb ho hS)
  case F =>
    intro w mg fa h KX G hmg
    refine' K02.all_mk KX G hmg (K02.hasDef_mk ?a_is_sign ?l_is_sign ?c_is_sign ?k_is_sign) (K02.hasDef_mk ?a_is_edit ?l_is_edit ?c_is_edit ?k_is_edit) (K02.hasDef_mk ?a_is_count ?l_is_count ?c_is_count ?k_is_count) (K02.hasDef_mk ?a_is_put ?l_is_put ?c_is_put ?k_is_put) (K02.hasDef_mk ?a_L_box ?l_L_box ?c_L_box ?k_L_box) (K02.hasDef_mk ?a_L_take ?l_L_take ?c_L_take ?k_L_take) (K02.hasDef_mk ?a_L_cells ?l_L_cells ?c_L_cells ?k_L_cells) (K02.hasDef_mk ?a_L_one_of ?l_L_one_of ?c_L_one_of ?k_L_one_of) (K02.hasDef_mk ?a_L_row ?l_L_row ?c_L_row ?k_L_row) (K02.hasDef_mk ?a_L_text ?l_L_text ?c_L_text ?k_L_text) (K02.hasDef_mk ?a_L_edit ?l_L_edit ?c_L_edit ?k_L_edit) (K02.hasDef_mk ?a_L_signs ?l_L_signs ?c_L_signs ?k_L_signs) (K02.hasDef_mk ?a_L_is_edit ?l_L_is_edit ?c_L_is_edit ?k_L_is_edit) (K02.hasDef_mk ?a_L_bent ?l_L_bent ?c_L_bent ?k_L_bent) (K02.hasDef_mk ?a_L_told_right ?l_L_told_right ?c_L_told_right ?k_L_told_right) (K02.hasDef_mk ?a_L_right ?l_L_right ?c_L_right ?k_L_right) (K02.hasDef_mk ?a_law ?l_law ?c_law ?k_law) ?z_ord ?z_len ?z_isinstance ?z_tuple ?z_bool ?z_int ?z_all ?z_str ?z_abs ?z_enumerate ?z_list ?z_range ?z_min ?z_repr ?z_NO_SIGN
    (case a_is_sign => k_is); (case l_is_sign => k_is); (case c_is_sign => k_is); (case k_is_sign => k_is); (case a_is_edit => k_is); (case l_is_edit => k_is); (case c_is_edit => k_is); (case k_is_edit => k_is); (case a_is_count => k_is); (case l_is_count => k_is); (case c_is_count => k_is); (case k_is_count => k_is); (case a_is_put => k_is); (case l_is_put => k_is); (case c_is_put => k_is); (case k_is_put => k_is); (case a_L_box => k_is); (case l_L_box => k_is); (case c_L_box => k_is); (case k_L_box => k_is); (case a_L_take => k_is); (case l_L_take => k_is); (case c_L_take => k_is); (case k_L_take => k_is); (case a_L_cells => k_is); (case l_L_cells => k_is); (case c_L_cells => k_is); (case k_L_cells => k_is); (case a_L_one_of => k_is); (case l_L_one_of => k_is); (case c_L_one_of => k_is); (case k_L_one_of => k_is); (case a_L_row => k_is); (case l_L_row => k_is); (case c_L_row => k_is); (case k_L_row => k_is); (case a_L_text => k_is); (case l_L_text => k_is); (case c_L_text => k_is); (case k_L_text => k_is); (case a_L_edit => k_is); (case l_L_edit => k_is); (case c_L_edit => k_is); (case k_L_edit => k_is); (case a_L_signs => k_is); (case l_L_signs => k_is); (case c_L_signs => k_is); (case k_L_signs => k_is); (case a_L_is_edit => k_is); (case l_L_is_edit => k_is); (case c_L_is_edit => k_is); (case k_L_is_edit => k_is); (case a_L_bent => k_is); (case l_L_bent => k_is); (case c_L_bent => k_is); (case k_L_bent => k_is); (case a_L_told_right => k_is); (case l_L_told_right => k_is); (case c_L_told_right => k_is); (case k_L_told_right => k_is); (case a_L_right => k_is); (case l_L_right => k_is); (case c_L_right => k_is); (case k_L_right => k_is); (case a_law => k_is); (case l_law => k_is); (case c_law => k_is); (case k_law => k_is); (case z_ord => k_is); (case z_len => k_is); (case z_isinstance => k_is); (case z_tuple => k_is); (case z_bool => k_is); (case z_int => k_is); (case z_all => k_is); (case z_str => k_is); (case z_abs => k_is); (case z_enumerate => k_is); (case z_list => k_is); (case z_range => k_is); (case z_min => k_is); (case z_repr => k_is); (case z_NO_SIGN => k_is)
