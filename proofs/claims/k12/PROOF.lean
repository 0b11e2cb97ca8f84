import PyProof.Rows.All
import PySem.Challenge.RW_typedahead_k12_texts_laid_out
import HandS.ForMost
import HandS.EndBits
import HandS.Defaults
import HandS.IsInst
import HandS.Flow
import HandS.Wide
import HandS.Style
import HandS.Codes
import HandS.Walk
import HandS.FStrTup
import HandS.RaiseMore
import PyProof.Examples.IsLeap
import PyProof.AutoIntG7
import PyProof.TwoTypesSub
import PyProof.Rows.RuleB_bool
import PyProof.EnumMake
import KE.GoesEnum
import KE.GoesMore
import HandS.StrMore
import HandS.CallLocal
import HandS.WideBits
import HandS.Zip
import PyProof.Rows.StrCut
import PyProof.Rows.StrPins
import PyProof.StrLawsIn
import PyProof.StrLawsRepr
import PyProof.ReprLen
import PyProof.FitsInt
import HandS.Text
import PyProof.ReprText
set_option Elab.async false
set_option linter.all false
set_option maxRecDepth 100000
set_option maxHeartbeats 4000000
/-! Gx: defs whose callers have no repr under way (FnG), the end of a law over them, and a few rules more: repr of data, text * int, calls by keywords alone. -/
namespace Gx
open PySem PySem.Spec PyProof.Rows L2

/-- a def's promise where no repr is under way around the call -/
structure FnG (P : Program) (w : World) (K : PySem.W.Frag) (mg : Str → Option Value) (base : Heap) (k : Nat) (f : Addr) (fd : FuncData) (ps : List Str) (sp : Sp) : Prop where
  len : ∀ vs H Q E, sp vs H Q E → vs.length = ps.length
  go : ∀ (A : Around) (outer : List Env) (s : Shared) (H : Hp) (args : Args) (us : List Value) (vs : List V) (Q : VK), A.guards = some [] → Room k A → Env0 P w K mg base A outer s H →
    BindsTo s fd args (ps.zip us) → Vals vs us → sp vs H Q E0 → codeAny (model P w) A (.call (.ref f) args) (CR CX0 outer P w H s Q E0) s

section
variable {P : Program} {w : World} {K : PySem.W.Frag} {mg : Str → Option Value} {base : Heap}

theorem FnG.ofOk {k : Nat} {f : Addr} {fd : FuncData} {ps : List Str} {sp : Sp} (F : FnOk P w K mg base CX0 k f fd ps sp) : FnG P w K mg base k f fd ps sp :=
  ⟨F.len, fun A outer s H args us vs Q _ hr => F.run A outer s H args us vs Q E0 hr⟩

theorem fnG_of {x qual : Str} {st : Stmt} {f : Addr} {fd : FuncData} {N ps : List Str} {k : Nat} {sp : Sp} (F : Fun K x qual st f fd) (S : FnScope N ps (defScope st)) (len : ∀ vs H Q E, sp vs H Q E → vs.length = ps.length)
    (body : ∀ (cdv : Value) (A : Around) (outer : List Env) (s : Shared) (H : Hp) (vs : List V) (Q : VK), (A.deeper (envOfC qual (defScope st) s.heap.objs.size f cdv)).guards = some [] →
      Room k (A.deeper (envOfC qual (defScope st) s.heap.objs.size f cdv)) → sp vs H Q E0 →
      ∃ t, PSs (cxOf CX0 P w K mg base N qual (defScope st) f cdv A outer s H E0).nox (defBody st) t ∧ t { nx := fun _ H' => Q .non H', rt := Q } (start N vs) H) :
    FnG P w K mg base (k + 1) f fd ps sp := by
  obtain ⟨oc, od, kV, doc, pm, an, cdv, ct, osl, rfl, lk, hcd⟩ := F.ex
  constructor
  · exact len
  intro A outer s H args us vs Q hG hr e0 hb r hsp
  have hl := len _ _ _ _ hsp
  have up : ∀ b o, base.get? b = some o → s.heap.get? b = some o := fun b o e => (e0.bs b o e).1
  have kin : K.In s.heap := e0.mod.kin.keeps up
  have nolim : s.heap.NoLimit := e0.mod.nolimit.keeps up
  have hkind : ((ps.zip us).all fun y => (defScope st).names.lookup y.1 == some .local || (defScope st).names.lookup y.1 == some .cell) = true := by
    rw [List.all_eq_true]
    rintro ⟨n, v⟩ hy
    rcases S.par n (List.of_mem_zip hy).1 with q | q
    · simp [q]
    · simp [q]
  obtain ⟨t, ht, hq⟩ := body cdv A outer s H vs Q hG (hr.deeper _) hsp
  refine Att.call_fn kin nolim lk hcd hr.depth hb hkind (fun s1 x1 => ?_) S.co S.gen S.kind
  have I : Inv (cxOf CX0 P w K mg base N qual (defScope st) f cdv A outer s H E0) [] (start N vs) H s1 := inv_start S hr.hd e0 hl r x1
  refine wpAny_mono (ht.nox.run [] s1 (start N vs) H _ I hq) ?_ (fun e s' hs => hs)
  intro fl s' hs
  cases fl with
  | ret u => obtain ⟨v, σ', H', J, rv, q⟩ := hs; exact ⟨v, H', J.os, J.bare, J.base, J.hok, rv, q⟩
  | next => obtain ⟨σ', H', J, q⟩ := hs; exact ⟨V.non, H', J.os, J.bare, J.base, J.hok, rfl, q⟩
  | brk => obtain ⟨_, _, _, q⟩ := hs; exact q.elim
  | cont => obtain ⟨_, _, _, q⟩ := hs; exact q.elim
end

/-! ### calls -/
section
variable {X : Cx} {k n : Nat} {f : Addr} {fd : FuncData} {ps ks : List Str} {sp : Sp} {x : Str} {p pos : Pos} {e : Expr} {es : List Expr} {kws : List Keyword} {t tk : TA} {g : List Value → List Value → List Value} {gV : List V → List V → List V}
theorem after_call {pins : List (Addr × Obj)} {σ : L2.St} {H : Hp} {s : Shared} {Q : VK} {a : Args} (I : Inv X pins σ H s) (h : codeAny (model X.prog X.w) X.A (.call (.ref f) a) (CR CX0 X.stack X.prog X.w H s Q E0) s) :
    codeAny (model X.prog X.w) X.A (.call (.ref f) a) (fun r s' => match r with | .ok (.ret u) => EP X pins σ Q u s' | .ok _ => False | .error e => X.xe e s') s := by
  refine codeAny_mono h ?_
  intro r s' hq
  match r, hq with
  | .ok (.ret u), hq => exact I.after hq
  | .ok .next, hq => exact False.elim hq
  | .ok .brk, hq => exact False.elim hq
  | .ok .cont, hq => exact False.elim hq
  | .error e, hq => exact False.elim hq
theorem runG {pins : List (Addr × Obj)} {σ : L2.St} {H : Hp} {s : Shared} {Q : VK} {us : List Value} {vs : List V} (F : FnG X.prog X.w X.K X.mg X.base k f fd ps sp) (hG : X.A.guards = some []) (hr : Room k X.A) (hb : Binds X.K fd ps [])
    (I : Inv X pins σ H s) (r : Vals vs us) (h : sp vs H Q E0) : wpAny (model X.prog X.w) X.A (call (.ref f) us) (EP X pins σ Q) X.xe s := by
  have hl : (us ++ []).length = ps.length := by rw [List.append_nil, ← r.length]; exact F.len _ _ _ _ h
  have b := hb s us I.kIn hl
  rw [List.append_nil] at b
  refine wpAny_call (codeAny_mono (after_call (pins := pins) (σ := σ) I (F.go X.A X.stack s H ⟨us, []⟩ us vs Q hG hr I.env0 b r h)) fun r s' hq => ?_)
  match r, hq with
  | .ok (.ret u), hq => exact hq
  | .ok .next, hq => exact False.elim hq
  | .ok .brk, hq => exact False.elim hq
  | .ok .cont, hq => exact False.elim hq
  | .error e, hq => exact hq
def tGo (sp : Sp) (t : TA) : TE := fun σ H Q => t σ H fun vs H1 => sp vs H1 Q E0
/-- f(e, ..) -/
theorem pe_go (F : FnG X.prog X.w X.K X.mg X.base k f fd ps sp) (hG : X.A.guards = some []) (hr : Room k X.A) (hg : Gl X x) (hm : X.mg x = some (.ref f)) (hk : PySem.W.keepIn X.K (.ref f) = true) (hb : Binds X.K fd ps [])
    (ha : PA X (e :: es) t) (hdb : (x == ("__debug__" : Str)) = false := by decide) (he : starEach (e :: es) X.env = (false, eval e X.env) :: starEach es X.env := by rfl)
    (hpl : (backTo pos (starEach es X.env)).any (·.1) = false := by rfl) : PE X (.Call (.Name x p) (e :: es) [] pos) (tGo sp t) := by
  constructor
  intro pins s σ H Q I h
  refine wpAny_Call_Name_kw (ld_glob I hg hm ?_ hdb)
  refine PySem.W.callWith_K (h₀ := X.base) I.ok.mod.kin hk (thn (ha.run pos pins s σ H _ I h) ?_) he hpl
  rintro us s1 ⟨vs, H1, I1, r, q⟩
  exact ⟨I1.kIn, runG F hG hr hb I1 r q⟩
/-- f() -/
theorem pe_go0 (F : FnG X.prog X.w X.K X.mg X.base k f fd ps sp) (hG : X.A.guards = some []) (hr : Room k X.A) (hg : Gl X x) (hm : X.mg x = some (.ref f)) (hk : PySem.W.keepIn X.K (.ref f) = true) (hb : Binds X.K fd ps [])
    (hdb : (x == ("__debug__" : Str)) = false := by decide) : PE X (.Call (.Name x p) [] [] pos) (tGo sp tNil) := by
  constructor
  intro pins s σ H Q I h
  refine wpAny_Call_Name_kw (ld_glob I hg hm ?_ hdb)
  exact PySem.W.callWith_K0 I.kIn hk (runG (us := []) F hG hr hb I .nil h)
theorem runGK {pins : List (Addr × Obj)} {σ : L2.St} {H : Hp} {s : Shared} {Q : VK} {us ws : List Value} {vs zs : List V} (F : FnG X.prog X.w X.K X.mg X.base k f fd ps sp) (hG : X.A.guards = some []) (hr : Room k X.A) (hb : KBn X.K fd ps n ks g gV)
    (I : Inv X pins σ H s) (r : Vals vs us) (rz : Vals zs ws) (l1 : vs.length = n) (l2 : zs.length = ks.length) (h : sp (gV vs zs) H Q E0) : wpAny (model X.prog X.w) X.A (call (.ref f) us (ks.zip ws)) (EP X pins σ Q) X.xe s := by
  have b := hb.to s us ws I.kIn (r.length.symm.trans l1) (rz.length.symm.trans l2)
  refine wpAny_call (codeAny_mono (after_call (pins := pins) (σ := σ) I (F.go X.A X.stack s H ⟨us, ks.zip ws⟩ (g us ws) (gV vs zs) Q hG hr I.env0 b (hb.rel r rz) h)) fun r s' hq => ?_)
  match r, hq with
  | .ok (.ret u), hq => exact hq
  | .ok .next, hq => exact False.elim hq
  | .ok .brk, hq => exact False.elim hq
  | .ok .cont, hq => exact False.elim hq
  | .error e, hq => exact hq
def tGoK (n m : Nat) (sp : Sp) (gV : List V → List V → List V) (t tk : TA) : TE := fun σ H Q => t σ H fun vs H1 => tk σ H1 fun zs H2 => vs.length = n ∧ zs.length = m ∧ sp (gV vs zs) H2 Q E0
/-- f(e, .., k = v, ..) -/
theorem pe_goK (F : FnG X.prog X.w X.K X.mg X.base k f fd ps sp) (hG : X.A.guards = some []) (hr : Room k X.A) (hg : Gl X x) (hm : X.mg x = some (.ref f)) (hk : PySem.W.keepIn X.K (.ref f) = true) (hb : KBn X.K fd ps n ks g gV)
    (ha : PA X (e :: es) t) (hkw : PK X kws tk) (hall : (backToKw pos (keywordEach kws X.env)).all (·.1.isSome) = true := by rfl) (hks : (backToKw pos (keywordEach kws X.env)).filterMap (·.1) = ks := by rfl)
    (hdb : (x == ("__debug__" : Str)) = false := by decide) (he : starEach (e :: es) X.env = (false, eval e X.env) :: starEach es X.env := by rfl)
    (hpl : ((backTo pos (starEach (e :: es) X.env)).any (·.1) || (backToKw pos (keywordEach kws X.env)).any (·.1.isNone)) = false := by rfl) : PE X (.Call (.Name x p) (e :: es) kws pos) (tGoK n ks.length sp gV t tk) := by
  constructor
  intro pins s σ H Q I h
  refine wpAny_Call_Name_kw (ld_glob I hg hm ?_ hdb)
  refine PySem.W.callWith_KW (h₀ := X.base) I.ok.mod.kin hk hall (thn (ha.run pos pins s σ H _ I h) ?_) hpl he
  rintro us s1 ⟨vs, H1, I1, r, q⟩
  refine thn (hkw.run pos pins s1 σ H1 _ I1 q) ?_
  rintro ws s2 ⟨zs, H2, I2, rz, l1, l2, q2⟩
  refine ⟨I2.kIn, ?_⟩
  rw [hks]
  exact runGK F hG hr hb I2 r rz l1 l2 q2
/-- f(k = v, ..) -/
theorem pe_goK0 (F : FnG X.prog X.w X.K X.mg X.base k f fd ps sp) (hG : X.A.guards = some []) (hr : Room k X.A) (hg : Gl X x) (hm : X.mg x = some (.ref f)) (hk : PySem.W.keepIn X.K (.ref f) = true) (hb : KBn X.K fd ps 0 ks g gV)
    (hkw : PK X kws tk) (hall : (backToKw pos (keywordEach kws X.env)).all (·.1.isSome) = true := by rfl) (hks : (backToKw pos (keywordEach kws X.env)).filterMap (·.1) = ks := by rfl)
    (hdb : (x == ("__debug__" : Str)) = false := by decide)
    (hpl : ((backTo pos (starEach [] X.env)).any (·.1) || (backToKw pos (keywordEach kws X.env)).any (·.1.isNone)) = false := by rfl) : PE X (.Call (.Name x p) [] kws pos) (tGoK 0 ks.length sp gV tNil tk) := by
  constructor
  intro pins s σ H Q I h
  refine wpAny_Call_Name_kw (ld_glob I hg hm ?_ hdb)
  refine PySem.W.callWith_KW0 (h₀ := X.base) I.ok.mod.kin hk hall ?_ hpl
  refine thn (hkw.run pos pins s σ H _ I h) ?_
  rintro ws s2 ⟨zs, H2, I2, rz, l1, l2, q2⟩
  refine ⟨I2.kIn, ?_⟩
  rw [hks]
  exact runGK (us := []) (vs := []) F hG hr hb I2 .nil rz rfl l2 q2
/-- how keywords bind where a def has no defaults -/
theorem kbn_of {K : PySem.W.Frag} {x qual : Str} {st : Stmt} (F : Fun K x qual st f fd) (g : {α : Type} → List α → List α → List α)
    (hrel : ∀ {vs zs : List V} {us ws : List Value}, Vals vs us → Vals zs ws → Vals (g vs zs) (g us ws))
    (h : ∀ (kV doc pm : Value) (an : Option Addr) (cdv ct : Value) (us ws : List Value), us.length = n → ws.length = ks.length →
      bindArgs (PySem.W.fnOf x qual (defArgs st) (defBody st) (defScope st) .none kV doc pm an cdv ct) ⟨us, ks.zip ws⟩ = pure (ps.zip (g us ws))) : KBn K fd ps n ks g g := by
  obtain ⟨oc, od, kV, doc, pm, an, cdv, ct, osl, rfl, lk, hcd⟩ := F.ex
  exact ⟨fun s us ws _ l1 l2 => .of_eq (h kV doc pm an cdv ct us ws l1 l2), fun r1 r2 => hrel r1 r2⟩
end

/-! ### repr of data, text * int -/
section
variable {X : Cx}
theorem call_reprD (hG : X.A.guards = some []) (hu : X.A.units + 64 < cLine) : CallR X (.builtin "repr") (fun xs H Q => ∃ (a : Addr) (d : PyData), xs = [.ref a] ∧ Dp X.K H (.ref a) d ∧ d.showable = true ∧ d.hasDict = false ∧ d.depth ≤ 60 ∧ d.shown.length ≤ sizeLine ∧ Q (.str d.shown) H) := by
  intro pins s σ H xs us Q I r h
  obtain ⟨a, d, rfl, hd, h1, h2, h3, h4, q⟩ := h
  obtain ⟨u, rfl, rx⟩ := vals1 r
  obtain ⟨as, rd⟩ := Dp.reads I d (.ref a) u hd rx
  cases rx
  exact repr_of_reads' rd h1 (PyData.noDict_hsm h2) hG (by omega) (fun _ _ e => e) (fun h' u tk hk => ⟨.str d.shown, H, I.kept hk, ⟨u, rfl⟩, q⟩) h4
/-- a text n times -/
def timesS (x : Str) (n : Nat) : Str := ⟨(List.replicate n x.cps.toList).flatten.toArray⟩
theorem foldl_times (c : Array Nat) : ∀ (n : Nat) (acc : Array Nat), (List.replicate n c).foldl (· ++ ·) acc = acc ++ ((List.replicate n c.toList).flatten).toArray
  | 0, acc => by simp
  | n + 1, acc => by
    rw [List.replicate_succ, List.replicate_succ, List.foldl_cons, foldl_times c n, List.flatten_cons]
    apply Array.toList_inj.mp
    simp [Array.toList_append, List.append_assoc]
theorem op_mulS : OpR X (binaryOp .Mult) (fun x y H Q => ∃ (z : Str) (n : Int), x = .str z ∧ y = .int n ∧ 1 ≤ n ∧ n ≤ 100000 ∧ z.length * n.toNat ≤ 1000000 ∧ Q (.str (timesS z n.toNat)) H) := by
  intro pins s σ H x y v u Q I rx ry h
  obtain ⟨z, n, rfl, rfl, h1, h2, h3, q⟩ := h
  obtain ⟨t, rfl⟩ := rx
  obtain ⟨t', rfl⟩ := ry
  have hz : z.length ≤ 1000000 := Nat.le_trans (Nat.le_mul_of_pos_right z.length (by omega)) h3
  have e0 : timesS z n.toNat = ⟨(List.replicate n.toNat z.cps).foldl (· ++ ·) #[]⟩ := by
    rw [foldl_times]; simp [timesS]
  have hlen : (timesS z n.toNat).length = z.length * n.toNat := by
    show ((List.replicate n.toNat z.cps.toList).flatten.toArray).size = _
    rw [List.size_toArray, List.length_flatten]
    simp [Str.length, Nat.mul_comm]
  refine PySem.P.mul_str ?_ ?_ ?_ ?_
  · simp; omega
  · intro _ _ h4
    have h5 : (9223372036854775807 : Int) / n ≥ 9223372036854775807 / 100000 := Int.le_ediv_of_mul_le (by omega) (by omega)
    have h6 : ((2 : Int) ^ 63 - 1) = 9223372036854775807 := by decide
    rw [h6] at h4
    omega
  · intro _ _
    have : z.length * n.toNat ≤ sizeLine := Nat.le_trans h3 (by decide)
    simp [Builtin.Str.tooLong] <;> omega
  · rw [if_neg (by omega)]
    by_cases c : (n == 1 || z.length == 0) = true
    · rw [if_pos c]
      refine ⟨.str z, H, I, ⟨t, rfl⟩, ?_⟩
      have ez : timesS z n.toNat = z := by
        apply TL.ext_tl
        show (List.replicate n.toNat z.cps.toList).flatten = z.cps.toList
        rcases Bool.or_eq_true _ _ |>.mp c with c | c
        · have : n = 1 := by simpa using c
          subst this; simp
        · have hl : z.cps.toList = [] := by
            have : z.cps.size = 0 := by simpa [Str.length] using c
            exact List.length_eq_zero_iff.mp (by simpa using this)
          rw [hl]; simp
      rw [ez] at q; exact q
    · rw [if_neg c, ← e0]
      exact ⟨by rw [hlen]; exact Nat.le_trans h3 (by decide), .str _, H, I.tok _, ⟨_, rfl⟩, q⟩
end
end Gx

/-! ### the end of a law over FnG -/
namespace Gx
open PySem PySem.Spec PyProof.Rows L2
/-- the heap in which the script alone is tracked (where it is not an object of the module's own) -/
def scriptH (K : PySem.W.Frag) (a : Addr) (vs : List Value) (ns : List Int) : Hp := fun b =>
  if b = a ∧ K.lookup a = none then some (.frz { cls := .type "list", data := .seq vs.toArray } (.lst (ns.map V.int))) else none
section
variable {P : Program} {w : World} {K : PySem.W.Frag} {mg mb : Str → Option Value} {k : Nat} {fa a : Addr} {fd : FuncData} {x : Str} {sp : Sp} {s₁ : Shared} {vs : List Value} {ns : List Int}
theorem scriptH_at {b : Addr} {o : HO} (h : scriptH K a vs ns b = some o) : b = a ∧ K.lookup a = none ∧ o = .frz { cls := .type "list", data := .seq vs.toArray } (.lst (ns.map V.int)) := by
  by_cases c : b = a ∧ K.lookup a = none
  · have e := (if_pos c).symm.trans h
    exact ⟨c.1, c.2, (Option.some.inj e).symm⟩
  · have e := (if_neg c).symm.trans h
    cases e
theorem scriptH_only : Only (scriptH K a vs ns) := fun b => by
  cases h : scriptH K a vs ns b with
  | none => exact .inl rfl
  | some o => exact .inr ⟨_, _, by rw [(scriptH_at h).2.2]⟩
theorem lawG (KX : K.In s₁.heap) (hns : s₁.heap.Ns mainGlobals mg) (hb : s₁.heap.Ns builtinsNs mb) (hbb : ∀ x : Str, x ≠ "__name__" → mb x = bootBuiltins x) (hlim : s₁.heap.NoLimit) (hg : s₁.gens = #[])
    (ha : s₁.heap.get? a = some { cls := .type "list", data := .seq vs.toArray }) (hi : IntsAre vs ns) (hl : ns.length ≤ sizeLine) (hr : Room k callerA)
    (F : ∀ base : Heap, K.In base → base.Ns mainGlobals mg → FnG P w K mg base k fa fd [x] sp) (hbind : ∀ (s : Shared) (u : Value), BindsTo s fd ⟨[u], []⟩ [(x, u)])
    (hsp : ∀ H : Hp, Only H → SqL K H a (ns.map V.int) → sp [.ref a] H (fun v _ => v = .bl true) E0) :
    codeAny (model P w) callerA (.call (.ref fa) ⟨[.ref a], []⟩) (fun r s' => r = .ok (.ret (.bool true)) ∧ OldK s₁.heap s'.heap ∧ s'.os = s₁.os ∧ AllBare s'.gens) s₁ := by
  have rv := vals_ints hi
  have hlz : (ns.map V.int).length ≤ sizeLine := by rw [List.length_map]; exact hl
  have hok : HOk P w (scriptH K a vs ns) s₁.heap := fun b o e => by
    obtain ⟨rfl, _, rfl⟩ := scriptH_at e
    exact ⟨ha, hlz, vs, _, rv, ha⟩
  -- what stands below: the heap without the script
  have down : ∀ {b : Addr} {o : Obj}, s₁.heap.get? b = some o → scriptH K a vs ns b = none → (hidT s₁.heap (scriptH K a vs ns)).get? b = some o := fun e n => hidT_get e n
  have dicts : ∀ {b : Addr} {m : Str → Option Value}, s₁.heap.Ns b m → (hidT s₁.heap (scriptH K a vs ns)).Ns b m := by
    rintro b m ⟨o, es, ep, e, d, r⟩
    refine ⟨o, es, ep, down e ?_, d, r⟩
    cases q : scriptH K a vs ns b with
    | none => rfl
    | some u =>
      obtain ⟨rfl, _, _⟩ := scriptH_at q
      rw [ha] at e
      cases e
      exact nomatch (show Data.seq vs.toArray _ = Data.dict es ep from d)
  have kin : K.In (hidT s₁.heap (scriptH K a vs ns)) := fun b o e => down (KX b o e) (by
    cases q : scriptH K a vs ns b with
    | none => rfl
    | some u =>
      obtain ⟨rfl, n, _⟩ := scriptH_at q
      rw [n] at e
      cases e)
  have hM : Mod K mg (hidT s₁.heap (scriptH K a vs ns)) := by
    obtain ⟨mc, h1, h2⟩ := hlim
    exact ⟨kin, dicts hns, ⟨mb, dicts hb, hbb⟩, ⟨mc, dicts h1, h2⟩⟩
  have nil_ : ∀ b : Addr, b ∉ frs ([] : List Env) := fun b hb => by cases hb
  have e0 : Env0 P w K mg (hidT s₁.heap (scriptH K a vs ns)) callerA [] s₁ (scriptH K a vs ns) :=
    ⟨rfl, hM, fun b o e => of_hidT e, Nat.le_of_eq (hidT_size _ _), trivial, fun b hb => absurd hb (nil_ b), hok, .of_eq hg⟩
  have hS : SqL K (scriptH K a vs ns) a (ns.map V.int) := by
    cases hk : K.lookup a with
    | none => exact .inl (.inr ⟨_, if_pos ⟨rfl, hk⟩⟩)
    | some o =>
      have e := KX a o hk
      rw [ha] at e
      cases e
      exact .inr ⟨_, vs.toArray, _, hk, rfl, rfl, rfl, by rw [List.size_toArray, ← rv.length]; exact hlz, by simpa using rv⟩
  have run := (F _ kin (dicts hns)).go callerA [] s₁ (scriptH K a vs ns) ⟨[.ref a], []⟩ [.ref a] [.ref a] _ rfl hr e0 (hbind s₁ (.ref a)) (.cons rfl .nil) (hsp _ scriptH_only hS)
  refine codeAny_mono run ?_
  intro r s' h
  match r, h with
  | .ok .next, h => exact False.elim h
  | .ok .brk, h => exact False.elim h
  | .ok .cont, h => exact False.elim h
  | .error e, h => exact False.elim h
  | .ok (.ret u), h =>
    obtain ⟨v, H', os, bare, un, hok', r', q⟩ := h
    obtain rfl : v = .bl true := q
    obtain rfl : u = Value.bool true := r'
    refine ⟨rfl, OldK.of_keep fun b o e => ?_, os, bare⟩
    cases q : scriptH K a vs ns b with
    | none => exact un.keep b o e q (nil_ b) (by simp)
    | some u =>
      obtain ⟨rfl, _, rfl⟩ := scriptH_at q
      have z := un.frzs b _ _ q
      have z1 := (hok b _ q).1
      have z2 := (hok' b _ z).1
      rw [e] at z1
      cases z1
      exact z2
end
theorem walk_ofG {l : PySem.W.OpenLaw} {n k : Nat} {q : Program} {loose : List Str} {XP : (Str → Option Value) → Heap → Prop} {YP : World → Heap → Prop} {d : DefRec} {K : Params → PySem.W.Frag} {sp : World → Sp} {x : Str}
    (hn : l.most = some n) (hn2 : n ≤ sizeLine) (hdf : d.params.defaults = []) (hr : Room k callerA) (hY : ∀ (w : World) (h : Heap), YP w h → (K w.params).In h)
    (F : ∀ (w : World) (mg : Str → Option Value) (fa : Addr) (h : Heap), (K w.params).In h → h.Ns mainGlobals mg → mg d.name = some (.ref fa) →
      ∃ fd : FuncData, (∀ (s : Shared) (u : Value), BindsTo s fd ⟨[u], []⟩ [(x, u)]) ∧ ∀ base : Heap, (K w.params).In base → base.Ns mainGlobals mg → FnG l.prog w (K w.params) mg base k fa fd [x] (sp w))
    (hsp : ∀ (w : World) (H : Hp) (a : Addr) (ns : List Int), ns.length ≤ n → (∀ z ∈ ns, Builtin.Int.intBits z ≤ 1048576) → Only H → SqL (K w.params) H a (ns.map V.int) → sp w [.ref a] H (fun v _ => v = .bl true) E0) :
    PySem.W.WalkO q loose XP YP l.row.toRowW d [] (fun f vs => PySem.call f vs) := by
  refine Att.attach_callB hn hdf ?_
  intro w s₀ s₁ mg mb fa o pm cd doc a vs ns G Y ho hd hcd hmg hobj hints hlen hbits hg
  obtain ⟨fd, hb, hF⟩ := F w mg fa _ (hY w _ Y) G.T.g hmg
  exact lawG (hY w _ Y) G.T.g G.T.b G.T.builtins G.T.nolimit hg hobj hints (Nat.le_trans hlen hn2) hr hF hb (fun H hO hS => hsp w H a ns hlen hbits hO hS)
end Gx

/-! ### keywords by their places -/
namespace Gx
open PySem PySem.Spec PyProof.Rows L2
def pick {α : Type} (is : List Nat) (l : List α) : List α := is.filterMap fun i => l[i]?
theorem vals_pick {zs : List V} {ws : List Value} (r : Vals zs ws) : ∀ is : List Nat, Vals (pick is zs) (pick is ws)
  | [] => .nil
  | i :: is => by
    have ih := vals_pick r is
    cases h : zs[i]? with
    | none =>
      have h2 := r.none_of h
      simp only [pick, List.filterMap_cons, h, h2]
      exact ih
    | some v =>
      obtain ⟨u, h2, r2⟩ := r.get h
      simp only [pick, List.filterMap_cons, h, h2]
      exact .cons r2 ih
theorem kbn_pick {K : PySem.W.Frag} {x qual : Str} {st : Stmt} {n : Nat} {f : Addr} {fd : FuncData} {ps ks : List Str} (F : Fun K x qual st f fd) (is : List Nat)
    (h : ∀ (kV doc pm : Value) (an : Option Addr) (cdv ct : Value) (us ws : List Value), us.length = n → ws.length = ks.length →
      bindArgs (PySem.W.fnOf x qual (defArgs st) (defBody st) (defScope st) .none kV doc pm an cdv ct) ⟨us, ks.zip ws⟩ = pure (ps.zip (us ++ pick is ws))) : KBn K fd ps n ks (fun us ws => us ++ pick is ws) (fun vs zs => vs ++ pick is zs) := by
  obtain ⟨oc, od, kV, doc, pm, an, cdv, ct, osl, rfl, lk, hcd⟩ := F.ex
  exact ⟨fun s us ws _ l1 l2 => .of_eq (h kV doc pm an cdv ct us ws l1 l2), fun r1 r2 => r1.append (vals_pick r2 is)⟩
end Gx

/-! ### comprehensions whose elements are worth f, whatever they lay -/
namespace Gx
open PySem PySem.Spec PyProof.Rows L2
theorem same_new {H : Hp} {p : Addr} {o : HO} (h : H p = none) : Same H (upd H p o) := fun b x e => by
  rw [upd_ne (ne_of_none e h)]; exact e
/-- at a place that H does not know anything may happen -/
theorem same_at {H H' : Hp} {p : Addr} {o : HO} (e : Same H H') (h : H p = none) : Same H (upd H' p o) := fun b x hb => by
  rw [upd_ne (ne_of_none hb h)]; exact e b x hb
theorem lc_pure {J : It} {n : Nat} {G : Hp → Prop} {Y : Nat → Hp → V → Hp → Prop} (w : Walk J n G Y) (f : Nat → V) {j : Nat} {te : TE} {vs : List Nat} {σ : L2.St} {H1 : Hp} {D : Addr} {Qd : Hp → Prop} (hD : H1 D = none) (hn : n < sizeLine)
    (hG : ∀ H, Same H1 H → G H) (hY : ∀ i H x H', i < n → Same H1 H → Y i H x H' → Same H H')
    (hs : ∀ i x H H', i < n → Same H1 H → Y i H x H' → ∀ Qv : VK, (∀ H'', Same H' H'' → Qv (f i) H'') → te ((wipe σ vs).set j (some x)) H' Qv)
    (hd : ∀ H, Same H1 H → H D = some (.lst ((List.range n).map f)) → Qd H) (hw : ∀ x, wipe ((wipe σ vs).set j (some x)) vs = wipe σ vs := by intro x; rfl) :
    ∃ W : Nat → Nat → Hp → Prop, (∃ m, W 0 m (upd H1 D (.lst []))) ∧ ∀ i m H, W i m H →
      (J.stop i H ∧ Qd H) ∨ (J.go i H ∧ ∃ Nx : Hp → Prop, (∀ H', Nx H' → ∃ m', m' < m ∧ W (i + 1) m' H') ∧ ∀ x H', J.yld i H x H' → gName j x (wipe σ vs) H' fun σ2 H2 => wipe σ2 vs = wipe σ vs ∧ tYes σ2 H2 fun b H3 =>
        if b = true then te σ2 H3 fun y H4 => ∃ acc, H4 D = some (.lst acc) ∧ acc.length < sizeLine ∧ Nx (upd H4 D (.lst (acc ++ [y]))) else Nx H3) := by
  refine lc_it w (fun i H => Same H1 H ∧ H D = some (.lst ((List.range i).map f))) ⟨same_at (Same.refl _) hD, upd_same⟩ (fun i H _ h => hG H h.1) (fun i x H H' hi h y => ?_) (fun H h => hd H h.1 h.2)
  obtain ⟨sm, eD⟩ := h
  have s1 := hY i H x H' hi sm y
  refine ⟨hw x, ?_⟩
  unfold tYes
  dsimp only
  rw [if_pos rfl]
  refine hs i x H H' hi sm y _ fun H'' s2 => ⟨_, s2 _ _ (s1 _ _ eD), ?_, same_at ((sm.trans s1).trans s2) hD, ?_⟩
  · rw [List.length_map, List.length_range]; omega
  · rw [upd_same, List.range_succ, List.map_append]; rfl
end Gx

namespace Gx
open PySem PySem.Spec PyProof.Rows L2
/-- te evaluates, laying what it wants, to a value of which P holds -/
def Ev1 (te : TE) (σ : L2.St) (H : Hp) (P : V → Hp → Prop) : Prop := ∀ R : VK, (∀ v H1, Same H H1 → P v H1 → R v H1) → te σ H R
theorem range_map {α : Type} (f : α → V) (l : List α) (g : Nat → V) (h : ∀ i x, l[i]? = some x → g i = f x) : (List.range l.length).map g = l.map f := by
  apply List.ext_getElem?
  intro i
  rw [List.getElem?_map, List.getElem?_map]
  by_cases hi : i < l.length
  · rw [List.getElem?_range hi, List.getElem?_eq_getElem hi]
    simp [h i l[i] (List.getElem?_eq_getElem hi)]
  · rw [List.getElem?_eq_none (by simpa using hi), List.getElem?_eq_none (by simpa using hi)]; rfl
/-- [e for c in text] -/
theorem lc_text {te0 te : TE} {j : Nat} {vs : List Nat} {σ : L2.St} {H : Hp} {Q : VK} {x : Str} (f : Nat → V) (h0 : Ev1 te0 σ H fun v _ => v = .str x) (hx : x.length ≤ 1000000)
    (hs : ∀ c H', c ∈ x.cps.toList → Same H H' → ∀ Qv : VK, (∀ H'', Same H' H'' → Qv (f c) H'') → te ((wipe σ vs).set j (some (.str (SX.S [c])))) H' Qv)
    (hd : ∀ D H', H D = none → Same H H' → H' D = some (.lst (x.cps.toList.map f)) → Q (.ref D) H') (hw : ∀ x, wipe ((wipe σ vs).set j (some x)) vs = wipe σ vs := by intro x; rfl) :
    tLc (iStr te0) (gName j) tYes te vs σ H Q := by
  refine h0 _ fun v H1 s1 e => ?_
  subst e
  refine ⟨x, rfl, fun D hD => ?_⟩
  have hn : x.cps.size < sizeLine := Nat.lt_of_le_of_lt hx (by decide)
  refine lc_pure walk_str (fun i => f (x.cps.toList.getD i 0)) hD hn (fun _ _ => trivial) (fun i H x H' _ _ y => y.1 ▸ Same.refl _) (fun i v H2 H' hi s2 y Qv q => ?_) (fun H2 s2 e2 => ?_) hw
  · obtain ⟨rfl, c, hc, rfl⟩ := y
    have hc' : x.cps.toList[i]? = some c := by simpa using hc
    refine hs c _ (List.mem_of_getElem? hc') (s1.trans s2) Qv fun H'' s3 => ?_
    have e : x.cps.toList.getD i 0 = c := by rw [List.getD_eq_getElem?_getD, hc']; rfl
    have q2 := q H'' s3
    rw [e] at q2
    exact q2
  · refine hd D H2 (s1.free hD) (s1.trans s2) ?_
    rw [e2, ← range_map f x.cps.toList (fun i => f (x.cps.toList.getD i 0)) fun i c hc => by rw [List.getD_eq_getElem?_getD, hc]; rfl, Array.length_toList]
/-- [e for y in list] -/
theorem lc_lst {K : PySem.W.Frag} {te0 te : TE} {j : Nat} {vs : List Nat} {σ : L2.St} {H : Hp} {Q : VK} {xs : List V} (f : V → V) (h0 : Ev1 te0 σ H fun v H1 => ∃ a, v = .ref a ∧ SqL K H1 a xs) (hx : xs.length ≤ 1000000)
    (hs : ∀ y H', y ∈ xs → Same H H' → ∀ Qv : VK, (∀ H'', Same H' H'' → Qv (f y) H'') → te ((wipe σ vs).set j (some y)) H' Qv)
    (hd : ∀ D H', H D = none → Same H H' → H' D = some (.lst (xs.map f)) → Q (.ref D) H') (hw : ∀ x, wipe ((wipe σ vs).set j (some x)) vs = wipe σ vs := by intro x; rfl) :
    tLc (iList K te0) (gName j) tYes te vs σ H Q := by
  refine h0 _ fun v H1 s1 e => ?_
  obtain ⟨a, rfl, hS⟩ := e
  refine ⟨a, rfl, ⟨xs, hS⟩, fun D hD => ?_⟩
  have hn : xs.length < sizeLine := Nat.lt_of_le_of_lt hx (by decide)
  refine lc_pure walk_list (fun i => f (xs.getD i .non)) hD hn (fun H2 s2 => s2.seq hS) (fun i H x H' _ _ y => y.1 ▸ Same.refl _) (fun i v H2 H' hi s2 y Qv q => ?_) (fun H2 s2 e2 => ?_) hw
  · obtain ⟨rfl, hc⟩ := y
    refine hs v _ (List.mem_of_getElem? hc) (s1.trans s2) Qv fun H'' s3 => ?_
    have e : xs.getD i .non = v := by rw [List.getD_eq_getElem?_getD, hc]; rfl
    have q2 := q H'' s3
    rw [e] at q2
    exact q2
  · refine hd D H2 (s1.free hD) (s1.trans s2) ?_
    rw [e2, ← range_map f xs (fun i => f (xs.getD i .non)) fun i c hc => by rw [List.getD_eq_getElem?_getD, hc]; rfl]
end Gx

namespace Gx
open PySem L2
theorem take_min' {α : Type} (l : List α) (n : Nat) : l.take (min n l.length) = l.take n := by
  by_cases h : n ≤ l.length
  · rw [Nat.min_eq_left h]
  · rw [Nat.min_eq_right (by omega), List.take_length, List.take_of_length_le (by omega)]
theorem drop_min' {α : Type} (l : List α) (n : Nat) : l.drop (min n l.length) = l.drop n := by
  by_cases h : n ≤ l.length
  · rw [Nat.min_eq_left h]
  · rw [Nat.min_eq_right (by omega), List.drop_length, List.drop_of_length_le (by omega)]
theorem cutV_to (xs : List V) (n : Nat) : cutV xs none (some (n : Int)) = xs.take n := by
  unfold cutV
  rw [HT.sIx_none, HT.sIx_nat, Nat.sub_zero, List.drop_zero, take_min']
theorem cutV_mid (xs : List V) (m n : Nat) : cutV xs (some (m : Int)) (some (n : Int)) = (xs.take n).drop m := by
  unfold cutV
  rw [HT.sIx_nat, HT.sIx_nat, ← List.drop_take, take_min', ← drop_min' (xs.take n) m, List.length_take]
  by_cases h : m ≤ min n xs.length
  · congr 1; omega
  · rw [List.drop_of_length_le (by rw [List.length_take]; omega), List.drop_of_length_le (by rw [List.length_take]; omega)]
theorem cutS_to (x : Str) (n : Nat) : (cutS x none (some (n : Int))).cps.toList = x.cps.toList.take n := by
  unfold cutS
  rw [HT.sIx_none, HT.sIx_nat, Nat.sub_zero, List.drop_zero, show x.length = x.cps.toList.length from (Array.length_toList).symm]
  show (x.cps.toList.take (min n x.cps.toList.length)) = _
  rw [take_min']
theorem cutS_from (x : Str) (n : Nat) : (cutS x (some (n : Int)) none).cps.toList = x.cps.toList.drop n := by
  unfold cutS
  rw [HT.sIx_none, HT.sIx_nat, show x.length = x.cps.toList.length from (Array.length_toList).symm]
  show ((x.cps.toList.drop (min n x.cps.toList.length)).take _) = _
  rw [drop_min', List.take_of_length_le (by rw [List.length_drop]; omega)]
end Gx

namespace Gx
open PySem PySem.Spec PyProof.Rows L2
/-- the law's own argument binds, whatever the heap -/
theorem binds_law {K : PySem.W.Frag} {x qual p : Str} {st : Stmt} {f : Addr} {fd : FuncData} (F : Fun K x qual st f fd)
    (h : ∀ (kV doc pm : Value) (an : Option Addr) (cdv ct : Value) (us : List Value), us.length = [p].length → bindArgs (PySem.W.fnOf x qual (defArgs st) (defBody st) (defScope st) .none kV doc pm an cdv ct) ⟨us, []⟩ = pure ([p].zip us))
    (s : Shared) (v : Value) : BindsTo s fd ⟨[v], []⟩ [(p, v)] := by
  obtain ⟨oc, od, kV, doc, pm, an, cdv, ct, osl, rfl, lk, hcd⟩ := F.ex
  exact .of_eq (h kV doc pm an cdv ct [v] rfl)
end Gx

/-! Lx: rows of a text as lists of signs: plain mathematics. -/
namespace Lx
open PySem
/-- the rows between line feeds -/
def lines : List Nat → List (List Nat)
  | [] => [[]]
  | c :: r => if c = 10 then [] :: lines r else ((c :: (lines r).headD []) :: (lines r).tail)
theorem lines_ne : ∀ l, lines l ≠ []
  | [] => by simp [lines]
  | c :: r => by unfold lines; split <;> simp
theorem lines_split (l : List Nat) : lines l = (lines l).headD [] :: (lines l).tail := by
  cases h : lines l with
  | nil => exact absurd h (lines_ne l)
  | cons a t => rfl
theorem pre10 (c : Nat) (r : List Nat) : TL.pre [10] (c :: r) = decide (c = 10) := by
  unfold TL.pre
  by_cases h : c = 10
  · subst h; rfl
  · simp [h]
theorem spl_lines : ∀ (l acc : List Nat), TL.spl [10] 0 acc l = (acc ++ (lines l).headD []) :: (lines l).tail
  | [], acc => by rw [TL.spl_nil]; simp [lines]
  | c :: r, acc => by
    by_cases h : c = 10
    · rw [TL.spl_hit (by rw [pre10, h]; rfl)]
      show acc :: TL.spl [10] 0 [] r = _
      rw [spl_lines r [], List.nil_append, ← lines_split r]
      simp [lines, h]
    · rw [TL.spl_miss (by rw [pre10]; simp [h]), spl_lines r (acc ++ [c])]
      simp [lines, h]
theorem spl_lines0 (l : List Nat) : TL.spl [10] 0 [] l = lines l := by rw [spl_lines, List.nil_append, ← lines_split]
abbrev nl : Str := "\n"
theorem nl_S : nl = SX.S [10] := TL.ext_tl rfl
theorem split_lines (x : Str) : Txt.split x nl = (lines x.cps.toList).map SX.S := by
  have e := SX.split_S (a := x.cps.toList) (b := [10]) (by simp) (by decide)
  rw [SX.S_tl] at e
  rw [nl_S, e, spl_lines0]
theorem join_cons (p : List Nat) {rs : List (List Nat)} (h : rs ≠ []) : TL.joinL [10] (p :: rs) = p ++ 10 :: TL.joinL [10] rs := by
  cases rs with
  | nil => exact absurd rfl h
  | cons a t => rfl
theorem join_headcons (c : Nat) (p : List Nat) (rs : List (List Nat)) : TL.joinL [10] ((c :: p) :: rs) = c :: TL.joinL [10] (p :: rs) := by
  cases rs with
  | nil => rfl
  | cons a t => rfl
theorem join_lines : ∀ l, TL.joinL [10] (lines l) = l
  | [] => rfl
  | c :: r => by
    unfold lines
    split
    · rename_i h
      rw [join_cons _ (lines_ne r), join_lines r, h]; rfl
    · rw [join_headcons, ← lines_split, join_lines r]
theorem join_S (x : Str) (ys : List (List Nat)) : Txt.join nl (ys.map SX.S) = SX.S (TL.joinL [10] ys) := by rw [nl_S]; exact SX.join_S [10] ys
theorem join_split (x : Str) : Txt.join nl (Txt.split x nl) = x := by
  rw [split_lines, join_S x, join_lines, SX.S_tl]
theorem lines_join {rs : List (List Nat)} (h : rs ≠ []) (h10 : ∀ r ∈ rs, 10 ∉ r) : lines (TL.joinL [10] rs) = rs := by
  rw [← spl_lines0, TL.spl_join h h10]
/-- all signs of the rows, and a line feed each -/
theorem lines_sum : ∀ l, ((lines l).map fun r => r.length + 1).sum = l.length + 1
  | [] => rfl
  | c :: r => by
    have ih := lines_sum r
    rw [lines_split r] at ih
    unfold lines
    split
    · rw [List.map_cons, List.sum_cons, lines_split r, ih]; simp; omega
    · rw [List.map_cons, List.sum_cons] at ih ⊢
      simp at ih ⊢; omega
theorem lines_len_pos (l : List Nat) : 0 < (lines l).length := List.length_pos_iff.mpr (lines_ne l)
/-- the rows of a beginning: all but its last one are rows of the whole -/
theorem lines_app : ∀ (p q : List Nat), (lines (p ++ q)).take ((lines p).length - 1) = (lines p).dropLast
  | [], q => by simp [lines]
  | c :: p, q => by
    have ih := lines_app p q
    have hp := lines_len_pos p
    rw [List.cons_append]
    by_cases h : c = 10
    · simp only [lines, if_pos h, List.length_cons]
      rw [lines_split p] at hp ⊢
      rw [List.dropLast_cons_of_ne_nil (by simp), ← lines_split p, ← ih]
      rw [lines_split p]
      simp only [List.length_cons, Nat.add_sub_cancel, List.take_succ_cons]
    · simp only [lines, if_neg h, List.length_cons, Nat.add_sub_cancel]
      cases ht : (lines p).tail with
      | nil => simp
      | cons a t =>
        have e1 : lines p = (lines p).headD [] :: a :: t := by rw [← ht]; exact lines_split p
        rw [e1] at ih
        have e2 := lines_split (p ++ q)
        rw [e2] at ih
        simp only [List.length_cons, Nat.add_sub_cancel, List.take_succ_cons, List.dropLast_cons₂] at ih
        injection ih with i1 i2
        simp only [List.length_cons, List.take_succ_cons, List.dropLast_cons₂]
        rw [i1, ← i2]
theorem lines_last (l : List Nat) : lines l = (lines l).dropLast ++ [(lines l).getLastD []] := by
  have e5 := List.dropLast_concat_getLast (lines_ne l)
  have e6 : (lines l).getLastD [] = (lines l).getLast (lines_ne _) := by
    rw [List.getLastD_eq_getLast?, List.getLast?_eq_getLast (lines_ne _)]; rfl
  rw [e6]; exact e5.symm
theorem lines_many (l : List Nat) : (lines l).length ≤ l.length + 1 := by
  rw [← lines_sum]
  have : ∀ ys : List (List Nat), ys.length ≤ (ys.map fun y => y.length + 1).sum := by
    intro ys
    induction ys with
    | nil => exact Nat.le_refl _
    | cons y ys ih => rw [List.map_cons, List.sum_cons, List.length_cons]; omega
  exact this _
theorem lines_small {l : List Nat} {r : List Nat} (h : r ∈ lines l) : r.length ≤ l.length := by
  have e1 := lines_sum l
  have e2 : ∀ ys : List (List Nat), r ∈ ys → r.length + 1 ≤ (ys.map fun y => y.length + 1).sum := by
    intro ys
    induction ys with
    | nil => intro h; cases h
    | cons y ys ih =>
      intro h
      rw [List.map_cons, List.sum_cons]
      rcases List.mem_cons.mp h with e | e
      · subst e; omega
      · have := ih e; omega
  have := e2 _ h
  omega
/-- the place of an end of text: row and column -/
def spotOf (l : List Nat) : Int × Int := ((((lines l).length - 1 : Nat) : Int), (((lines l).getLastD []).length : Int))
/-- one sign on -/
def spotStep (s : Int × Int) (c : Nat) : Int × Int := (s.1 + (if c = 10 then 1 else 0), (s.2 + 1) * (if c = 10 then 0 else 1))
theorem fold_spot : ∀ (l : List Nat) (r c : Int), l.foldl spotStep (r, c) = (r + (((lines l).length - 1 : Nat) : Int), if (lines l).length = 1 then c + ((lines l).headD []).length else ((lines l).getLastD []).length)
  | [], r, c => by simp [lines]
  | a :: l, r, c => by
    have hp := lines_len_pos l
    rw [List.foldl_cons]
    have e : spotStep (r, c) a = (r + (if a = 10 then 1 else 0), (c + 1) * (if a = 10 then 0 else 1)) := rfl
    rw [e, fold_spot l]
    by_cases h : a = 10
    · subst h
      have e2 : ([] :: lines l).getLastD [] = (lines l).getLastD [] := by
        cases hl : lines l with
        | nil => exact absurd hl (lines_ne l)
        | cons x t => simp
      simp only [lines, if_true, List.length_cons]
      rw [e2, if_neg (show ¬ (lines l).length + 1 = 1 by omega)]
      refine Prod.ext ?_ ?_
      · show r + 1 + (((lines l).length - 1 : Nat) : Int) = r + (((lines l).length + 1 - 1 : Nat) : Int)
        omega
      · show (if (lines l).length = 1 then (c + 1) * 0 + (((lines l).headD []).length : Int) else (((lines l).getLastD []).length : Int)) = (((lines l).getLastD []).length : Int)
        split
        · rename_i h1
          cases hl : lines l with
          | nil => exact absurd hl (lines_ne l)
          | cons x t =>
            rw [hl] at h1
            have : t = [] := List.length_eq_zero_iff.mp (by simpa using h1)
            subst this
            simp
        · rfl
    · simp only [lines, if_neg h, List.length_cons]
      have e3 := lines_split l
      cases ht : (lines l).tail with
      | nil =>
        have e4 : (lines l).length = 1 := by rw [e3, ht]; rfl
        simp [e4]
        omega
      | cons x t =>
        have e4 : (lines l).length = t.length + 2 := by rw [e3, ht]; rfl
        simp [e4]
        rw [e3, ht]; simp
theorem fold_spot0 (l : List Nat) : l.foldl spotStep (0, 0) = spotOf l := by
  rw [fold_spot]
  unfold spotOf
  refine Prod.ext (by simp) ?_
  show (if (lines l).length = 1 then _ else _) = _
  split
  · rename_i h
    cases hl : lines l with
    | nil => exact absurd hl (lines_ne l)
    | cons x t =>
      rw [hl] at h
      have : t = [] := List.length_eq_zero_iff.mp (by simpa using h)
      subst this; simp
  · rfl
/-- the place of a row and a column -/
def atOf (l : List Nat) (r c : Int) : Int := (((lines l).take r.toNat).map fun y => (y.length : Int) + 1).sum + c
theorem sum_cast (ys : List (List Nat)) : (ys.map fun y => (y.length : Int) + 1).sum = (((ys.map fun y => y.length + 1).sum : Nat) : Int) := by
  induction ys with
  | nil => rfl
  | cons y ys ih => rw [List.map_cons, List.map_cons, List.sum_cons, List.sum_cons, ih]; omega
theorem at_spot {l : List Nat} {n : Nat} (h : n ≤ l.length) : atOf l (spotOf (l.take n)).1 (spotOf (l.take n)).2 = n := by
  have e := lines_app (l.take n) (l.drop n)
  rw [List.take_append_drop] at e
  have hs := lines_sum (l.take n)
  have hl : (l.take n).length = n := by rw [List.length_take]; omega
  unfold atOf spotOf
  dsimp only
  rw [Int.toNat_natCast, e, sum_cast]
  have ed : lines (l.take n) = (lines (l.take n)).dropLast ++ [(lines (l.take n)).getLastD []] := by
    have e5 := List.dropLast_concat_getLast (lines_ne (l.take n))
    have e6 : (lines (l.take n)).getLastD [] = (lines (l.take n)).getLast (lines_ne _) := by
      rw [List.getLastD_eq_getLast?, List.getLast?_eq_getLast (lines_ne _)]; rfl
    rw [e6]; exact e5.symm
  rw [ed, List.map_append, List.sum_append, List.map_singleton, List.sum_singleton, hl] at hs
  omega
end Lx

set_option maxHeartbeats 4000000
/-! Bx: what the laws' own draws promise (a box of three ints that each draw changes), and lists of texts. -/
namespace Gx
open PySem PySem.Spec PyProof.Rows L2 Lx
def txts (ls : List (List Nat)) : List V := ls.map fun l => V.str (SX.S l)
theorem txts_eq (ls : List (List Nat)) : txts ls = (ls.map SX.S).map V.str := by unfold txts; rw [List.map_map]; rfl
theorem join_room {ls : List (List Nat)} (h : (ls.map fun l => l.length + 1).sum ≤ 1000000) : ((ls.map SX.S).map (·.length)).sum + (ls.map SX.S).length * nl.length ≤ 16777216 := by
  rw [SX.lens, List.length_map]
  have e : nl.length = 1 := rfl
  rw [e, Nat.mul_one]
  have : ∀ ys : List (List Nat), (ys.map fun l => l.length + 1).sum = (ys.map (·.length)).sum + ys.length := by
    intro ys
    induction ys with
    | nil => rfl
    | cons y ys ih => rw [List.map_cons, List.map_cons, List.sum_cons, List.sum_cons, ih, List.length_cons]; omega
  rw [this] at h
  omega
/-- the box of draws at b -/
def IsBox (H : Hp) (b : Addr) : Prop := ∃ i j k : Int, H b = some (.lst [.int i, .int j, .int k])
/-- all stays but what stands at b; b is a box -/
def Drawn (b : Addr) (H H' : Hp) : Prop := IsBox H' b ∧ ∀ a o, a ≠ b → H a = some o → H' a = some o
theorem Drawn.trans {b : Addr} {H H1 H2 : Hp} (x : Drawn b H H1) (y : Drawn b H1 H2) : Drawn b H H2 := ⟨y.1, fun a o n h => y.2 a o n (x.2 a o n h)⟩
theorem Drawn.of {b : Addr} {H H' : Hp} (x : IsBox H b) (s : Same H H') : Drawn b H H' := by
  obtain ⟨i, j, k, h⟩ := x
  exact ⟨⟨i, j, k, s _ _ h⟩, fun a o _ h => s _ _ h⟩
theorem Drawn.set {b : Addr} {H H1 : Hp} {i j k : Int} (x : ∀ a o, a ≠ b → H a = some o → H1 a = some o) : Drawn b H (upd H1 b (.lst [.int i, .int j, .int k])) :=
  ⟨⟨i, j, k, upd_same⟩, fun a o n h => by rw [upd_ne n]; exact x a o n h⟩
/-- a new object that is laid meanwhile stays new -/
theorem Drawn.free {b : Addr} {H H' : Hp} (x : Drawn b H H') (hb : IsBox H b) {p : Addr} (h : H' p = none) : H p = none := by
  cases q : H p with
  | none => rfl
  | some o =>
    by_cases e : p = b
    · subst e
      obtain ⟨i, j, k, z⟩ := x.1
      rw [z] at h; cases h
    · rw [x.2 p o e q] at h; cases h
/-- what was not there ahead may change -/
theorem Drawn.at {b : Addr} {H H' : Hp} (d : Drawn b H H') {p : Addr} (hp : H p = none) (hb : p ≠ b) (o : HO) : Drawn b H (upd H' p o) := by
  obtain ⟨i, j, k, z⟩ := d.1
  exact ⟨⟨i, j, k, by rw [upd_ne (Ne.symm hb)]; exact z⟩, fun a u n h => by rw [upd_ne (ne_of_none h hp)]; exact d.2 a u n h⟩
def sp_take : Sp := fun vs H Q _ => ∃ (b : Addr) (n : Int), vs = [.ref b, .int n] ∧ IsBox H b ∧ 0 < n ∧ n < 1073741824 ∧ ∀ v H', 0 ≤ v → v < n → Drawn b H H' → Q (.int v) H'
theorem txts_of (zs : List Str) : txts (zs.map fun z => z.cps.toList) = zs.map V.str := by
  unfold txts
  rw [List.map_map]
  exact List.map_congr_left fun z _ => congrArg V.str (SX.S_tl z)
def sp_one_of : Sp := fun vs H Q _ => ∃ (b : Addr) (v : V) (ls : List (List Nat)), vs = [.ref b, v] ∧ IsBox H b ∧ ls ≠ [] ∧ ls.length ≤ 1000 ∧
  ((∃ a, v = .ref a ∧ H a = some (.lst (txts ls))) ∨ ∃ x : Str, v = .str x ∧ ls = x.cps.toList.map fun c => [c]) ∧ ∀ l H', l ∈ ls → Drawn b H H' → Q (.str (SX.S l)) H'
/-- [e for k in range(n)], each e a text that the draws give -/
theorem lc_drawn {te : TE} {j : Nat} {vs : List Nat} {σ : L2.St} {H : Hp} {Q : VK} {ta : TA} {b : Addr} (N : Nat → Prop) (R : List Nat → Prop) (hb : IsBox H b) (hn : ∀ m, N m → m ≤ 1000)
    (h0 : ∀ R' : List V → Hp → Prop, (∀ H1 n', N n' → Drawn b H H1 → R' [.int ((n' : Nat) : Int)] H1) → ta σ H R')
    (hs : ∀ k H', IsBox H' b → ∀ Qv : VK, (∀ l H'', R l → Drawn b H' H'' → Qv (.str (SX.S l)) H'') → te ((wipe σ vs).set j (some (.int k))) H' Qv)
    (hd : ∀ D ls H', N ls.length → (∀ l ∈ ls, R l) → H' D = some (.lst (txts ls)) → Drawn b H H' → Q (.ref D) H') (hw : ∀ x, wipe ((wipe σ vs).set j (some x)) vs = wipe σ vs := by intro x; rfl) :
    tLc (iRng1 ta) (gName j) tYes te vs σ H Q := by
  refine h0 _ fun H1 n' hn' d1 => ?_
  have hn1 := hn n' hn'
  refine ⟨((n' : Nat) : Int), rfl, by omega, by omega, fun D hD => ?_⟩
  have hbD : b ≠ D := fun e => by
    subst e
    obtain ⟨i, j, k, z⟩ := d1.1
    rw [z] at hD; cases hD
  rw [Int.toNat_natCast]
  refine lc_it walk_range (fun i H2 => ∃ ls : List (List Nat), ls.length = i ∧ (∀ l ∈ ls, R l) ∧ H2 D = some (.lst (txts ls)) ∧ Drawn b H H2) ⟨[], rfl, (fun _ h => absurd h List.not_mem_nil), upd_same, ?_, fun a o n h => ?_⟩ (fun _ _ _ _ => trivial) (fun i v H2 H3 hi hP hy => ?_) (fun H2 hP => ?_)
  · obtain ⟨i, j, k, z⟩ := d1.1
    exact ⟨i, j, k, by rw [upd_ne hbD]; exact z⟩
  · have h1 := d1.2 a o n h
    rw [upd_ne (ne_of_none h1 hD)]; exact h1
  · obtain ⟨ls, e1, e2, e3, d2⟩ := hP
    obtain ⟨rfl, rfl⟩ := hy
    refine ⟨hw _, ?_⟩
    unfold tYes
    dsimp only
    rw [if_pos rfl]
    refine hs _ _ d2.1 _ fun l H4 hl d3 => ?_
    have e4 := d3.2 _ _ (Ne.symm hbD) e3
    refine ⟨_, e4, ?_, ls ++ [l], by rw [List.length_append, e1]; rfl, ?_, ?_, ?_⟩
    · unfold txts
      rw [List.length_map]
      have : (1000 : Nat) < sizeLine := by decide
      omega
    · intro z hz
      rcases List.mem_append.mp hz with hz | hz
      · exact e2 z hz
      · rw [List.mem_singleton.mp hz]; exact hl
    · rw [upd_same]; unfold txts; rw [List.map_append]; rfl
    · have d4 := d2.trans d3
      obtain ⟨i, j, k, z⟩ := d4.1
      refine ⟨⟨i, j, k, by rw [upd_ne hbD]; exact z⟩, fun a o n h => ?_⟩
      have hDn : H D = none := by
        cases q : H D with
        | none => rfl
        | some o => have := d1.2 D o (Ne.symm hbD) q; rw [hD] at this; cases this
      rw [upd_ne (ne_of_none h hDn)]
      exact d4.2 a o n h
  · obtain ⟨ls, e1, e2, e3, d2⟩ := hP
    exact hd D ls H2 (by rw [e1]; exact hn') e2 e3 d2
end Gx

set_option maxHeartbeats 4000000
/-! Tx: what evaluates to a short text, to a list of short texts, while the box at b may be drawn from. -/
namespace Gx
open PySem PySem.Spec PyProof.Rows L2 Lx
/-- a text that is not too long -/
def Sh (n : Nat) (v : V) : Prop := ∃ z : Str, v = .str z ∧ z.length ≤ n
theorem Sh.mk {n : Nat} {z : Str} (h : z.length ≤ n) : Sh n (.str z) := ⟨z, rfl, h⟩
theorem Sh.mono {m n : Nat} {v : V} (h : Sh m v) (hm : m ≤ n) : Sh n v := by
  obtain ⟨z, e, hz⟩ := h
  exact ⟨z, e, Nat.le_trans hz hm⟩
def ShL (n m : Nat) (H : Hp) (p : Addr) : Prop := ∃ xs, H p = some (.lst xs) ∧ xs.length ≤ n ∧ ∀ v ∈ xs, Sh m v
theorem cutS_short (z : Str) (lo hi : Option Int) {n : Nat} (h : z.length ≤ n) : (cutS z lo hi).length ≤ n := Nat.le_trans (cutS_length z lo hi) h
theorem timesS_len (z : Str) (n : Nat) : (timesS z n).length = z.length * n := by
  show ((List.replicate n z.cps.toList).flatten.toArray).size = _
  rw [List.size_toArray, List.length_flatten]
  simp [Str.length, Nat.mul_comm]
theorem app_len (x y : Str) : (x ++ y).length = x.length + y.length := by
  show (x ++ y).cps.size = _
  rw [Str.cps_append, Array.size_append]; rfl
/-- evaluates to a text of at most m signs -/
def ES (te : TE) (σ : L2.St) (b : Addr) (H : Hp) (m : Nat) : Prop := ∀ R : VK, (∀ v H', Drawn b H H' → Sh m v → R v H') → te σ H R
/-- evaluates to a list of at most n texts of at most m signs -/
def EL (te : TE) (σ : L2.St) (b : Addr) (H : Hp) (n m : Nat) : Prop := ∀ R : VK, (∀ p H', Drawn b H H' → p ≠ b → ShL n m H' p → R (.ref p) H') → te σ H R
def EA (ta : TA) (σ : L2.St) (b : Addr) (H : Hp) (n m : Nat) : Prop := ∀ R : List V → Hp → Prop, (∀ vs H', Drawn b H H' → vs.length = n → (∀ v ∈ vs, Sh m v) → R vs H') → ta σ H R
def EO (to : TO) (σ : L2.St) (b : Addr) (H : Hp) : Prop := ∀ R : Option Int → Hp → Prop, (∀ o H', Drawn b H H' → R o H') → to σ H R
section
variable {σ : L2.St} {b : Addr} {H : Hp} {m n m1 m2 n1 n2 : Nat} {ta tb te : TE} {t : TA}
theorem Drawn.refl (hb : IsBox H b) : Drawn b H H := ⟨hb, fun _ _ _ h => h⟩
theorem Drawn.new {H' : Hp} {p : Addr} {o : HO} (d : Drawn b H H') (hp : H' p = none) : Drawn b H (upd H' p o) := d.trans (Drawn.of d.1 (same_new hp))
theorem Drawn.nb {H' : Hp} {p : Addr} (d : Drawn b H H') (hp : H' p = none) : p ≠ b := fun e => by
  subst e
  obtain ⟨i, j, k, z⟩ := d.1
  rw [z] at hp; cases hp
theorem ES.mono (h : ES te σ b H m) (hm : m ≤ n) : ES te σ b H n := fun R r => h R fun v H' d s => r v H' d (s.mono hm)
theorem es_c {z : Str} (hb : IsBox H b) (h : z.length ≤ m) : ES (tC (.str z)) σ b H m := fun R r => r _ _ (Drawn.refl hb) (Sh.mk h)
theorem es_var {i : Nat} {v : V} (hb : IsBox H b) (hi : σ[i]? = some (some v)) (h : Sh m v) : ES (tVar i) σ b H m := fun R r => ⟨v, hi, r _ _ (Drawn.refl hb) h⟩
theorem es_add (hz : m1 + m2 ≤ 1000000) (ha : ES ta σ b H m1) (hc : ∀ H', Drawn b H H' → ES tb σ b H' m2) :
    ES (tOp (fun x y H Q => ∃ i j, x = .str i ∧ y = .str j ∧ i.length + j.length ≤ sizeLine ∧ Q (.str (i ++ j)) H) ta tb) σ b H (m1 + m2) := fun R r => ha _ fun v H1 d1 s1 => hc H1 d1 _ fun v2 H2 d2 s2 => by
  obtain ⟨x, rfl, hx⟩ := s1
  obtain ⟨y, rfl, hy⟩ := s2
  have : (1000000 : Nat) ≤ sizeLine := by decide
  exact ⟨x, y, rfl, rfl, by omega, r _ _ (d1.trans d2) (Sh.mk (by rw [app_len]; omega))⟩
theorem eo_none (hb : IsBox H b) : EO tNoPart σ b H := fun R r => r _ _ (Drawn.refl hb)
theorem eo_int {i : Int} (hb : IsBox H b) : EO (tPart (tC (.int i))) σ b H := fun R r => ⟨i, rfl, r _ _ (Drawn.refl hb)⟩
theorem eo_var {j : Nat} {i : Int} (hb : IsBox H b) (h : σ[j]? = some (some (.int i))) : EO (tPart (tVar j)) σ b H := fun R r => ⟨_, h, i, rfl, r _ _ (Drawn.refl hb)⟩
theorem es_slice {tl th : TO} (hz : m ≤ 1000000) (ha : ES te σ b H m) (hl : ∀ H', Drawn b H H' → EO tl σ b H') (hh : ∀ H', Drawn b H H' → EO th σ b H') : ES (tSl rSlS te tl th) σ b H m := fun R r =>
  ha _ fun v H1 d1 s1 => hl H1 d1 _ fun o H2 d2 => hh H2 (d1.trans d2) _ fun o2 H3 d3 => by
  obtain ⟨x, rfl, hx⟩ := s1
  have : (1000000 : Nat) ≤ sizeLine := by decide
  exact ⟨x, rfl, by omega, r _ _ ((d1.trans d2).trans d3) (Sh.mk (cutS_short x _ _ hx))⟩
theorem es_times {k : Int} (hk : 1 ≤ k ∧ k ≤ 100000) (hz : m * k.toNat ≤ 1000000) (ha : ES te σ b H m) :
    ES (tOp (fun x y H Q => ∃ (z : Str) (n : Int), x = .str z ∧ y = .int n ∧ 1 ≤ n ∧ n ≤ 100000 ∧ z.length * n.toNat ≤ 1000000 ∧ Q (.str (timesS z n.toNat)) H) te (tC (.int k))) σ b H (m * k.toNat) := fun R r =>
  ha _ fun v H1 d1 s1 => by
  obtain ⟨x, rfl, hx⟩ := s1
  have hm := Nat.mul_le_mul_right k.toNat hx
  exact ⟨x, k, rfl, rfl, hk.1, hk.2, by omega, r _ _ d1 (Sh.mk (by rw [timesS_len]; exact hm))⟩
theorem ea_nil (hb : IsBox H b) : EA tNil σ b H 0 m := fun R r => r _ _ (Drawn.refl hb) rfl fun _ h => absurd h List.not_mem_nil
theorem ea_cons (ha : ES te σ b H m) (ht : ∀ H', Drawn b H H' → EA t σ b H' n m) : EA (tCons te t) σ b H (n + 1) m := fun R r =>
  ha _ fun v H1 d1 s1 => ht H1 d1 _ fun vs H2 d2 hl hs => r _ _ (d1.trans d2) (by rw [List.length_cons, hl]) fun z hz => by
    rcases List.mem_cons.mp hz with e | e
    · rw [e]; exact s1
    · exact hs z e
theorem el_lst (hn : n ≤ 1000) (ht : EA t σ b H n m) : EL (tLst t) σ b H n m := fun R r => ht _ fun vs H1 d1 hl hs =>
  ⟨Nat.le_trans (by omega) (by decide : (1000 : Nat) ≤ sizeLine), fun p hp => r p _ (d1.new hp) (d1.nb hp) ⟨vs, upd_same, by omega, hs⟩⟩
theorem el_var {i : Nat} {p : Addr} (hb : IsBox H b) (hi : σ[i]? = some (some (.ref p))) (hp : p ≠ b) (h : ShL n m H p) : EL (tVar i) σ b H n m := fun R r => ⟨_, hi, r p _ (Drawn.refl hb) hp h⟩
theorem el_cat (hn : n1 + n2 ≤ 100000) (ha : EL ta σ b H n1 m) (hc : ∀ H', Drawn b H H' → EL tb σ b H' n2 m) : EL (tOp rCat ta tb) σ b H (n1 + n2) m := fun R r =>
  ha _ fun p1 H1 d1 n1' s1 => hc H1 d1 _ fun p2 H2 d2 n2' s2 => by
  obtain ⟨xs, e1, l1, h1⟩ := s1
  obtain ⟨ys, e2, l2, h2⟩ := s2
  have : (100000 : Nat) ≤ sizeLine := by decide
  refine ⟨p1, p2, xs, ys, rfl, rfl, d2.2 _ _ n1' e1, e2, by omega, fun p hp => r p _ ((d1.trans d2).new hp) ((d1.trans d2).nb hp) ⟨xs ++ ys, upd_same, by rw [List.length_append]; omega, fun v hv => ?_⟩⟩
  rcases List.mem_append.mp hv with hv | hv
  · exact h1 v hv
  · exact h2 v hv
/-- [e for y in list of short texts], e drawing nothing that the list hangs on -/
theorem el_comp {K : PySem.W.Frag} {te0 : TE} {j : Nat} {vs : List Nat} (hn : n ≤ 1000) (hb : IsBox H b) (h0 : EL te0 σ b H n m1)
    (hs : ∀ y H', Drawn b H H' → Sh m1 y → ES te ((wipe σ vs).set j (some y)) b H' m) (hw : ∀ x, wipe ((wipe σ vs).set j (some x)) vs = wipe σ vs := by intro x; rfl) :
    EL (tLc (iList K te0) (gName j) tYes te vs) σ b H n m := by
  intro R r
  refine h0 _ fun p H1 d1 np s1 => ?_
  obtain ⟨xs, e1, l1, h1⟩ := s1
  refine ⟨p, rfl, ⟨xs, SqL.of e1⟩, fun D hD => ?_⟩
  have hDb := d1.nb hD
  have hDp : p ≠ D := ne_of_none e1 hD
  refine lc_it walk_list (fun i H2 => Drawn b H H2 ∧ H2 p = some (.lst xs) ∧ ∃ ys, H2 D = some (.lst ys) ∧ ys.length = i ∧ ∀ v ∈ ys, Sh m v) ⟨d1.new hD, by rw [upd_ne hDp]; exact e1, [], upd_same, rfl, fun _ h => absurd h List.not_mem_nil⟩
    (fun i H2 _ h => SqL.of h.2.1) (fun i v H2 H3 hi hP hy => ?_) (fun H2 hP => ?_)
  · obtain ⟨d2, ep, ys, eD, ly, hys⟩ := hP
    obtain ⟨rfl, hv⟩ := hy
    refine ⟨hw _, ?_⟩
    unfold tYes
    dsimp only
    rw [if_pos rfl]
    refine hs v _ d2 (h1 v (List.mem_of_getElem? hv)) _ fun z H4 d3 hz => ?_
    refine ⟨ys, d3.2 _ _ hDb eD, Nat.lt_of_lt_of_le (show ys.length < 1001 by omega) (by decide), ?_, ?_, ys ++ [z], upd_same, by rw [List.length_append, ly]; rfl, fun u hu => ?_⟩
    · have d4 := d2.trans d3
      obtain ⟨i, j, k, e⟩ := d4.1
      refine ⟨⟨i, j, k, by rw [upd_ne (Ne.symm hDb)]; exact e⟩, fun a o na h => ?_⟩
      have : a ≠ D := fun e => by
        subst e
        have := d1.2 _ _ na h
        rw [this] at hD; cases hD
      rw [upd_ne this]; exact d4.2 a o na h
    · rw [upd_ne hDp]; exact d3.2 _ _ np ep
    · rcases List.mem_append.mp hu with hu | hu
      · exact hys u hu
      · rw [List.mem_singleton.mp hu]; exact hz
  · obtain ⟨d2, ep, ys, eD, ly, hys⟩ := hP
    exact r D H2 d2 hDb ⟨ys, eD, by omega, hys⟩
end
end Gx
namespace Gx
open PySem PySem.Spec PyProof.Rows L2 Lx
/-- x = a list of short texts; return one -/
theorem st_setL {te : TE} {rest : TS} {D : Ends} {σ : L2.St} {H : Hp} {b : Addr} {n m i : Nat} (h : EL te σ b H n m) (k : ∀ p H', Drawn b H H' → p ≠ b → ShL n m H' p → rest D (σ.set i (some (.ref p))) H') :
    tSeq (tAsg te (gName i)) rest D σ H := h _ k
end Gx

set_option maxHeartbeats 4000000
/-! Dx: lists of texts and tuples of ints as data: ==, repr. -/
namespace Gx
open PySem PySem.Spec PyProof.Rows L2 Lx
def dTxts (ls : List (List Nat)) : PyData := .list (ls.map fun l => .str (SX.S l))
theorem dp_txts {K : PySem.W.Frag} {H : Hp} {p : Addr} {ls : List (List Nat)} (h : SqL K H p (txts ls)) : Dp K H (.ref p) (dTxts ls) := by
  refine .lst h ?_
  unfold txts
  clear h
  induction ls with
  | nil => exact .nil
  | cons l ls ih => exact .cons (.str _) ih
theorem can_txts {ls : List (List Nat)} (h : ∀ l ∈ ls, ∀ c ∈ l, c < 1114112) : (dTxts ls).canLay0 = true := by
  unfold dTxts
  rw [PyData.canLay0]
  induction ls with
  | nil => rfl
  | cons l ls ih =>
    rw [List.map_cons, PyData.canLayAll0, ih fun l' hl => h l' (List.mem_cons_of_mem _ hl), Bool.and_true]
    have h1 := h l (List.mem_cons_self ..)
    show PyData.canLay0 (.str (SX.S l)) = true
    rw [PyData.canLay0]
    unfold PyData.strOk
    rw [← Array.all_toList, List.all_eq_true]
    exact fun c hc => decide_eq_true (h1 c hc)
theorem depth_strs : ∀ ls : List (List Nat), PyData.depthAll (ls.map fun l => PyData.str (SX.S l)) = 0
  | [] => rfl
  | l :: ls => by
    rw [List.map_cons, PyData.depthAll, depth_strs ls, PyData.depth]; rfl
theorem shaped_txts {ls : List (List Nat)} (h : ∀ l ∈ ls, ∀ c ∈ l, c < 1114112) : SeqAt.shaped (dTxts ls) = true := by
  unfold SeqAt.shaped
  rw [can_txts h, Bool.true_and]
  unfold dTxts
  rw [PyData.depth, depth_strs]; rfl
/-- lists of alike texts are == -/
theorem ne_txts {K : PySem.W.Frag} {H : Hp} {p q : Addr} {ls : List (List Nat)} {Q : VK} (hp : SqL K H p (txts ls)) (hq : SqL K H q (txts ls)) (h : ∀ l ∈ ls, ∀ c ∈ l, c < 1114112) (k : Q (.bl false) H) : rNeD K (.ref p) (.ref q) H Q :=
  ⟨dTxts ls, dTxts ls, dp_txts hp, dp_txts hq, shaped_txts h, shaped_txts h, by rw [SeqAt.eqv_refl _ (can_txts h)]; exact k⟩
def dInts (ns : List Int) : PyData := .tuple (ns.map .int)
theorem dp_ints {K : PySem.W.Frag} {H : Hp} {p : Addr} {ns : List Int} (h : SqT K H p (ns.map V.int)) : Dp K H (.ref p) (dInts ns) := by
  refine .tup h ?_
  clear h
  induction ns with
  | nil => exact .nil
  | cons l ls ih => exact .cons (.int _) ih
theorem can_ints (ns : List Int) : (dInts ns).canLay0 = true := by
  unfold dInts
  rw [PyData.canLay0]
  induction ns with
  | nil => rfl
  | cons n ns ih => rw [List.map_cons, PyData.canLayAll0, ih, PyData.canLay0]; rfl
theorem depth_ints : ∀ ns : List Int, PyData.depthAll (ns.map PyData.int) = 0
  | [] => rfl
  | n :: ns => by rw [List.map_cons, PyData.depthAll, depth_ints ns, PyData.depth]; rfl
theorem shaped_ints (ns : List Int) : SeqAt.shaped (dInts ns) = true := by
  unfold SeqAt.shaped
  rw [can_ints, Bool.true_and]
  unfold dInts
  rw [PyData.depth, depth_ints]; rfl
theorem ne_ints {K : PySem.W.Frag} {H : Hp} {p q : Addr} {ns : List Int} {Q : VK} (hp : SqT K H p (ns.map V.int)) (hq : SqT K H q (ns.map V.int)) (k : Q (.bl false) H) : rNeD K (.ref p) (.ref q) H Q :=
  ⟨dInts ns, dInts ns, dp_ints hp, dp_ints hq, shaped_ints ns, shaped_ints ns, by rw [SeqAt.eqv_refl _ (can_ints ns)]; exact k⟩
/-- small whole numbers -/
def Lt64 (i : Int) : Prop := i.natAbs.log2 < 64
theorem show_ints : ∀ ns : List Int, (∀ i ∈ ns, Lt64 i) → PyData.showableAll (ns.map PyData.int) = true ∧ PyData.hasDictAll (ns.map PyData.int) = false ∧ piled (PyData.shownAll (ns.map PyData.int)) ≤ 67 * ns.length
  | [], _ => ⟨rfl, rfl, Nat.le_refl _⟩
  | n :: ns, h => by
    obtain ⟨h1, h2, h3⟩ := show_ints ns fun i hi => h i (List.mem_cons_of_mem _ hi)
    have h0 : n.natAbs.log2 < 64 := h n (List.mem_cons_self ..)
    rw [List.map_cons, PyData.showableAll, PyData.hasDictAll, PyData.shownAll, PyData.showable, PyData.hasDict, PyData.shown, h1, h2, piled_cons]
    refine ⟨by simp; omega, rfl, ?_⟩
    have h4 := int_text_length_le (a := n) (k := 64) (by decide) h0
    rw [PySem.ofString_length, List.length_cons]
    omega
/-- repr of a tuple of few small whole numbers -/
theorem repr_ints {ns : List Int} (h : ∀ i ∈ ns, Lt64 i) (hn : ns.length ≤ 100) : (dInts ns).showable = true ∧ (dInts ns).hasDict = false ∧ (dInts ns).depth ≤ 60 ∧ (dInts ns).shown.length ≤ sizeLine := by
  obtain ⟨h1, h2, h3⟩ := show_ints ns h
  refine ⟨?_, ?_, ?_, ?_⟩
  · unfold dInts; rw [PyData.showable]; exact h1
  · unfold dInts; rw [PyData.hasDict]; exact h2
  · unfold dInts; rw [PyData.depth, depth_ints]; decide
  · unfold dInts
    rw [PyData.shown]
    have := fmt_text (PyData.shownAll (ns.map PyData.int))
    have : (100000 : Nat) ≤ sizeLine := by decide
    omega
/-- places of a range with a step -/
theorem rgc_up {m c : Nat} (hm : m ≤ 1000000) (hc : 0 < c) (hc2 : c ≤ 1000000) : ∃ n : Nat, RgC 0 (m : Int) (c : Int) n ∧ ∀ i, i < n → i * c < m := by
  have e := rangeSize_pos (len := (m : Int)) (c := (c : Int)) (by omega) (by omega)
  refine ⟨(((m : Int) + c - 1) / c).toNat, ⟨by omega, by omega, ?_, ?_⟩, fun i hi => ?_⟩
  · have h1 : 0 ≤ ((m : Int) + c - 1) / c := Int.ediv_nonneg (by omega) (by omega)
    have h2 : ((m : Int) + c - 1) / c ≤ (m : Int) + c - 1 := Int.ediv_le_self _ (by omega)
    have h3 : ((m : Int) + c - 1) / c * c ≤ (m : Int) + c - 1 := Int.ediv_mul_le _ (by omega)
    unfold Builtin.Range.small
    rw [e]
    generalize ((m : Int) + c - 1) / c = k at h1 h2 h3
    simp only [Builtin.Range.rangeFitsLong, Bool.and_eq_true, Bool.or_eq_true, decide_eq_true_eq, beq_iff_eq]
    refine ⟨by omega, .inr ?_⟩
    rw [if_pos (by omega)]
    simp only [Bool.and_eq_true, decide_eq_true_eq]
    omega
  · rw [e]
    have : 0 ≤ ((m : Int) + c - 1) / c := Int.ediv_nonneg (by omega) (by omega)
    omega
  · have h1 : (i : Int) < ((m : Int) + c - 1) / c := by omega
    have h2 : ((i : Int) + 1) * c ≤ (m : Int) + c - 1 := by
      have := (Int.le_ediv_iff_mul_le (c := (c : Int)) (a := (i : Int) + 1) (b := (m : Int) + c - 1) (by omega)).mp (by omega)
      exact this
    have h3 : ((i : Int) + 1) * c = ((i * c : Nat) : Int) + c := by rw [Int.add_mul, Int.one_mul, Int.natCast_mul]
    omega
end Gx

set_option maxHeartbeats 4000000
/-! Nx: + and - where a truth stands for its number; str of a truth; repr of small things. -/
namespace Gx
open PySem PySem.Spec PyProof.Rows L2
/-- the number of an int or a truth -/
def asI : V → Option Int
  | .int i => some i
  | .bl b => some (if b = true then 1 else 0)
  | _ => none
theorem same_sub : reflectedDiffers (.type "int") (.type "bool") "sub" = pure false := by
  unfold reflectedDiffers
  show (typeLookup (.type "bool") (dunderR "sub") >>= fun rb => typeLookup (.type "int") (dunderR "sub") >>= fun ra => pure (rb.isSome && rb != ra)) = pure false
  rw [typeLookup_type, typeLookup_type, builtinLookup_eq_fast]; kernel_rfl
section
variable {X : Cx}
theorem op_addN : OpR X (binaryOp .Add) (fun x y H Q => ∃ i j : Int, asI x = some i ∧ y = .int j ∧ Q (.int (i + j)) H) := by
  intro pins s σ H x y v u Q I rx ry h
  obtain ⟨i, j, hi, rfl, q⟩ := h
  obtain ⟨t', rfl⟩ := ry
  cases x with
  | int a => obtain ⟨t, rfl⟩ := rx; cases hi; exact PySem.P.add_int ⟨.int _, H, I.tok _, ⟨_, rfl⟩, q⟩
  | bl c =>
    cases rx; cases hi
    refine IsLeap.wpAny_binaryOp_left (op := .Add) (T := "bool") (U := "int") (by decide) rfl (typeIs_int s j t') F.fills_bool_add F.fills_int_add isSubtype_int_bool F.slot_bool_add ?_
    refine wpAny_call_entry F.slot_bool_add (s := s) rfl F.entry_int_add ?_ (F.args_int_add_2 _ _)
    show wpAny _ _ (do ret (← mkInt ((if c then 1 else 0 : Int) + j))) _ _ s
    exact wpAny_ret_mkInt ⟨by simp, .int _, H, I.tok _, ⟨_, rfl⟩, q⟩
  | _ => cases hi
theorem op_subN : OpR X (binaryOp .Sub) (fun x y H Q => ∃ i j : Int, asI x = some i ∧ asI y = some j ∧ ((∃ n, x = .int n) ∨ ∃ n, y = .int n) ∧ Q (.int (i - j)) H) := by
  intro pins s σ H x y v u Q I rx ry h
  obtain ⟨i, j, hi, hj, ho, q⟩ := h
  cases x with
  | int a =>
    obtain ⟨t, rfl⟩ := rx; cases hi
    cases y with
    | int b => obtain ⟨t', rfl⟩ := ry; cases hj; exact PySem.P.sub_int ⟨.int _, H, I.tok _, ⟨_, rfl⟩, q⟩
    | bl c =>
      cases ry; cases hj
      exact binaryOp_sub_gives (op := .Sub) (T := "int") (U := "bool") (by decide) (typeIs_int s i t) rfl F.fills_int_sub F.fills_bool_sub isSubtype_bool_int same_sub F.slot_int_sub F.entry_int_sub (F.args_int_sub_2 _ _)
        (AutoIntG7.int___sub___int_bool_0 i t c) trivial ⟨.int _, H, I.tok _, ⟨_, rfl⟩, q⟩
    | _ => cases hj
  | bl c =>
    cases rx; cases hi
    cases y with
    | int b =>
      obtain ⟨t', rfl⟩ := ry; cases hj
      refine IsLeap.wpAny_binaryOp_left (op := .Sub) (T := "bool") (U := "int") (by decide) rfl (typeIs_int s j t') F.fills_bool_sub F.fills_int_sub isSubtype_int_bool F.slot_bool_sub ?_
      refine wpAny_call_entry F.slot_bool_sub (s := s) rfl F.entry_int_sub ?_ (F.args_int_sub_2 _ _)
      show wpAny _ _ (do ret (← mkInt ((if c then 1 else 0 : Int) - j))) _ _ s
      exact wpAny_ret_mkInt ⟨by simp, .int _, H, I.tok _, ⟨_, rfl⟩, q⟩
    | _ => rcases ho with ⟨n, e⟩ | ⟨n, e⟩ <;> cases e
  | _ => cases hi
theorem call_reprA (hG : X.A.guards = some []) (hu : X.A.units + 64 < cLine) : CallR X (.builtin "repr") (fun xs H Q => ∃ (v : V) (d : PyData), xs = [v] ∧ Dp X.K H v d ∧ d.showable = true ∧ d.hasDict = false ∧ d.depth ≤ 60 ∧ d.shown.length ≤ sizeLine ∧ Q (.str d.shown) H) := by
  intro pins s σ H xs us Q I r h
  obtain ⟨v, d, rfl, hd, h1, h2, h3, h4, q⟩ := h
  cases hd with
  | non =>
    obtain ⟨u, rfl, rx⟩ := vals1 r
    cases rx
    exact PySem.P.repr_of_none ⟨.str _, H, I.tok _, ⟨_, rfl⟩, q⟩
  | bl b =>
    obtain ⟨u, rfl, rx⟩ := vals1 r
    cases rx
    exact PySem.P.repr_of_bool ⟨.str _, H, I.tok _, ⟨_, rfl⟩, q⟩
  | int i =>
    obtain ⟨u, rfl, t, rfl⟩ := vals1 r
    exact PySem.P.repr_of_int (of_decide_eq_true h1) ⟨.str _, H, I.tok _, ⟨_, rfl⟩, q⟩
  | str x =>
    obtain ⟨u, rfl, t, rfl⟩ := vals1 r
    exact PySem.P.repr_of_str ⟨.str _, H, I.tok _, ⟨_, rfl⟩, q⟩ h4
  | lst a b => exact call_reprD hG hu pins s σ H _ us Q I r ⟨_, _, rfl, .lst a b, h1, h2, h3, h4, q⟩
  | tup a b => exact call_reprD hG hu pins s σ H _ us Q I r ⟨_, _, rfl, .tup a b, h1, h2, h3, h4, q⟩
theorem call_strA : CallR X (.type "str") (fun xs H Q => ∃ i : Int, (xs = [.int i] ∧ i.natAbs.log2 < 1920 ∧ Q (.str (toString i)) H) ∨ ∃ b, xs = [.bl b] ∧ Q (.str (if b then "True" else "False")) H) := by
  intro pins s σ H xs us Q I r h
  obtain ⟨i, ⟨rfl, hz, q⟩ | ⟨b, rfl, q⟩⟩ := h
  · obtain ⟨u, rfl, t, rfl⟩ := vals1 r
    exact PySem.P.str_of_int hz ⟨.str _, H, I.tok _, ⟨_, rfl⟩, q⟩
  · obtain ⟨u, rfl, rx⟩ := vals1 r
    cases rx
    exact PySem.P.str_of_bool ⟨.str _, H, I.tok _, ⟨_, rfl⟩, q⟩
/-! rules within a comprehension: the context's K by its own name -/
theorem pg_tupK {K : PySem.W.Frag} {es : List Expr} {k n : Nat} {t : TGs} {pos : Pos} (hK : X.K = K) (hc : X.calm = true) (h : PGs X es t)
    (hn : (assignEach es X.env).length = n := by rfl) (hst : (assignEach es X.env).findIdx? (·.1) = none := by rfl) : PG X (.Tuple es k pos) (gTup K n t) := hK ▸ pg_tup hc h hn hst
theorem call_isiC {K : PySem.W.Frag} (hK : X.K = K) : CallR X (.builtin "isinstance") (rIsi K) := hK ▸ call_isi
/-- a statement, then the rest, by what stands between -/
theorem seq_via {t rest : TS} {D : Ends} {σ : L2.St} {H : Hp} (P : L2.St → Hp → Prop) (h1 : ∀ D' : Ends, (∀ σ' H', P σ' H' → D'.nx σ' H') → t D' σ H) (k : ∀ σ' H', P σ' H' → rest D σ' H') : tSeq t rest D σ H := h1 _ k
/-! lists of whole numbers as data -/
def dNats (fs : List Nat) : PyData := .list (fs.map fun i => .int ((i : Nat) : Int))
theorem dp_nats {K : PySem.W.Frag} {H : Hp} {p : Addr} {fs : List Nat} (h : SqL K H p (fs.map fun i => V.int ((i : Nat) : Int))) : Dp K H (.ref p) (dNats fs) := by
  refine .lst h ?_
  clear h
  induction fs with
  | nil => exact .nil
  | cons l ls ih => exact .cons (.int _) ih
theorem shaped_nats (fs : List Nat) : SeqAt.shaped (dNats fs) = true := by
  have h1 : ∀ fs : List Nat, PyData.canLayAll0 (fs.map fun i => PyData.int ((i : Nat) : Int)) = true := by
    intro fs
    induction fs with
    | nil => rfl
    | cons n ns ih => rw [List.map_cons, PyData.canLayAll0, ih, PyData.canLay0]; rfl
  have h2 : ∀ fs : List Nat, PyData.depthAll (fs.map fun i => PyData.int ((i : Nat) : Int)) = 0 := by
    intro fs
    induction fs with
    | nil => rfl
    | cons n ns ih => rw [List.map_cons, PyData.depthAll, ih, PyData.depth]; rfl
  unfold SeqAt.shaped dNats
  rw [PyData.canLay0, h1, Bool.true_and, PyData.depth, h2]; rfl
/-- such a list against a bare one -/
theorem ne_nats {K : PySem.W.Frag} {H : Hp} {p q : Addr} {fs : List Nat} {Q : VK} (hp : SqL K H p (fs.map fun i => V.int ((i : Nat) : Int))) (hq : SqL K H q []) (k : Q (.bl (!fs.isEmpty)) H) : rNeD K (.ref p) (.ref q) H Q := by
  refine ⟨dNats fs, .list [], dp_nats hp, .lst hq .nil, shaped_nats fs, by decide +kernel, ?_⟩
  cases fs with
  | nil => exact k
  | cons f fs => exact k
/-- a text n times, none at all too -/
theorem op_mulS0 : OpR X (binaryOp .Mult) (fun x y H Q => ∃ (z : Str) (n : Int), x = .str z ∧ y = .int n ∧ 0 ≤ n ∧ n ≤ 100000 ∧ z.length * n.toNat ≤ 1000000 ∧ Q (.str (timesS z n.toNat)) H) := by
  intro pins s σ H x y v u Q I rx ry h
  obtain ⟨z, n, rfl, rfl, h1, h2, h3, q⟩ := h
  by_cases h0 : n = 0
  · subst h0
    obtain ⟨t, rfl⟩ := rx
    obtain ⟨t', rfl⟩ := ry
    exact PySem.P.mul_str_none (by decide) (by decide) ⟨.str _, H, I.tok _, ⟨_, rfl⟩, q⟩
  · exact op_mulS pins s σ H _ _ v u Q I rx ry ⟨z, n, rfl, rfl, by omega, h2, h3, q⟩
end
end Gx

set_option maxHeartbeats 4000000
/-! En: enumerate(text). -/
namespace Gx
open PySem PySem.Spec PyProof.Rows L2
/-- the signs of x, each in a new pair with its place -/
def IteS (x : Str) : It :=
  ⟨fun i _ => i < x.cps.size, fun i H v H' => ∃ T c, v = .ref T ∧ H T = none ∧ H' = upd H T (.tup [.int (i : Nat), .str ⟨#[c]⟩]) ∧ x.cps[i]? = some c, fun i _ => i = x.cps.size⟩
theorem turn_enumS {P : Program} {w : World} {K : PySem.W.Frag} {elts : List Expr} {kk : Nat} {tpos : Pos} (x : Str) (t : Tok) (e it : Addr) :
    Turn P w K (.Tuple elts kk tpos) (IteS x) [e, it] e (fun i h => (∃ old, IsEnum h e it ((i : Nat) : Int) old) ∧ h.IsStrIter it (strIterType x) x t i ∧ e ≠ it) where
  mem := by simp
  obj := fun i h st b hb => by
    obtain ⟨⟨old, he⟩, ⟨o, ho, hc, hd⟩, _⟩ := st
    have e' : b = e ∨ b = it := by simpa using hb
    rcases e' with z | z
    · rw [z]; exact ⟨_, he, fun v q => nomatch q⟩
    · rw [z]; exact ⟨o, ho, fun v q => by rw [hd] at q; cases q⟩
  keep := fun i h h' st k => let ⟨⟨old, he⟩, ⟨o, ho, r⟩, hne⟩ := st; ⟨⟨old, k e (by simp) _ he⟩, ⟨o, k it (by simp) o ho, r⟩, hne⟩
  item := by
    intro X hP hw hK hc i pins s σ H E I hf st hg
    subst hP hw hK
    obtain ⟨⟨old, he⟩, hit, hne⟩ := st
    have hlt : i < x.cps.size := hg
    have hel : e < s.heap.objs.size := Heap.lt_size he
    have hil : it < s.heap.objs.size := by obtain ⟨_, q, _⟩ := hit; exact Heap.lt_size q
    have D := Draws.text (prog := X.prog) (w := X.w) (A := X.A.in1) (I.ok.hd hc) it x t
    refine wpAny_pyNext_enum_itemC D he hit hlt hne (by simpa using hne) fun u h' tk hP ho hit' hT hsz hk => ?_
    obtain ⟨c, tu, hx, rfl⟩ := hP
    refine ⟨_, rfl, wpAny_letOwnedTupleGo_enum (s := { s with heap := h', toks := tk + 1 }) ho fun h'' he' sb => ?_⟩
    have hT2 : h''.get? s.heap.objs.size = some { cls := .type "tuple", data := .seq #[.int i tk, .str ⟨#[c]⟩ tu] } := (sb.2 _ (Nat.ne_of_gt hel)).trans hT
    have new : ObjOk X.prog X.w (upd H s.heap.objs.size (.tup [.int (i : Nat), .str ⟨#[c]⟩])) h'' s.heap.objs.size (.tup [.int (i : Nat), .str ⟨#[c]⟩]) :=
      ⟨by show 2 ≤ sizeLine; decide, [.int i tk, .str ⟨#[c]⟩ tu], .cons ⟨_, rfl⟩ (.cons ⟨_, rfl⟩ .nil), ⟨_, hT2, rfl, _, rfl⟩⟩
    have I1 : Inv X pins σ (upd H s.heap.objs.size (.tup [.int (i : Nat), .str ⟨#[c]⟩])) { s with heap := h'', toks := tk + 1 } :=
      I.turnedNew (ch := [e, it]) (fun b ob hb q => (sb.2 b (fun z => hb (by simp [z]))).trans (hk b ob (fun z => hb (by simp [z])) (fun z => hb (by simp [z])) q)) hf (Nat.le_refl _) new
    refine ⟨.ref s.heap.objs.size, _, I1, rfl, ⟨_, c, rfl, I.hok.fresh (Nat.le_refl _), rfl, hx⟩, ⟨⟨.str ⟨#[c]⟩ tu, ?_⟩, ?_, hne⟩, fun b hb => ?_⟩
    · have e1 : ((i + 1 : Nat) : Int) = (i : Int) + 1 := by omega
      rw [e1]; exact he'
    · obtain ⟨o, q, r⟩ := hit'
      exact ⟨o, (sb.2 it (Ne.symm hne)).trans q, r⟩
    · have hb' : b < s.heap.objs.size := by
        have e' : b = e ∨ b = it := by simpa using hb
        rcases e' with z | z
        · rw [z]; exact hel
        · rw [z]; exact hil
      rw [upd_ne (Nat.ne_of_lt hb')]
      exact (hf b hb).1
  done := by
    intro X hP hw hK hc i pins s σ H E I hf st hg
    subst hP hw hK
    obtain ⟨⟨old, he⟩, hit, hne⟩ := st
    obtain ⟨f0, f1, f2, f3, f4, f5⟩ := hf it (by simp)
    have hi : i = x.cps.size := hg
    rw [hi] at hit he
    have D := Draws.text (prog := X.prog) (w := X.w) (A := X.A.in1) (I.ok.hd hc) it x t
    exact wpAny_pyNext_enum_endD D he hit fun h' eb => ⟨rfl, I.turned (t' := s.toks) (fun b o hb q => eb b o hb q) f0 f1 f3 f4 f5⟩
  self := fun A i s Q E st h => let ⟨⟨_, he⟩, _⟩ := st; wpAny_pyIter_enum he h
def iEnumS (ta : TA) : TI := fun σ H R => ta σ H fun vs H1 => ∃ x, vs = [.str x] ∧ R (IteS x) H1
theorem pi_enumS {X : Cx} {e : Expr} {ta : TA} {p pos tpos : Pos} {elts : List Expr} {kk : Nat} (hg : Gl X "enumerate") (hm : X.mg "enumerate" = none) (ha : PA X [e] ta) (hs : starEach [e] X.env = [(false, eval e X.env)] := by rfl) :
    PI X (.Tuple elts kk tpos) (.Call (.Name "enumerate" p) [e] [] pos) (iEnumS ta) := by
  refine ⟨fun pins s σ H R I h => ?_⟩
  refine Call_ (ld_blt I hg hm boot_enumerate (PyProof.Rows.callWith_type1 (thn (ha.run pos pins s σ H _ I h) fun us s1 ⟨vs, H1, I1, r1, q1⟩ => ?_) hs rfl))
  obtain ⟨x, ex, q⟩ := q1
  subst ex
  cases r1 with
  | cons r rr =>
    cases rr
    obtain ⟨t, rfl⟩ := r
    refine call_enumerate_str fun h' he hit hsz hk => wpAny_pyIter_enum he ?_
    have I2 : Inv X pins σ H1 { s1 with heap := h' } := I1.kept (t' := s1.toks) hk
    refine ⟨s1.heap.objs.size + 1, [s1.heap.objs.size + 1, s1.heap.objs.size], _, _, H1, rfl, I2, turn_enumS x t (s1.heap.objs.size + 1) s1.heap.objs.size, ⟨⟨.none, he⟩, hit, Nat.succ_ne_self _⟩, fun b hb => ?_, q⟩
    have e' : b = s1.heap.objs.size + 1 ∨ b = s1.heap.objs.size := by simpa using hb
    have hle : s1.heap.objs.size ≤ b := by
      rcases e' with z | z
      · rw [z]; exact Nat.le_add_right _ _
      · rw [z]; exact Nat.le_refl _
    exact I1.fpOk hle (I1.hok.fresh hle)
theorem walk_enumS {x : Str} : Walk (IteS x) x.cps.size (fun _ => True) (fun i H v H' => ∃ T c, v = .ref T ∧ H T = none ∧ H' = upd H T (.tup [.int (i : Nat), .str ⟨#[c]⟩]) ∧ x.cps[i]? = some c) :=
  ⟨fun _ _ hi _ => hi, fun _ _ => rfl, fun _ _ _ _ _ _ y => y⟩
end Gx

set_option maxHeartbeats 4000000
/-! Mx: things of any kind, as data: their kinds, and that they stay. -/
namespace Gx
open PySem PySem.Spec PyProof.Rows L2
theorem same_tup {K : PySem.W.Frag} {H H' : Hp} {a : Addr} {xs : List V} (e : Same H H') (h : SqT K H a xs) : SqT K H' a xs := by
  rcases h with (h | ⟨o, h⟩) | h
  · exact .inl (.inl (e _ _ h))
  · exact .inl (.inr ⟨o, e _ _ h⟩)
  · exact .inr h
mutual
theorem Dp.same {K : PySem.W.Frag} {H H' : Hp} (s : Same H H') : ∀ {v : V} {d : PyData}, Dp K H v d → Dp K H' v d
  | _, _, .non => .non
  | _, _, .bl b => .bl b
  | _, _, .int i => .int i
  | _, _, .str x => .str x
  | _, _, .lst h t => .lst (s.seq h) (DpAll.same s t)
  | _, _, .tup h t => .tup (same_tup s h) (DpAll.same s t)
theorem DpAll.same {K : PySem.W.Frag} {H H' : Hp} (s : Same H H') : ∀ {vs : List V} {ds : List PyData}, DpAll K H vs ds → DpAll K H' vs ds
  | _, _, .nil => .nil
  | _, _, .cons h t => .cons (Dp.same s h) (DpAll.same s t)
end
def tyD : PyData → String
  | .none => "NoneType"
  | .bool _ => "bool"
  | .int _ => "int"
  | .str _ => "str"
  | .list _ => "list"
  | .tuple _ => "tuple"
  | _ => "dict"
theorem dp_ty {K : PySem.W.Frag} {H : Hp} {v : V} {d : PyData} (h : Dp K H v d) : TyX K H v (.type (tyD d)) := by
  cases h with
  | non => exact .base .non
  | bl b => exact .base (.bl b)
  | int i => exact .base (.int i)
  | str x => exact .base (.str x)
  | lst h t =>
    rcases h with (h | ⟨o, h⟩) | ⟨o, its, n, e, c, _⟩
    · exact .base (.lst h)
    · exact .base (.frz h)
    · exact .kList e c
  | tup h t =>
    rcases h with (h | ⟨o, h⟩) | ⟨o, its, n, e, c, _⟩
    · exact .base (.tup h)
    · exact .fTuple h
    · exact .kTuple e c
def isI : PyData → Bool
  | .int _ => true
  | .bool _ => true
  | _ => false
def isB : PyData → Bool
  | .bool _ => true
  | _ => false
def isS : PyData → Bool
  | .str _ => true
  | _ => false
def isT : PyData → Bool
  | .tuple _ => true
  | _ => false
section
variable {K : PySem.W.Frag} {H : Hp} {v : V} {d : PyData} {Q : VK}
theorem k_int (h : Dp K H v d) : PySem.W.kitOne K (.type (tyD d)) (.type "int") = some (isI d) := kit_ty (by cases h <;> rfl)
theorem k_bool (h : Dp K H v d) : PySem.W.kitOne K (.type (tyD d)) (.type "bool") = some (isB d) := kit_ty (by cases h <;> rfl)
theorem k_str (h : Dp K H v d) : PySem.W.kitOne K (.type (tyD d)) (.type "str") = some (isS d) := kit_ty (by cases h <;> rfl)
theorem k_tuple (h : Dp K H v d) : PySem.W.kitOne K (.type (tyD d)) (.type "tuple") = some (isT d) := kit_ty (by cases h <;> rfl)
end
/-- [e for y in a tuple], by the place -/
theorem lc_tupI {K : PySem.W.Frag} {te0 te : TE} {j : Nat} {vs : List Nat} {σ : L2.St} {H : Hp} {Q : VK} {xs : List V} (f : Nat → V) (h0 : Ev1 te0 σ H fun v H1 => ∃ a, v = .ref a ∧ SqT K H1 a xs) (hx : xs.length ≤ 1000000)
    (hs : ∀ i y H', xs[i]? = some y → Same H H' → ∀ Qv : VK, (∀ H'', Same H' H'' → Qv (f i) H'') → te ((wipe σ vs).set j (some y)) H' Qv)
    (hd : ∀ D H', H D = none → Same H H' → H' D = some (.lst ((List.range xs.length).map f)) → Q (.ref D) H') (hw : ∀ x, wipe ((wipe σ vs).set j (some x)) vs = wipe σ vs := by intro x; rfl) :
    tLc (iTup K te0) (gName j) tYes te vs σ H Q := by
  refine h0 _ fun v H1 s1 e => ?_
  obtain ⟨a, rfl, hS⟩ := e
  refine ⟨a, rfl, ⟨xs, hS⟩, fun D hD => ?_⟩
  have hn : xs.length < sizeLine := Nat.lt_of_le_of_lt hx (by decide)
  refine lc_pure walk_tup f hD hn (fun H2 s2 => same_tup s2 hS) (fun i H x H' _ _ y => y.1 ▸ Same.refl _) (fun i v H2 H' hi s2 y Qv q => ?_) (fun H2 s2 e2 => ?_) hw
  · obtain ⟨rfl, hc⟩ := y
    exact hs i v _ hc (s1.trans s2) Qv q
  · exact hd D H2 (s1.free hD) (s1.trans s2) e2
end Gx

set_option maxHeartbeats 4000000
/-! Wx: tuples of texts of the module's own; a def's promise at higher levels; calls of a local that holds a def; a state of draws (cells, turn). -/
namespace Gx
open PySem PySem.Spec PyProof.Rows L2
def strV : Value → Option Str
  | .str x _ => some x
  | _ => none
/-- a tuple of texts that the module's top has left -/
def StrTup (K : PySem.W.Frag) (a : Addr) (xs : List Str) : Prop := ∃ (dd : Option Addr) (us : Array Value) (n : Nat) (sl : Array (Option Value)), K.lookup a = some ⟨.type "tuple", dd, .seq us n, sl⟩ ∧ us.toList.map strV = xs.map some
theorem strTup_mk {K : PySem.W.Frag} {a : Addr} {xs : List Str} {dd : Option Addr} {us : Array Value} {n : Nat} {sl : Array (Option Value)} (l : K.lookup a = some ⟨.type "tuple", dd, .seq us n, sl⟩) (e : us.toList.map strV = xs.map some) : StrTup K a xs := ⟨dd, us, n, sl, l, e⟩
theorem vals_strV : ∀ {us : List Value} {xs : List Str}, us.map strV = xs.map some → Vals (xs.map V.str) us
  | [], [], _ => .nil
  | [], _ :: _, e => nomatch e
  | _ :: _, [], e => nomatch e
  | u :: us, x :: xs, e => by
    rw [List.map_cons, List.map_cons] at e
    injection e with e1 e2
    refine .cons ?_ (vals_strV e2)
    cases u <;> first
      | (cases e1; exact ⟨_, rfl⟩)
      | cases e1
theorem StrTup.sqT {K : PySem.W.Frag} {a : Addr} {xs : List Str} (h : StrTup K a xs) (hx : xs.length ≤ 1000) (H : Hp) : SqT K H a (xs.map V.str) := by
  obtain ⟨dd, us, n, sl, l, e⟩ := h
  have v := vals_strV e
  have hl : (xs.map V.str).length = us.toList.length := v.length
  have h2 : us.toList.length = us.size := Array.length_toList
  rw [List.length_map, h2] at hl
  have hs : (1000 : Nat) ≤ sizeLine := by decide
  exact .inr ⟨_, us, n, l, rfl, rfl, by rw [← hl]; exact Nat.le_trans hx hs, v⟩
section
variable {P : Program} {w : World} {K : PySem.W.Frag} {mg : Str → Option Value} {base : Heap}
theorem FnG.mono {k k' : Nat} {f : Addr} {fd : FuncData} {ps : List Str} {sp : Sp} (F : FnG P w K mg base k f fd ps sp) (h : k ≤ k') : FnG P w K mg base k' f fd ps sp :=
  ⟨F.len, fun A outer s H args us vs Q hG hr => F.go A outer s H args us vs Q hG (hr.mono h)⟩
theorem FnG.weak {k : Nat} {f : Addr} {fd : FuncData} {ps : List Str} {sp sp' : Sp} (F : FnG P w K mg base k f fd ps sp) (h : ∀ vs H Q E, sp' vs H Q E → sp vs H Q E) : FnG P w K mg base k f fd ps sp' :=
  ⟨fun vs H Q E q => F.len vs H Q E (h _ _ _ _ q), fun A outer s H args us vs Q hG hr e b r q => F.go A outer s H args us vs Q hG hr e b r (h _ _ _ _ q)⟩
end
section
variable {X : Cx} {k i : Nat} {f : Addr} {fd : FuncData} {ps : List Str} {sp : Sp} {x : Str} {p pos : Pos} {e : Expr} {es : List Expr} {t : TA}
/-- g(e, ..), g a local that holds a def -/
def tGoL (i : Nat) (f : Addr) (sp : Sp) (t : TA) : TE := fun σ H Q => σ[i]? = some (some (.ref f)) ∧ t σ H fun vs H1 => sp vs H1 Q E0
theorem pe_goL (F : FnG X.prog X.w X.K X.mg X.base k f fd ps sp) (hG : X.A.guards = some []) (hr : Room k X.A) (hN : X.N[i]? = some x) (hv : Vis X.env.scope x) (hk : PySem.W.keepIn X.K (.ref f) = true) (hb : Binds X.K fd ps []) (ha : PA X (e :: es) t)
    (hdb : (x == ("__debug__" : Str)) = false := by decide) (hcd : (x == ("__classdict__" : Str)) = false := by decide)
    (he : starEach (e :: es) X.env = (false, eval e X.env) :: starEach es X.env := by rfl) (hpl : (backTo pos (starEach es X.env)).any (·.1) = false := by rfl) : PE X (.Call (.Name x p) (e :: es) [] pos) (tGoL i f sp t) := by
  constructor
  intro pins s σ H Q I h
  obtain ⟨hs, ht⟩ := h
  refine wpAny_Call_Name_kw (thn ((pe_var (pos := p) hN hv hdb hcd).run pins s σ H (fun v H1 => v = .ref f ∧ H1 = H) I ⟨.ref f, hs, rfl, rfl⟩) fun u s1 z => ?_)
  obtain ⟨v, H1, I1, r1, rfl, rfl⟩ := z
  cases r1
  refine PySem.W.callWith_K (h₀ := X.base) I.ok.mod.kin hk (thn (ha.run pos pins s1 σ _ _ I1 ht) ?_) he hpl
  rintro us s2 ⟨vs, H2, I2, r, q⟩
  exact ⟨I2.kIn, runG F hG hr hb I2 r q⟩
end
theorem cutS_mid (x : Str) (m n : Nat) : (cutS x (some (m : Int)) (some (n : Int))).cps.toList = (x.cps.toList.take n).drop m := by
  unfold cutS
  rw [HT.sIx_nat, HT.sIx_nat, show x.length = x.cps.toList.length from (Array.length_toList).symm]
  show (x.cps.toList.drop (min m x.cps.toList.length)).take _ = _
  rw [← List.drop_take, take_min', ← drop_min' (x.cps.toList.take n) m, List.length_take]
  by_cases h : m ≤ min n x.cps.toList.length
  · congr 1; omega
  · rw [List.drop_of_length_le (by rw [List.length_take]; omega), List.drop_of_length_le (by rw [List.length_take]; omega)]
theorem walk_zipT {K : PySem.W.Frag} {a b : Addr} {xs ys : List V} {n : Nat} (hn : n = min xs.length ys.length) : Walk (RZ.ItzT K a b) n (fun H => SqT K H a xs ∧ SqT K H b ys) (YPair (fun i => xs[i]?) (fun i => ys[i]?)) := by
  subst hn
  constructor
  · intro i _ hi q
    have h1 : i < xs.length := by omega
    have h2 : i < ys.length := by omega
    exact ⟨xs, ys, xs[i], ys[i], q.1, q.2, by simp [h1], by simp [h2]⟩
  · exact fun _ q => ⟨xs, ys, q.1, q.2, by omega⟩
  · intro i H v H' _ q y
    obtain ⟨T, x, z, h1, h2, h3, h4, h5⟩ := y
    exact ⟨T, x, z, h1, h2, h3, h4 xs q.1, h5 ys q.2⟩
section
variable {X : Cx} {K : PySem.W.Frag}
theorem ix_listK (hK : X.K = K) : IxR X (rIxL K) := hK ▸ ix_list
theorem ix_tupK (hK : X.K = K) : IxR X (rIxT K) := hK ▸ ix_tup
theorem ix_seqK (hK : X.K = K) : IxR X (rIx K) := hK ▸ ix_seq
end
/-! ### things that are alike, kind by kind -/
/-- data of None, numbers, texts, so deep at most -/
def Sm : Nat → PyData → Prop
  | 0, _ => False
  | n + 1, d => d = .none ∨ (∃ i, d = .int i) ∨ (∃ x, d = .str x) ∨ ∃ ds : List PyData, (d = .list ds ∨ d = .tuple ds) ∧ ds.length ≤ 1000 ∧ ∀ e ∈ ds, Sm n e
def spS (K : PySem.W.Frag) (n : Nat) : Sp := fun vs H Q _ => ∃ (v u : V) (d : PyData), vs = [v, u] ∧ Dp K H v d ∧ Dp K H u d ∧ Sm n d ∧ ∀ H', Same H H' → Q (.bl true) H'
theorem DpAll.get {K : PySem.W.Frag} {H : Hp} : ∀ {vs : List V} {ds : List PyData} {i : Nat} {v : V}, DpAll K H vs ds → vs[i]? = some v → ∃ d, ds[i]? = some d ∧ Dp K H v d
  | _, _, i, _, .nil, h => by simp at h
  | _, _, 0, _, .cons a _, h => by
    simp only [List.getElem?_cons_zero, Option.some.injEq] at h
    subst h; exact ⟨_, rfl, a⟩
  | _, _, i + 1, _, .cons _ t, h => by
    obtain ⟨d, h1, h2⟩ := DpAll.get (i := i) t (by simpa using h)
    exact ⟨d, by simpa using h1, h2⟩
theorem DpAll.len {K : PySem.W.Frag} {H : Hp} : ∀ {vs : List V} {ds : List PyData}, DpAll K H vs ds → vs.length = ds.length
  | _, _, .nil => rfl
  | _, _, .cons _ t => by rw [List.length_cons, List.length_cons, DpAll.len t]
/-! ### the state of draws -/
/-- the state at st: its cells at c, its turn at most b -/
def IsSt (H : Hp) (st c : Addr) (b : Nat) : Prop := ∃ (t : Nat) (ns : List Int), t ≤ b ∧ H st = some (.dK [(.inr "cells", .ref c), (.inr "turn", .int (t : Int))]) ∧ H c = some (.lst (ns.map V.int)) ∧ 0 < ns.length ∧ ns.length ≤ 63
/-- all stays but the state -/
def Dr (st c : Addr) (b : Nat) (H H' : Hp) : Prop := IsSt H' st c b ∧ ∀ a o, a ≠ st → a ≠ c → H a = some o → H' a = some o
section
variable {st c p : Addr} {b b' : Nat} {H H1 H2 : Hp} {o : HO}
theorem IsSt.mono (h : IsSt H st c b) (hb : b ≤ b') : IsSt H st c b' := by
  obtain ⟨t, ns, h1, h2⟩ := h
  exact ⟨t, ns, Nat.le_trans h1 hb, h2⟩
theorem IsSt.same (h : IsSt H st c b) (s : Same H H1) : IsSt H1 st c b := by
  obtain ⟨t, ns, h1, h2, h3, h4⟩ := h
  exact ⟨t, ns, h1, s _ _ h2, s _ _ h3, h4⟩
theorem Dr.refl (h : IsSt H st c b) : Dr st c b H H := ⟨h, fun _ _ _ _ q => q⟩
theorem Dr.of (h : IsSt H st c b) (s : Same H H1) : Dr st c b H H1 := ⟨h.same s, fun _ _ _ _ q => s _ _ q⟩
theorem Dr.trans (x : Dr st c b H H1) (y : Dr st c b' H1 H2) : Dr st c b' H H2 := ⟨y.1, fun a o n m h => y.2 a o n m (x.2 a o n m h)⟩
theorem Dr.mono (x : Dr st c b H H1) (h : b ≤ b') : Dr st c b' H H1 := ⟨x.1.mono h, x.2⟩
theorem Dr.same (x : Dr st c b H H1) (s : Same H1 H2) : Dr st c b H H2 := x.trans (Dr.of x.1 s)
theorem Dr.new (x : Dr st c b H H1) (hp : H1 p = none) : Dr st c b H (upd H1 p o) := x.same (same_new hp)
theorem IsSt.nb (h : IsSt H st c b) (hp : H p = none) : p ≠ st ∧ p ≠ c := by
  obtain ⟨t, ns, h1, h2, h3, h4⟩ := h
  exact ⟨Ne.symm (ne_of_none h2 hp), Ne.symm (ne_of_none h3 hp)⟩
theorem Dr.nb (x : Dr st c b H H1) (hp : H1 p = none) : p ≠ st ∧ p ≠ c := x.1.nb hp
theorem Dr.free (x : Dr st c b H H1) (hp : H1 p = none) : H p = none := by
  have n := x.nb hp
  cases q : H p with
  | none => rfl
  | some o => rw [x.2 p o n.1 n.2 q] at hp; cases hp
/-- what was not there ahead may change -/
theorem Dr.at (x : Dr st c b H H1) (hp : H p = none) (n : p ≠ st ∧ p ≠ c) (o : HO) : Dr st c b H (upd H1 p o) := by
  obtain ⟨⟨t, ns, h1, h2, h3, h4⟩, h5⟩ := x
  exact ⟨⟨t, ns, h1, by rw [upd_ne (Ne.symm n.1)]; exact h2, by rw [upd_ne (Ne.symm n.2)]; exact h3, h4⟩, fun a o n m h => by rw [upd_ne (ne_of_none h hp)]; exact h5 a o n m h⟩
end
def cap : Nat := 1000000000
def spD_take : Sp := fun vs H Q _ => ∃ (st c : Addr) (b : Nat) (n : Int), vs = [.ref st, .int n] ∧ IsSt H st c b ∧ b ≤ cap ∧ 0 < n ∧ n < 1073741824 ∧ ∀ v H', 0 ≤ v → v < n → Dr st c (b + 1) H H' → Q (.int v) H'
def spD_some : Sp := fun vs H Q _ => ∃ (st c : Addr) (b : Nat) (v : V) (xs : List V), vs = [.ref st, v] ∧ IsSt H st c b ∧ b ≤ cap ∧ xs ≠ [] ∧ xs.length ≤ 100000 ∧
  ((∃ a, v = .ref a ∧ (a ≠ st ∧ a ≠ c) ∧ H a = some (.lst xs)) ∨ ∃ x : Str, v = .str x ∧ xs = x.cps.toList.map fun c => .str (SX.S [c])) ∧ ∀ y H', y ∈ xs → Dr st c (b + 1) H H' → Q y H'
end Gx

set_option maxHeartbeats 4000000
/-! Cl: methods and makings of own classes, of promises that want no guards. -/
namespace Gx
open PySem PySem.Spec PyProof.Rows L2
section
variable {X : Cx} {k : Nat} {f C : Addr} {fd : FuncData} {ps : List Str} {sp : Sp} {x m : Str} {p pos apos : Pos} {e o : Expr} {es : List Expr} {ta : TE} {t : TA}
def tMethG (C : Addr) (m : Str) (sp : Sp) (ta : TE) (t : TA) : TE := fun σ H Q => ta σ H fun x H1 => ∃ a dx fs, x = .ref a ∧ H1 a = some (.ins C dx fs) ∧ fs.lookup m = none ∧ t σ H1 fun vs H2 => sp (x :: vs) H2 Q E0
/-- o.m(e, ..) -/
theorem pe_methG {pl : Sem Bool} (he : PE X o ta) (c : Cls X.K C) (hm : Meth X.K C m f) (F : FnG X.prog X.w X.K X.mg X.base k f fd ps sp) (hG : X.A.guards = some []) (hr : Room k X.A) (hb : Binds X.K fd ps []) (ha : PA X (e :: es) t)
    (hst : starEach (e :: es) X.env = (false, eval e X.env) :: starEach es X.env := by rfl) (hpl : (backTo pos (starEach es X.env)).any (·.1) = false := by rfl)
    (ht : eval (.Call (.Attribute o m apos) (e :: es) [] pos) X.env = (do
      let ov ← eval o X.env
      standAt apos.atName
      let (f, first) ← holding [ov] (getMethod ov m pl)
      callWith pos f first (backTo pos (starEach (e :: es) X.env)) (backToKw pos (keywordEach [] X.env))) := by rfl) :
    PE X (.Call (.Attribute o m apos) (e :: es) [] pos) (tMethG C m sp ta t) := by
  constructor
  intro pins s σ H Q I h
  refine PySem.W.methodCall_KW (pl := pl) (thn (he.run pins s σ H _ I h) ?_) ht
  rintro u s1 ⟨x, H1, I1, rx, a, dx, fs, ex, ea, l, q⟩
  subst ex
  obtain rfl : u = Value.ref a := rx
  refine getmeth_ok I1 ea c hm l ?_
  refine PySem.W.callWith_K (first := [.ref a]) (h₀ := X.base) I.ok.mod.kin hm.kp (thn (ha.run pos pins s1 σ H1 _ I1 q) ?_) hst hpl
  rintro us s2 ⟨vs, H2, I2, r, q2⟩
  exact ⟨I2.kIn, runG (us := .ref a :: us) (vs := .ref a :: vs) F hG hr hb I2 (.cons rfl r) q2⟩
/-- o.m() -/
theorem pe_methG0 {pl : Sem Bool} (he : PE X o ta) (c : Cls X.K C) (hm : Meth X.K C m f) (F : FnG X.prog X.w X.K X.mg X.base k f fd ps sp) (hG : X.A.guards = some []) (hr : Room k X.A) (hb : Binds X.K fd ps [])
    (ht : eval (.Call (.Attribute o m apos) [] [] pos) X.env = (do
      let ov ← eval o X.env
      standAt apos.atName
      let (f, first) ← holding [ov] (getMethod ov m pl)
      callWith pos f first (backTo pos (starEach [] X.env)) (backToKw pos (keywordEach [] X.env))) := by rfl) :
    PE X (.Call (.Attribute o m apos) [] [] pos) (tMethG C m sp ta tNil) := by
  constructor
  intro pins s σ H Q I h
  refine PySem.W.methodCall_KW (pl := pl) (thn (he.run pins s σ H _ I h) ?_) ht
  rintro u s1 ⟨x, H1, I1, rx, a, dx, fs, ex, ea, l, q⟩
  subst ex
  obtain rfl : u = Value.ref a := rx
  refine getmeth_ok I1 ea c hm l ?_
  exact PySem.W.callWith_K0 (first := [.ref a]) I1.kIn hm.kp (runG (us := [.ref a]) (vs := [.ref a]) F hG hr hb I1 (.cons rfl .nil) q)
/-- C(e, ..): a new instance and its dict, then __init__ -/
def tMakeG (C : Addr) (sp : Sp) (t : TA) : TE := fun σ H Q => t σ H fun vs H1 => ∀ x dx, H1 x = none → H1 dx = none → dx ≠ x →
  sp (.ref x :: vs) (upd (upd H1 dx (.own x)) x (.ins C dx [])) (fun v H2 => v = .non ∧ Q (.ref x) H2) E0
theorem run_makeG {pins : List (Addr × Obj)} {σ : L2.St} {H : Hp} {s : Shared} {Q : VK} {us : List Value} {vs : List V} (M : Mk X.K C f) (F : FnG X.prog X.w X.K X.mg X.base k f fd ps sp) (hG : X.A.guards = some []) (hr : Room (k + 1) X.A) (hb : Binds X.K fd ps [])
    (I : Inv X pins σ H s) (r : Vals vs us)
    (h : ∀ x dx, H x = none → H dx = none → dx ≠ x → sp (.ref x :: vs) (upd (upd H dx (.own x)) x (.ins C dx [])) (fun v H2 => v = .non ∧ Q (.ref x) H2) E0) :
    wpAny (model X.prog X.w) X.A (call (.ref C) us) (EP X pins σ Q) X.xe s := by
  have hq := h (s.heap.objs.size + 1) s.heap.objs.size (I.hok.fresh (Nat.le_succ _)) (I.hok.fresh (Nat.le_refl _)) (Nat.ne_of_lt (Nat.lt_succ_self _))
  have I2 := Inv.made (C := C) I
  have r2 : Vals (V.ref (s.heap.objs.size + 1) :: vs) (Value.ref (s.heap.objs.size + 1) :: us) := .cons rfl r
  have hl : (Value.ref (s.heap.objs.size + 1) :: us ++ []).length = ps.length := by
    have e := r2.length
    rw [F.len _ _ _ _ hq] at e
    rw [List.append_nil]
    exact e.symm
  have hb2 := hb _ (Value.ref (s.heap.objs.size + 1) :: us) I2.kIn hl
  rw [List.append_nil] at hb2
  have hG2 : (X.A.under (.builtin "type.__call__" ⟨.ref C :: us, []⟩)).guards = some [] := by
    have e0 : (Code.builtin "type.__call__" ⟨.ref C :: us, []⟩).isGuard = false := by rfl
    simp [Around.under, Code.guards, hG, pushGuards, e0]
  refine wpAny_call (make_map (f := f) I.kIn M.makes M.init (beq_iff_eq.mp M.fn) (codeAny_mono (F.go _ X.stack _ _ ⟨Value.ref (s.heap.objs.size + 1) :: us, []⟩ _ _ _ hG2 (hr.make C us [])
    (I2.env0.make C us []) hb2 r2 hq) fun r s' hq' => ?_))
  match r, hq' with
  | .ok (.ret u), hq' =>
    obtain ⟨v, H', I3, rv, ev, q3⟩ := I2.after hq'
    subst ev
    exact ⟨rv, ⟨V.ref (s.heap.objs.size + 1), H', I3, rfl, q3⟩⟩
  | .ok .next, hq' => exact False.elim hq'
  | .ok .brk, hq' => exact False.elim hq'
  | .ok .cont, hq' => exact False.elim hq'
  | .error e, hq' => exact False.elim hq'
theorem pe_makeG (M : Mk X.K C f) (F : FnG X.prog X.w X.K X.mg X.base k f fd ps sp) (hG : X.A.guards = some []) (hr : Room (k + 1) X.A) (hg : Gl X x) (hm : X.mg x = some (.ref C)) (hb : Binds X.K fd ps [])
    (ha : PA X (e :: es) t) (hdb : (x == ("__debug__" : Str)) = false := by decide) (he : starEach (e :: es) X.env = (false, eval e X.env) :: starEach es X.env := by rfl) (hpl : (backTo pos (starEach es X.env)).any (·.1) = false := by rfl) :
    PE X (.Call (.Name x p) (e :: es) [] pos) (tMakeG C sp t) := by
  constructor
  intro pins s σ H Q I h
  refine wpAny_Call_Name_kw (ld_glob I hg hm ?_ hdb)
  refine PySem.W.callWith_K (h₀ := X.base) I.ok.mod.kin M.kp (thn (ha.run pos pins s σ H _ I h) ?_) he hpl
  rintro us s1 ⟨vs, H1, I1, r, q⟩
  exact ⟨I1.kIn, run_makeG M F hG hr hb I1 r q⟩
/-- g(e, ..), g a local that holds one of some defs -/
def tGoA (i : Nat) (D : Addr → Prop) (R : Addr → Sp) (t : TA) : TE := fun σ H Q => ∃ f, σ[i]? = some (some (.ref f)) ∧ D f ∧ t σ H fun vs H1 => R f vs H1 Q E0
theorem pe_goA {i : Nat} {D : Addr → Prop} {R : Addr → Sp} (hF : ∀ f vs H Q, D f → R f vs H Q E0 → ∃ k fd ps sp, FnG X.prog X.w X.K X.mg X.base k f fd ps sp ∧ Room k X.A ∧ Binds X.K fd ps [] ∧ sp vs H Q E0) (hG : X.A.guards = some [])
    (hk : ∀ f, D f → PySem.W.keepIn X.K (.ref f) = true) (hN : X.N[i]? = some x) (hv : Vis X.env.scope x) (ha : PA X (e :: es) t)
    (hdb : (x == ("__debug__" : Str)) = false := by decide) (hcd : (x == ("__classdict__" : Str)) = false := by decide)
    (he : starEach (e :: es) X.env = (false, eval e X.env) :: starEach es X.env := by rfl) (hpl : (backTo pos (starEach es X.env)).any (·.1) = false := by rfl) : PE X (.Call (.Name x p) (e :: es) [] pos) (tGoA i D R t) := by
  constructor
  intro pins s σ H Q I h
  obtain ⟨f, hs, hD, ht⟩ := h
  refine wpAny_Call_Name_kw (thn ((pe_var (pos := p) hN hv hdb hcd).run pins s σ H (fun v H1 => v = .ref f ∧ H1 = H) I ⟨.ref f, hs, rfl, rfl⟩) fun u s1 z => ?_)
  obtain ⟨v, H1, I1, r1, rfl, rfl⟩ := z
  cases r1
  refine PySem.W.callWith_K (h₀ := X.base) I.ok.mod.kin (hk f hD) (thn (ha.run pos pins s1 σ _ _ I1 ht) ?_) he hpl
  rintro us s2 ⟨vs, H2, I2, r, q⟩
  obtain ⟨k, fd, ps, sp, F, hr, hb, hsp⟩ := hF f vs H2 Q hD q
  exact ⟨I2.kIn, runG F hG hr hb I2 r hsp⟩
end
end Gx
/-! ### a written dict with text keys, of the top -/
namespace Gx
open PySem PySem.Spec PyProof.Rows L2
def dEnt (e : DictEntry) : Option (Str × Int × Value) := match e.key with
  | .str x _ => some (x, e.hash, e.val)
  | _ => none
def dEnts (P : Params) (kvs : List (Str × Value)) : List (Option (Str × Int × Value)) := kvs.map fun p => some (p.1, PyData.keyHash P p.1, p.2)
structure KTab (K : PySem.W.Frag) (w : World) (a : Addr) (kvs : List (Str × Value)) : Prop where
  ex : ∃ es n, K.lookup a = some ⟨.type "dict", none, .dict es n, #[]⟩ ∧ es.toList.map dEnt = dEnts w.params kvs
  low : (a == sysModules) = false
theorem kTab_mk {K : PySem.W.Frag} {w : World} {a : Addr} {kvs : List (Str × Value)} {es : Array DictEntry} {n : Nat} (l : K.lookup a = some ⟨.type "dict", none, .dict es n, #[]⟩) (e : es.toList.map dEnt = dEnts w.params kvs) (o : (a == sysModules) = false) : KTab K w a kvs := ⟨⟨es, n, l, e⟩, o⟩
theorem dEnt_key {e : DictEntry} {x : Str} {h : Int} {v : Value} (q : dEnt e = some (x, h, v)) : (∃ t, e.key = .str x t) ∧ e.hash = h ∧ e.val = v := by
  unfold dEnt at q
  split at q
  · rename_i y t e1
    injection q with q
    injection q with q1 q2
    injection q2 with q2 q3
    subst q1 q2 q3
    exact ⟨⟨t, e1⟩, rfl, rfl⟩
  · cases q
theorem dEnts_lit {P : Params} : ∀ {l : List DictEntry} {kvs : List (Str × Value)}, l.map dEnt = dEnts P kvs → PySem.W.KeysLit P l
  | [], _, _ => trivial
  | e :: r, [], h => by cases h
  | e :: r, p :: ps, h => by
    have h1 : dEnt e :: r.map dEnt = some (p.1, PyData.keyHash P p.1, p.2) :: dEnts P ps := h
    injection h1 with h2 h3
    obtain ⟨⟨t, e1⟩, e2, _⟩ := dEnt_key h2
    exact ⟨⟨p.1, t, e1, e2⟩, dEnts_lit h3⟩
theorem dEnts_find {P : Params} (x : Str) : ∀ {l : List DictEntry} {kvs : List (Str × Value)}, l.map dEnt = dEnts P kvs → (l.find? fun e => Value.isStrOf x e.key).map (·.val) = kvs.lookup x
  | [], [], _ => rfl
  | [], _ :: _, h => by cases h
  | e :: r, [], h => by cases h
  | e :: r, p :: ps, h => by
    have h1 : dEnt e :: r.map dEnt = some (p.1, PyData.keyHash P p.1, p.2) :: dEnts P ps := h
    injection h1 with h2 h3
    obtain ⟨⟨t, e1⟩, _, e3⟩ := dEnt_key h2
    have ih := dEnts_find x h3
    obtain ⟨k, v⟩ := p
    rw [List.find?_cons, List.lookup_cons, e1]
    have e4 : Value.isStrOf x (.str k t) = (x == k) := by
      rw [← PySem.W.isStr_of]
      show (k == x) = (x == k)
      rw [Bool.eq_iff_iff, beq_iff_eq, beq_iff_eq]
      exact eq_comm
    rw [e4]
    cases x == k with
    | true => exact congrArg some e3
    | false => exact ih
section
variable {X : Cx} {o e : Expr} {apos cpos : Pos} {td ty : TE}
/-- d.get(k), d a written dict of the top -/
def tKGet (K : PySem.W.Frag) (w : World) (td ty : TE) : TE := fun σ H Q => td σ H fun x H1 => ∃ p kvs, x = .ref p ∧ KTab K w p kvs ∧ ty σ H1 fun y H2 => ∃ (z : Str) (v : V), y = .str z ∧ RelV v ((kvs.lookup z).getD .none) ∧ Q v H2
theorem pe_kget (ho : PE X o td) (he : PE X e ty) (m : M1 X o "get" apos e cpos) : PE X (.Call (.Attribute o "get" apos) [e] [] cpos) (tKGet X.K X.w td ty) := by
  constructor
  intro pins s σ H Q I h
  refine wpAny_Call_method m.base m.few m.line PySem.F.plainAttrs_dict PySem.F.slot_dict_get PySem.F.type_dict_get (thn (ho.run pins s σ H _ I h) ?_)
  rintro u s1 ⟨x, H1, I1, rx, p, kvs, ex, T, q1⟩
  subst ex
  obtain rfl : u = Value.ref p := rx
  obtain ⟨es, n, hl, hd⟩ := T.ex
  have hlit := dEnts_lit hd
  have hm := PySem.W.mapOf_K (prog := X.prog) (w := X.w) I1.kIn hl hlit
  refine ⟨hm.typeIs, fun b q => ?_, ?_⟩
  · cases q
    exact ⟨_, I1.kIn _ _ hl, rfl⟩
  rw [m.trees]
  refine Calls.callWith_builtin rfl (Calls.evalArgs_plain (Calls.spliced_cons (thn (he.run pins s1 σ H1 _ I1 q1) ?_)))
  rintro iv s2 ⟨y, H2, I2, ry, z, v, ey, rv, q2⟩
  subst ey
  obtain ⟨t, rfl⟩ := ry
  refine Calls.spliced_nil ?_
  have hm2 := PySem.W.mapOf_K (prog := X.prog) (w := X.w) I2.kIn hl hlit
  refine call_meetsIn PySem.F.slot_dict_get hm2.typeIs PySem.F.entry_dict_get (PySem.F.args_dict_get_2 _ _) (meets_dict_get (strKind X.prog X.w) p (PySem.strKind_is X.prog X.w z t) T.low) ⟨_, hm2, v, H2, I2.tok _, ?_, q2⟩
  obtain ⟨l⟩ := es
  have := dEnts_find z hd
  unfold findBy
  rw [List.find?_toArray, this]
  exact rv
end
end Gx

set_option maxHeartbeats 4000000
/-! Pr: pairs of texts by ==, !=, in. -/
namespace Gx
open PySem PySem.Spec PyProof.Rows L2
section
variable {X : Cx} {pins : List (Addr × Obj)} {σ : L2.St} {H : Hp} {s : Shared}
theorem pair_its {K : PySem.W.Frag} {a : Addr} {x1 x2 : Str} {its : List Value} (r : Vals [V.str x1, .str x2] its) : ∃ t1 t2, its = [.str x1 t1, .str x2 t2] := by
  cases r with
  | cons r1 r2 =>
    cases r2 with
    | cons r3 r4 =>
      cases r4
      obtain ⟨t1, rfl⟩ := r1
      obtain ⟨t2, rfl⟩ := r3
      exact ⟨t1, t2, rfl⟩
theorem pair_all (x1 x2 y1 y2 : Str) : ((List.range (min 2 2)).all (fun j => match j with | 0 => x1 == y1 | _ => x2 == y2) && 2 == 2) = decide (x1 = y1 ∧ x2 = y2) := by
  have e : ∀ a b : Str, (a == b) = decide (a = b) := fun a b => by rw [Bool.eq_iff_iff, beq_iff_eq, decide_eq_true_eq]
  show (((x1 == y1) && ((x2 == y2) && true)) && true) = _
  rw [e, e, Bool.and_true, Bool.and_true, ← Bool.decide_and]
theorem pair_he {A : Around} {x1 x2 y1 y2 : Str} {t1 t2 u1 u2 : Tok} : ∀ j (h1 : j < (#[Value.str x1 t1, .str x2 t2]).size) (h2 : j < (#[Value.str y1 u1, .str y2 u2]).size), SeqAt.EqAt A s (#[Value.str x1 t1, .str x2 t2])[j] (#[Value.str y1 u1, .str y2 u2])[j] ((fun j => match j with | 0 => x1 == y1 | _ => x2 == y2) j)
  | 0, _, _ => SeqAt.EqAt.str_str x1 t1 y1 u1
  | 1, _, _ => SeqAt.EqAt.str_str x2 t2 y2 u2
  | _ + 2, h, _ => absurd h (by simp)
theorem pair_rc (I : Inv X pins σ H s) {A : Around} {a b : Addr} {x1 x2 y1 y2 : Str} (ha : SqT X.K H a [.str x1, .str x2]) (hb : SqT X.K H b [.str y1, .str y2]) (hu : A.units < cLine) : SeqAt.RcAt A s (.ref a) (.ref b) (decide (x1 = y1 ∧ x2 = y2)) := by
  obtain ⟨i1, r1, h1, _⟩ := I.tuple ha
  obtain ⟨i2, r2, h2, _⟩ := I.tuple hb
  obtain ⟨t1, t2, rfl⟩ := pair_its (K := X.K) (a := a) r1
  obtain ⟨u1, u2, rfl⟩ := pair_its (K := X.K) (a := b) r2
  have := SeqAt.RcAt.tuples h1 h2 hu pair_he
  rw [show (([Value.str x1 t1, .str x2 t2] : List Value).toArray).size = 2 from rfl, show (([Value.str y1 u1, .str y2 u2] : List Value).toArray).size = 2 from rfl, pair_all] at this
  exact this
theorem pair_ne (I : Inv X pins σ H s) {A : Around} {a b : Addr} {x1 x2 y1 y2 : Str} (ha : SqT X.K H a [.str x1, .str x2]) (hb : SqT X.K H b [.str y1, .str y2]) (hu : A.units < cLine) : SeqAt.RcNeAt A s (.ref a) (.ref b) (!decide (x1 = y1 ∧ x2 = y2)) := by
  obtain ⟨i1, r1, h1, _⟩ := I.tuple ha
  obtain ⟨i2, r2, h2, _⟩ := I.tuple hb
  obtain ⟨t1, t2, rfl⟩ := pair_its (K := X.K) (a := a) r1
  obtain ⟨u1, u2, rfl⟩ := pair_its (K := X.K) (a := b) r2
  have := SeqAt.RcNeAt.tuples h1 h2 hu pair_he
  rw [show (([Value.str x1 t1, .str x2 t2] : List Value).toArray).size = 2 from rfl, show (([Value.str y1 u1, .str y2 u2] : List Value).toArray).size = 2 from rfl, pair_all] at this
  exact this
theorem pair_eqAt (I : Inv X pins σ H s) {A : Around} {a b : Addr} {x1 x2 y1 y2 : Str} (ha : SqT X.K H a [.str x1, .str x2]) (hb : SqT X.K H b [.str y1, .str y2]) (hu : A.units < cLine) : SeqAt.EqAt A s (.ref a) (.ref b) (decide (x1 = y1 ∧ x2 = y2)) := by
  by_cases e : a = b
  · subst e
    obtain ⟨i1, r1, h1, _⟩ := I.tuple ha
    obtain ⟨i2, r2, h2, _⟩ := I.tuple hb
    obtain ⟨t1, t2, rfl⟩ := pair_its (K := X.K) (a := a) r1
    obtain ⟨u1, u2, rfl⟩ := pair_its (K := X.K) (a := a) r2
    have ee : ([Value.str x1 t1, .str x2 t2] : List Value).toArray = ([Value.str y1 u1, .str y2 u2] : List Value).toArray := by
      obtain ⟨o, ho, _, n, hd⟩ := h1
      obtain ⟨o2, ho2, _, n2, hd2⟩ := h2
      rw [ho] at ho2
      cases ho2
      rw [hd] at hd2
      injection hd2
    have e2 : ([Value.str x1 t1, .str x2 t2] : List Value) = [Value.str y1 u1, .str y2 u2] := by simpa using ee
    injection e2 with e3 e4
    injection e3 with e5 _
    injection e4 with e6 _
    injection e6 with e7 _
    rw [decide_eq_true ⟨e5, e7⟩]
    exact SeqAt.EqAt.same _
  · exact SeqAt.EqAt.of_refs e (pair_rc I ha hb hu)
end
section
variable {X : Cx}
theorem op_eqP (hu : X.A.units < cLine) : OpR X (compareOp .Eq) (fun x y H Q => ∃ a b x1 x2 y1 y2, x = .ref a ∧ y = .ref b ∧ SqT X.K H a [.str x1, .str x2] ∧ SqT X.K H b [.str y1, .str y2] ∧ Q (.bl (decide (x1 = y1 ∧ x2 = y2))) H) := by
  intro pins s σ H x y v u Q I rx ry h
  obtain ⟨a, b, x1, x2, y1, y2, rfl, rfl, ha, hb, q⟩ := h
  cases rx
  cases ry
  exact pair_rc I ha hb hu X.prog X.w _ _ ⟨.bl _, H, I, rfl, q⟩
theorem op_neP (hu : X.A.units < cLine) : OpR X (compareOp .NotEq) (fun x y H Q => ∃ a b x1 x2 y1 y2, x = .ref a ∧ y = .ref b ∧ SqT X.K H a [.str x1, .str x2] ∧ SqT X.K H b [.str y1, .str y2] ∧ Q (.bl (!decide (x1 = y1 ∧ x2 = y2))) H) := by
  intro pins s σ H x y v u Q I rx ry h
  obtain ⟨a, b, x1, x2, y1, y2, rfl, rfl, ha, hb, q⟩ := h
  cases rx
  cases ry
  exact pair_ne I ha hb hu X.prog X.w _ _ ⟨.bl _, H, I, rfl, q⟩
/-- pairs at these addresses -/
def PairsAt (K : PySem.W.Frag) (H : Hp) (as : List Addr) (ps : List (Str × Str)) : Prop := Paired (fun a (p : Str × Str) => SqT K H a [.str p.1, .str p.2]) as ps
theorem pairs_vals : ∀ {as : List Addr} {us : List Value}, Vals (as.map V.ref) us → us = as.map Value.ref
  | [], _, .nil => rfl
  | a :: as, _, .cons r t => by
    cases r
    rw [pairs_vals t]; rfl
theorem pairs_any {K : PySem.W.Frag} {H : Hp} (f : Addr → Bool) (g : Str × Str → Bool) : ∀ {as : List Addr} {ps : List (Str × Str)}, PairsAt K H as ps → (∀ a p, SqT K H a [.str p.1, .str p.2] → f a = g p) → as.any f = ps.any g
  | _, _, .nil, _ => rfl
  | _, _, .cons h t, k => by rw [List.any_cons, List.any_cons, k _ _ h, pairs_any f g t k]
theorem op_inP (hu : X.A.units + 1 < cLine) : OpR X (compareOp .In) (fun x y H Q => ∃ a b x1 x2 as ps, x = .ref a ∧ y = .ref b ∧ SqT X.K H a [.str x1, .str x2] ∧ (SqL X.K H b (as.map V.ref) ∨ SqT X.K H b (as.map V.ref)) ∧ PairsAt X.K H as ps ∧ Q (.bl (decide ((x1, x2) ∈ ps))) H) := by
  intro pins s σ H x y v u Q I rx ry h
  obtain ⟨a, b, x1, x2, as, ps, rfl, rfl, ha, hb, hp, q⟩ := h
  cases rx
  cases ry
  have key : ∃ f : Value → Bool, (∀ w ∈ as.map Value.ref, SeqAt.EqAt X.A.in1 s w (.ref a) (f w)) ∧ (as.map Value.ref).any f = decide ((x1, x2) ∈ ps) := by
    clear q hb
    classical
    refine ⟨fun w => match w with | .ref c => decide (∃ y1 y2, SqT X.K H c [.str y1, .str y2] ∧ y1 = x1 ∧ y2 = x2) | _ => false, fun w hw => ?_, ?_⟩
    · obtain ⟨c, hc, rfl⟩ := List.mem_map.mp hw
      obtain ⟨y1, y2, hy⟩ : ∃ y1 y2, SqT X.K H c [.str y1, .str y2] := by
        clear hw
        induction hp with
        | nil => cases hc
        | cons h t ih =>
          rcases List.mem_cons.mp hc with rfl | hc
          · exact ⟨_, _, h⟩
          · exact ih hc
      have := pair_eqAt I hy ha (A := X.A.in1) hu
      have e : decide (y1 = x1 ∧ y2 = x2) = decide (∃ y1 y2, SqT X.K H c [.str y1, .str y2] ∧ y1 = x1 ∧ y2 = x2) := by
        refine decide_eq_decide.mpr ⟨fun h => ⟨y1, y2, hy, h⟩, fun ⟨z1, z2, hz, e1, e2⟩ => ?_⟩
        obtain ⟨i1, r1, h1, _⟩ := I.tuple hy
        obtain ⟨i2, r2, h2, _⟩ := I.tuple hz
        obtain ⟨t1, t2, rfl⟩ := pair_its (K := X.K) (a := c) r1
        obtain ⟨u1, u2, rfl⟩ := pair_its (K := X.K) (a := c) r2
        have ee : ([Value.str y1 t1, .str y2 t2] : List Value).toArray = ([Value.str z1 u1, .str z2 u2] : List Value).toArray := by
          obtain ⟨o, ho, _, n, hd⟩ := h1
          obtain ⟨o2, ho2, _, n2, hd2⟩ := h2
          rw [ho] at ho2
          cases ho2
          rw [hd] at hd2
          injection hd2
        have e3 : ([Value.str y1 t1, .str y2 t2] : List Value) = [Value.str z1 u1, .str z2 u2] := by simpa using ee
        injection e3 with e4 e5
        injection e4 with e6 _
        injection e5 with e7 _
        injection e7 with e8 _
        exact ⟨e6.trans e1, e8.trans e2⟩
      dsimp only
      rw [← e]
      exact this
    · rw [List.any_map]
      rw [pairs_any (K := X.K) (H := H) _ (fun p => decide (p.1 = x1 ∧ p.2 = x2)) hp fun c p hc => ?_]
      · rw [Bool.eq_iff_iff, List.any_eq_true, decide_eq_true_eq]
        constructor
        · rintro ⟨p, hp, h⟩
          obtain ⟨h1, h2⟩ := of_decide_eq_true h
          subst h1 h2
          exact hp
        · intro h
          exact ⟨_, h, decide_eq_true ⟨rfl, rfl⟩⟩
      · dsimp only [Function.comp]
        refine decide_eq_decide.mpr ⟨fun ⟨z1, z2, hz, e1, e2⟩ => ?_, fun h => ⟨p.1, p.2, hc, h⟩⟩
        obtain ⟨i1, r1, h1, _⟩ := I.tuple hc
        obtain ⟨i2, r2, h2, _⟩ := I.tuple hz
        obtain ⟨t1, t2, rfl⟩ := pair_its (K := X.K) (a := c) r1
        obtain ⟨u1, u2, rfl⟩ := pair_its (K := X.K) (a := c) r2
        have ee : ([Value.str p.1 t1, .str p.2 t2] : List Value).toArray = ([Value.str z1 u1, .str z2 u2] : List Value).toArray := by
          obtain ⟨o, ho, _, n, hd⟩ := h1
          obtain ⟨o2, ho2, _, n2, hd2⟩ := h2
          rw [ho] at ho2
          cases ho2
          rw [hd] at hd2
          injection hd2
        have e3 : ([Value.str p.1 t1, .str p.2 t2] : List Value) = [Value.str z1 u1, .str z2 u2] := by simpa using ee
        injection e3 with e4 e5
        injection e4 with e6 _
        injection e5 with e7 _
        injection e7 with e8 _
        exact ⟨e6.trans e1, e8.trans e2⟩
  obtain ⟨f, hf, he⟩ := key
  rcases hb with hq | hq
  · obtain ⟨its, r, pl, hz⟩ := I.list hq
    obtain rfl := pairs_vals r
    refine SeqAt.in_listAt f pl.isList (fun w hw => hf w (by simpa using hw)) ⟨.bl _, H, I, rfl, ?_⟩
    rw [show (as.map Value.ref).toArray.any f = (as.map Value.ref).any f by simp, he]
    exact q
  · obtain ⟨its, r, pl, hz⟩ := I.tuple hq
    obtain rfl := pairs_vals r
    refine SeqAt.in_tupleAt f pl (fun w hw => hf w (by simpa using hw)) ⟨.bl _, H, I, rfl, ?_⟩
    rw [show (as.map Value.ref).toArray.any f = (as.map Value.ref).any f by simp, he]
    exact q
/-- xs == [] -/
theorem op_eqL0 (hu : X.A.units < cLine) : OpR X (compareOp .Eq) (fun x y H Q => ∃ a b xs, x = .ref a ∧ y = .ref b ∧ SqL X.K H a xs ∧ SqL X.K H b [] ∧ Q (.bl xs.isEmpty) H) := by
  intro pins s σ H x y v u Q I rx ry h
  obtain ⟨a, b, xs, rfl, rfl, ha, hb, q⟩ := h
  cases rx
  cases ry
  obtain ⟨i1, r1, h1, _⟩ := I.list ha
  obtain ⟨i2, r2, h2, _⟩ := I.list hb
  cases r2
  cases r1 with
  | nil => exact SeqAt.RcAt.lists (e := fun _ => true) h1.isList h2.isList rfl hu (fun j j1 _ => absurd j1 (by simp)) X.prog X.w _ _ ⟨.bl true, H, I, rfl, q⟩
  | cons _ _ => exact SeqAt.RcAt.lists_lengths h1.isList h2.isList (by simp) hu X.prog X.w _ _ ⟨.bl false, H, I, rfl, q⟩
theorem hu0 {A : Around} {k : Nat} (r : Room k A) : A.units < cLine := Nat.lt_of_succ_lt (hu_of r)
end
end Gx

set_option maxHeartbeats 4000000
namespace K12
open PySem PySem.Spec PyProof.Rows L2 Gx
def topS (i : Nat) : Stmt := PySem.Challenge.pw_typedahead_k12_texts_laid_out.main.body.getD i (.Pass ⟨0, 0, 0, 0⟩)
def clsS (i j : Nat) : Stmt := match topS i with | .ClassDef _ _ _ body _ _ _ _ _ _ _ => body.getD j (.Pass ⟨0, 0, 0, 0⟩) | _ => .Pass ⟨0, 0, 0, 0⟩
abbrev s_rows_of : Stmt := topS 2
abbrev s_text_of : Stmt := topS 3
abbrev s_is_name : Stmt := topS 8
abbrev s_is_letter : Stmt := topS 9
abbrev s_tokens : Stmt := topS 14
abbrev s_token_at : Stmt := topS 15
abbrev s_is_figure : Stmt := topS 16
abbrev s_run_at : Stmt := topS 17
abbrev s_letters_sort : Stmt := topS 18
abbrev s_quoted_at : Stmt := topS 19
abbrev s_stops : Stmt := topS 23
abbrev s_Reader___init__ : Stmt := clsS 24 0
abbrev s_Reader_here : Stmt := clsS 24 1
abbrev s_Reader_stands : Stmt := clsS 24 2
abbrev s_Reader_step : Stmt := clsS 24 3
abbrev s_Reader_stop : Stmt := clsS 24 4
abbrev s_Reader_read_sign : Stmt := clsS 24 5
abbrev s_Reader_read_name : Stmt := clsS 24 6
abbrev s_Reader_read_kind : Stmt := clsS 24 7
abbrev s_Reader_read_param : Stmt := clsS 24 8
abbrev s_Reader_read_part : Stmt := clsS 24 9
abbrev s_Reader_read_single : Stmt := clsS 24 10
abbrev s_Reader_read_named : Stmt := clsS 24 11
abbrev s_Reader_read_parts : Stmt := clsS 24 12
abbrev s_Reader_read_round : Stmt := clsS 24 13
abbrev s_Reader_read_if : Stmt := clsS 24 14
abbrev s_read_take : Stmt := topS 25
abbrev s_read_let : Stmt := topS 26
abbrev s_read_def : Stmt := topS 27
abbrev s_read : Stmt := topS 29
abbrev s_laid_text : Stmt := topS 31
abbrev s_laid : Stmt := topS 32
abbrev s_joined : Stmt := topS 33
abbrev s_apart : Stmt := topS 34
abbrev s_L_begin : Stmt := topS 36
abbrev s_L_take : Stmt := topS 37
abbrev s_L_some : Stmt := topS 38
abbrev s_L_names : Stmt := topS 39
abbrev s_L_part_words : Stmt := topS 40
abbrev s_L_comma_words : Stmt := topS 41
abbrev s_L_single_words : Stmt := topS 42
abbrev s_L_row_words : Stmt := topS 43
abbrev s_L_tight : Stmt := topS 44
abbrev s_L_right_row : Stmt := topS 45
abbrev s_L_soup : Stmt := topS 46
abbrev s_L_bent_row : Stmt := topS 47
abbrev s_L_text : Stmt := topS 48
abbrev s_law : Stmt := topS 49
theorem sc_rows_of : FnScope ["text"] ["text"] (defScope s_rows_of) := ⟨rfl, rfl, rfl, by decide +kernel, rfl, by decide +kernel, by decide +kernel⟩
theorem sc_text_of : FnScope ["rows"] ["rows"] (defScope s_text_of) := ⟨rfl, rfl, rfl, by decide +kernel, rfl, by decide +kernel, by decide +kernel⟩
theorem sc_is_name : FnScope ["thing", "sign"] ["thing"] (defScope s_is_name) := ⟨rfl, rfl, rfl, by decide +kernel, rfl, by decide +kernel, by decide +kernel⟩
theorem sc_is_letter : FnScope ["sign"] ["sign"] (defScope s_is_letter) := ⟨rfl, rfl, rfl, by decide +kernel, rfl, by decide +kernel, by decide +kernel⟩
theorem sc_tokens : FnScope ["row", "told", "column", "sort", "text"] ["row"] (defScope s_tokens) := ⟨rfl, rfl, rfl, by decide +kernel, rfl, by decide +kernel, by decide +kernel⟩
theorem sc_token_at : FnScope ["row", "column", "sign", "text"] ["row", "column"] (defScope s_token_at) := ⟨rfl, rfl, rfl, by decide +kernel, rfl, by decide +kernel, by decide +kernel⟩
theorem sc_is_figure : FnScope ["sign"] ["sign"] (defScope s_is_figure) := ⟨rfl, rfl, rfl, by decide +kernel, rfl, by decide +kernel, by decide +kernel⟩
theorem sc_run_at : FnScope ["row", "column", "belongs", "end"] ["row", "column", "belongs"] (defScope s_run_at) := ⟨rfl, rfl, rfl, by decide +kernel, rfl, by decide +kernel, by decide +kernel⟩
theorem sc_letters_sort : FnScope ["text"] ["text"] (defScope s_letters_sort) := ⟨rfl, rfl, rfl, by decide +kernel, rfl, by decide +kernel, by decide +kernel⟩
theorem sc_quoted_at : FnScope ["row", "column", "end"] ["row", "column"] (defScope s_quoted_at) := ⟨rfl, rfl, rfl, by decide +kernel, rfl, by decide +kernel, by decide +kernel⟩
theorem sc_stops : FnScope ["row"] ["row"] (defScope s_stops) := ⟨rfl, rfl, rfl, by decide +kernel, rfl, by decide +kernel, by decide +kernel⟩
theorem sc_Reader___init__ : FnScope ["self", "found"] ["self", "found"] (defScope s_Reader___init__) := ⟨rfl, rfl, rfl, by decide +kernel, rfl, by decide +kernel, by decide +kernel⟩
theorem sc_Reader_here : FnScope ["self"] ["self"] (defScope s_Reader_here) := ⟨rfl, rfl, rfl, by decide +kernel, rfl, by decide +kernel, by decide +kernel⟩
theorem sc_Reader_stands : FnScope ["self", "text"] ["self", "text"] (defScope s_Reader_stands) := ⟨rfl, rfl, rfl, by decide +kernel, rfl, by decide +kernel, by decide +kernel⟩
theorem sc_Reader_step : FnScope ["self"] ["self"] (defScope s_Reader_step) := ⟨rfl, rfl, rfl, by decide +kernel, rfl, by decide +kernel, by decide +kernel⟩
theorem sc_Reader_stop : FnScope ["self", "word", "text"] ["self", "word", "text"] (defScope s_Reader_stop) := ⟨rfl, rfl, rfl, by decide +kernel, rfl, by decide +kernel, by decide +kernel⟩
theorem sc_Reader_read_sign : FnScope ["self", "text"] ["self", "text"] (defScope s_Reader_read_sign) := ⟨rfl, rfl, rfl, by decide +kernel, rfl, by decide +kernel, by decide +kernel⟩
theorem sc_Reader_read_name : FnScope ["self"] ["self"] (defScope s_Reader_read_name) := ⟨rfl, rfl, rfl, by decide +kernel, rfl, by decide +kernel, by decide +kernel⟩
theorem sc_Reader_read_kind : FnScope ["self"] ["self"] (defScope s_Reader_read_kind) := ⟨rfl, rfl, rfl, by decide +kernel, rfl, by decide +kernel, by decide +kernel⟩
theorem sc_Reader_read_param : FnScope ["self", "name"] ["self"] (defScope s_Reader_read_param) := ⟨rfl, rfl, rfl, by decide +kernel, rfl, by decide +kernel, by decide +kernel⟩
theorem sc_Reader_read_part : FnScope ["self", "told", "number"] ["self"] (defScope s_Reader_read_part) := ⟨rfl, rfl, rfl, by decide +kernel, rfl, by decide +kernel, by decide +kernel⟩
theorem sc_Reader_read_single : FnScope ["self", "sort", "text"] ["self"] (defScope s_Reader_read_single) := ⟨rfl, rfl, rfl, by decide +kernel, rfl, by decide +kernel, by decide +kernel⟩
theorem sc_Reader_read_named : FnScope ["self", "number"] ["self"] (defScope s_Reader_read_named) := ⟨rfl, rfl, rfl, by decide +kernel, rfl, by decide +kernel, by decide +kernel⟩
theorem sc_Reader_read_parts : FnScope ["self", "end", "told"] ["self", "end"] (defScope s_Reader_read_parts) := ⟨rfl, rfl, rfl, by decide +kernel, rfl, by decide +kernel, by decide +kernel⟩
theorem sc_Reader_read_round : FnScope ["self", "number", "inner"] ["self"] (defScope s_Reader_read_round) := ⟨rfl, rfl, rfl, by decide +kernel, rfl, by decide +kernel, by decide +kernel⟩
theorem sc_Reader_read_if : FnScope ["self", "number", "asked", "first"] ["self"] (defScope s_Reader_read_if) := ⟨rfl, rfl, rfl, by decide +kernel, rfl, by decide +kernel, by decide +kernel⟩
theorem sc_read_take : FnScope ["reader"] ["reader"] (defScope s_read_take) := ⟨rfl, rfl, rfl, by decide +kernel, rfl, by decide +kernel, by decide +kernel⟩
theorem sc_read_let : FnScope ["reader", "name"] ["reader"] (defScope s_read_let) := ⟨rfl, rfl, rfl, by decide +kernel, rfl, by decide +kernel, by decide +kernel⟩
theorem sc_read_def : FnScope ["reader", "name", "params"] ["reader"] (defScope s_read_def) := ⟨rfl, rfl, rfl, by decide +kernel, rfl, by decide +kernel, by decide +kernel⟩
theorem sc_read : FnScope ["found", "read_row", "reader", "told"] ["found"] (defScope s_read) := ⟨rfl, rfl, rfl, by decide +kernel, rfl, by decide +kernel, by decide +kernel⟩
theorem sc_laid_text : FnScope ["text", "row"] ["text"] (defScope s_laid_text) := ⟨rfl, rfl, rfl, by decide +kernel, rfl, by decide +kernel, by decide +kernel⟩
theorem sc_laid : FnScope ["row", "told"] ["row"] (defScope s_laid) := ⟨rfl, rfl, rfl, by decide +kernel, rfl, by decide +kernel, by decide +kernel⟩
theorem sc_joined : FnScope ["found", "pieces", "number", "token"] ["found"] (defScope s_joined) := ⟨rfl, rfl, rfl, by decide +kernel, rfl, by decide +kernel, by decide +kernel⟩
theorem sc_apart : FnScope ["left", "right"] ["left", "right"] (defScope s_apart) := ⟨rfl, rfl, rfl, by decide +kernel, rfl, by decide +kernel, by decide +kernel⟩
theorem sc_L_begin : FnScope ["_law_script", "_law_handed"] ["_law_script"] (defScope s_L_begin) := ⟨rfl, rfl, rfl, by decide +kernel, rfl, by decide +kernel, by decide +kernel⟩
theorem sc_L_take : FnScope ["_law_state", "_law_below", "_law_turn", "_law_here", "_law_cell", "_law_digit", "_law_near", "_law_mixed"] ["_law_state", "_law_below"] (defScope s_L_take) := ⟨rfl, rfl, rfl, by decide +kernel, rfl, by decide +kernel, by decide +kernel⟩
theorem sc_L_some : FnScope ["_law_state", "_law_things"] ["_law_state", "_law_things"] (defScope s_L_some) := ⟨rfl, rfl, rfl, by decide +kernel, rfl, by decide +kernel, by decide +kernel⟩
theorem sc_L_names : FnScope ["_law_state", "_law_many", "_law_letters", "_law_begun", "_law_way", "_law_stem", "_law_some_here", "_law_k", "_law_heads", "_law_tails", "_law_found", "_law_head", "_law_tail", "_law_turn"] ["_law_state", "_law_many"] (defScope s_L_names) := ⟨rfl, rfl, rfl, by decide +kernel, rfl, by decide +kernel, by decide +kernel⟩
theorem sc_L_part_words : FnScope ["_law_state", "_law_names_here", "_law_deep", "_law_found", "_law_turn"] ["_law_state", "_law_names_here", "_law_deep"] (defScope s_L_part_words) := ⟨rfl, rfl, rfl, by decide +kernel, rfl, by decide +kernel, by decide +kernel⟩
theorem sc_L_comma_words : FnScope ["_law_state", "_law_names_here", "_law_deep", "_law_found", "_law_turn"] ["_law_state", "_law_names_here", "_law_deep"] (defScope s_L_comma_words) := ⟨rfl, rfl, rfl, by decide +kernel, rfl, by decide +kernel, by decide +kernel⟩
theorem sc_L_single_words : FnScope ["_law_state", "_law_names_here", "_law_deep", "_law_way", "_law_name", "_law_lone", "_law_found"] ["_law_state", "_law_names_here", "_law_deep"] (defScope s_L_single_words) := ⟨rfl, rfl, rfl, by decide +kernel, rfl, by decide +kernel, by decide +kernel⟩
theorem sc_L_row_words : FnScope ["_law_state", "_law_names_here", "_law_way", "_law_name", "_law_deep", "_law_found", "_law_k", "_law_kind"] ["_law_state", "_law_names_here"] (defScope s_L_row_words) := ⟨rfl, rfl, rfl, by decide +kernel, rfl, by decide +kernel, by decide +kernel⟩
theorem sc_L_tight : FnScope ["_law_state", "_law_words", "_law_way", "_law_found", "_law_word", "_law_close", "_law_gap"] ["_law_state", "_law_words"] (defScope s_L_tight) := ⟨rfl, rfl, rfl, by decide +kernel, rfl, by decide +kernel, by decide +kernel⟩
theorem sc_L_right_row : FnScope ["_law_state", "_law_names_here", "_law_row"] ["_law_state", "_law_names_here"] (defScope s_L_right_row) := ⟨rfl, rfl, rfl, by decide +kernel, rfl, by decide +kernel, by decide +kernel⟩
theorem sc_L_soup : FnScope ["_law_state", "_law_names_here", "_law_found", "_law_many", "_law_odd", "_law_turn"] ["_law_state", "_law_names_here"] (defScope s_L_soup) := ⟨rfl, rfl, rfl, by decide +kernel, rfl, by decide +kernel, by decide +kernel⟩
theorem sc_L_bent_row : FnScope ["_law_state", "_law_row", "_law_names_here", "_law_way", "_law_at", "_law_sign", "_law_words", "_law_where", "_law_made"] ["_law_state", "_law_row", "_law_names_here"] (defScope s_L_bent_row) := ⟨rfl, rfl, rfl, by decide +kernel, rfl, by decide +kernel, by decide +kernel⟩
theorem sc_L_text : FnScope ["_law_state", "_law_names_here", "_law_many", "_law_found", "_law_turn", "_law_row", "_law_others"] ["_law_state", "_law_names_here", "_law_many"] (defScope s_L_text) := ⟨rfl, rfl, rfl, by decide +kernel, rfl, by decide +kernel, by decide +kernel⟩
theorem sc_law : FnScope ["_law_script", "_law_state", "_law_told", "_law_names_here", "_law_turn", "_law_rows", "_law_text_here", "_law_due", "_law_row"] ["_law_script"] (defScope s_law) := ⟨rfl, rfl, rfl, by decide +kernel, rfl, by decide +kernel, by decide +kernel⟩
/-- what the top leaves -/
structure Facts (K : PySem.W.Frag) (mg : Str → Option Value) (w : World) : Type where
  C_Reader : Addr
  gC_Reader : mg "Reader" = some (.ref C_Reader)
  Cl_Reader : Cls K C_Reader
  NA_Reader_found : NoAttr K C_Reader "found"
  NA_Reader_at : NoAttr K C_Reader "at"
  NA_Reader_stops : NoAttr K C_Reader "stops"
  C_ROWS : Addr
  gC_ROWS : mg "ROWS" = some (.ref C_ROWS)
  f_Reader___init__ : Addr
  d_Reader___init__ : FuncData
  F_Reader___init__ : Fun K "__init__" "Reader.__init__" s_Reader___init__ f_Reader___init__ d_Reader___init__
  b_Reader___init__ : Binds K d_Reader___init__ ["self", "found"] []
  Mk_Reader : Mk K C_Reader f_Reader___init__
  f_Reader_here : Addr
  d_Reader_here : FuncData
  F_Reader_here : Fun K "here" "Reader.here" s_Reader_here f_Reader_here d_Reader_here
  b_Reader_here : Binds K d_Reader_here ["self"] []
  M_Reader_here : Meth K C_Reader "here" f_Reader_here
  f_Reader_stands : Addr
  d_Reader_stands : FuncData
  F_Reader_stands : Fun K "stands" "Reader.stands" s_Reader_stands f_Reader_stands d_Reader_stands
  b_Reader_stands : Binds K d_Reader_stands ["self", "text"] []
  M_Reader_stands : Meth K C_Reader "stands" f_Reader_stands
  f_Reader_step : Addr
  d_Reader_step : FuncData
  F_Reader_step : Fun K "step" "Reader.step" s_Reader_step f_Reader_step d_Reader_step
  b_Reader_step : Binds K d_Reader_step ["self"] []
  M_Reader_step : Meth K C_Reader "step" f_Reader_step
  f_Reader_stop : Addr
  d_Reader_stop : FuncData
  F_Reader_stop : Fun K "stop" "Reader.stop" s_Reader_stop f_Reader_stop d_Reader_stop
  b_Reader_stop : Binds K d_Reader_stop ["self", "word", "text"] []
  M_Reader_stop : Meth K C_Reader "stop" f_Reader_stop
  f_Reader_read_sign : Addr
  d_Reader_read_sign : FuncData
  F_Reader_read_sign : Fun K "read_sign" "Reader.read_sign" s_Reader_read_sign f_Reader_read_sign d_Reader_read_sign
  b_Reader_read_sign : Binds K d_Reader_read_sign ["self", "text"] []
  M_Reader_read_sign : Meth K C_Reader "read_sign" f_Reader_read_sign
  f_Reader_read_name : Addr
  d_Reader_read_name : FuncData
  F_Reader_read_name : Fun K "read_name" "Reader.read_name" s_Reader_read_name f_Reader_read_name d_Reader_read_name
  b_Reader_read_name : Binds K d_Reader_read_name ["self"] []
  M_Reader_read_name : Meth K C_Reader "read_name" f_Reader_read_name
  f_Reader_read_kind : Addr
  d_Reader_read_kind : FuncData
  F_Reader_read_kind : Fun K "read_kind" "Reader.read_kind" s_Reader_read_kind f_Reader_read_kind d_Reader_read_kind
  b_Reader_read_kind : Binds K d_Reader_read_kind ["self"] []
  M_Reader_read_kind : Meth K C_Reader "read_kind" f_Reader_read_kind
  f_Reader_read_param : Addr
  d_Reader_read_param : FuncData
  F_Reader_read_param : Fun K "read_param" "Reader.read_param" s_Reader_read_param f_Reader_read_param d_Reader_read_param
  b_Reader_read_param : Binds K d_Reader_read_param ["self"] []
  M_Reader_read_param : Meth K C_Reader "read_param" f_Reader_read_param
  f_Reader_read_part : Addr
  d_Reader_read_part : FuncData
  F_Reader_read_part : Fun K "read_part" "Reader.read_part" s_Reader_read_part f_Reader_read_part d_Reader_read_part
  b_Reader_read_part : Binds K d_Reader_read_part ["self"] []
  M_Reader_read_part : Meth K C_Reader "read_part" f_Reader_read_part
  f_Reader_read_single : Addr
  d_Reader_read_single : FuncData
  F_Reader_read_single : Fun K "read_single" "Reader.read_single" s_Reader_read_single f_Reader_read_single d_Reader_read_single
  b_Reader_read_single : Binds K d_Reader_read_single ["self"] []
  M_Reader_read_single : Meth K C_Reader "read_single" f_Reader_read_single
  f_Reader_read_named : Addr
  d_Reader_read_named : FuncData
  F_Reader_read_named : Fun K "read_named" "Reader.read_named" s_Reader_read_named f_Reader_read_named d_Reader_read_named
  b_Reader_read_named : Binds K d_Reader_read_named ["self"] []
  M_Reader_read_named : Meth K C_Reader "read_named" f_Reader_read_named
  f_Reader_read_parts : Addr
  d_Reader_read_parts : FuncData
  F_Reader_read_parts : Fun K "read_parts" "Reader.read_parts" s_Reader_read_parts f_Reader_read_parts d_Reader_read_parts
  b_Reader_read_parts : Binds K d_Reader_read_parts ["self", "end"] []
  M_Reader_read_parts : Meth K C_Reader "read_parts" f_Reader_read_parts
  f_Reader_read_round : Addr
  d_Reader_read_round : FuncData
  F_Reader_read_round : Fun K "read_round" "Reader.read_round" s_Reader_read_round f_Reader_read_round d_Reader_read_round
  b_Reader_read_round : Binds K d_Reader_read_round ["self"] []
  M_Reader_read_round : Meth K C_Reader "read_round" f_Reader_read_round
  f_Reader_read_if : Addr
  d_Reader_read_if : FuncData
  F_Reader_read_if : Fun K "read_if" "Reader.read_if" s_Reader_read_if f_Reader_read_if d_Reader_read_if
  b_Reader_read_if : Binds K d_Reader_read_if ["self"] []
  M_Reader_read_if : Meth K C_Reader "read_if" f_Reader_read_if
  f_rows_of : Addr
  d_rows_of : FuncData
  F_rows_of : Fun K "rows_of" "rows_of" s_rows_of f_rows_of d_rows_of
  g_rows_of : mg "rows_of" = some (.ref f_rows_of)
  b_rows_of : Binds K d_rows_of ["text"] []
  f_text_of : Addr
  d_text_of : FuncData
  F_text_of : Fun K "text_of" "text_of" s_text_of f_text_of d_text_of
  g_text_of : mg "text_of" = some (.ref f_text_of)
  b_text_of : Binds K d_text_of ["rows"] []
  f_is_name : Addr
  d_is_name : FuncData
  F_is_name : Fun K "is_name" "is_name" s_is_name f_is_name d_is_name
  g_is_name : mg "is_name" = some (.ref f_is_name)
  b_is_name : Binds K d_is_name ["thing"] []
  f_is_letter : Addr
  d_is_letter : FuncData
  F_is_letter : Fun K "is_letter" "is_letter" s_is_letter f_is_letter d_is_letter
  g_is_letter : mg "is_letter" = some (.ref f_is_letter)
  b_is_letter : Binds K d_is_letter ["sign"] []
  f_tokens : Addr
  d_tokens : FuncData
  F_tokens : Fun K "tokens" "tokens" s_tokens f_tokens d_tokens
  g_tokens : mg "tokens" = some (.ref f_tokens)
  b_tokens : Binds K d_tokens ["row"] []
  f_token_at : Addr
  d_token_at : FuncData
  F_token_at : Fun K "token_at" "token_at" s_token_at f_token_at d_token_at
  g_token_at : mg "token_at" = some (.ref f_token_at)
  b_token_at : Binds K d_token_at ["row", "column"] []
  f_is_figure : Addr
  d_is_figure : FuncData
  F_is_figure : Fun K "is_figure" "is_figure" s_is_figure f_is_figure d_is_figure
  g_is_figure : mg "is_figure" = some (.ref f_is_figure)
  b_is_figure : Binds K d_is_figure ["sign"] []
  f_run_at : Addr
  d_run_at : FuncData
  F_run_at : Fun K "run_at" "run_at" s_run_at f_run_at d_run_at
  g_run_at : mg "run_at" = some (.ref f_run_at)
  b_run_at : Binds K d_run_at ["row", "column", "belongs"] []
  f_letters_sort : Addr
  d_letters_sort : FuncData
  F_letters_sort : Fun K "letters_sort" "letters_sort" s_letters_sort f_letters_sort d_letters_sort
  g_letters_sort : mg "letters_sort" = some (.ref f_letters_sort)
  b_letters_sort : Binds K d_letters_sort ["text"] []
  f_quoted_at : Addr
  d_quoted_at : FuncData
  F_quoted_at : Fun K "quoted_at" "quoted_at" s_quoted_at f_quoted_at d_quoted_at
  g_quoted_at : mg "quoted_at" = some (.ref f_quoted_at)
  b_quoted_at : Binds K d_quoted_at ["row", "column"] []
  f_stops : Addr
  d_stops : FuncData
  F_stops : Fun K "stops" "stops" s_stops f_stops d_stops
  g_stops : mg "stops" = some (.ref f_stops)
  b_stops : Binds K d_stops ["row"] []
  f_read_take : Addr
  d_read_take : FuncData
  F_read_take : Fun K "read_take" "read_take" s_read_take f_read_take d_read_take
  g_read_take : mg "read_take" = some (.ref f_read_take)
  b_read_take : Binds K d_read_take ["reader"] []
  f_read_let : Addr
  d_read_let : FuncData
  F_read_let : Fun K "read_let" "read_let" s_read_let f_read_let d_read_let
  g_read_let : mg "read_let" = some (.ref f_read_let)
  b_read_let : Binds K d_read_let ["reader"] []
  f_read_def : Addr
  d_read_def : FuncData
  F_read_def : Fun K "read_def" "read_def" s_read_def f_read_def d_read_def
  g_read_def : mg "read_def" = some (.ref f_read_def)
  b_read_def : Binds K d_read_def ["reader"] []
  f_read : Addr
  d_read : FuncData
  F_read : Fun K "read" "read" s_read f_read d_read
  g_read : mg "read" = some (.ref f_read)
  b_read : Binds K d_read ["found"] []
  f_laid_text : Addr
  d_laid_text : FuncData
  F_laid_text : Fun K "laid_text" "laid_text" s_laid_text f_laid_text d_laid_text
  g_laid_text : mg "laid_text" = some (.ref f_laid_text)
  b_laid_text : Binds K d_laid_text ["text"] []
  f_laid : Addr
  d_laid : FuncData
  F_laid : Fun K "laid" "laid" s_laid f_laid d_laid
  g_laid : mg "laid" = some (.ref f_laid)
  b_laid : Binds K d_laid ["row"] []
  f_joined : Addr
  d_joined : FuncData
  F_joined : Fun K "joined" "joined" s_joined f_joined d_joined
  g_joined : mg "joined" = some (.ref f_joined)
  b_joined : Binds K d_joined ["found"] []
  f_apart : Addr
  d_apart : FuncData
  F_apart : Fun K "apart" "apart" s_apart f_apart d_apart
  g_apart : mg "apart" = some (.ref f_apart)
  b_apart : Binds K d_apart ["left", "right"] []
  f_L_begin : Addr
  d_L_begin : FuncData
  F_L_begin : Fun K "_law_begin" "_law_begin" s_L_begin f_L_begin d_L_begin
  g_L_begin : mg "_law_begin" = some (.ref f_L_begin)
  b_L_begin : Binds K d_L_begin ["_law_script"] []
  f_L_take : Addr
  d_L_take : FuncData
  F_L_take : Fun K "_law_take" "_law_take" s_L_take f_L_take d_L_take
  g_L_take : mg "_law_take" = some (.ref f_L_take)
  b_L_take : Binds K d_L_take ["_law_state", "_law_below"] []
  f_L_some : Addr
  d_L_some : FuncData
  F_L_some : Fun K "_law_some" "_law_some" s_L_some f_L_some d_L_some
  g_L_some : mg "_law_some" = some (.ref f_L_some)
  b_L_some : Binds K d_L_some ["_law_state", "_law_things"] []
  f_L_names : Addr
  d_L_names : FuncData
  F_L_names : Fun K "_law_names" "_law_names" s_L_names f_L_names d_L_names
  g_L_names : mg "_law_names" = some (.ref f_L_names)
  b_L_names : Binds K d_L_names ["_law_state", "_law_many"] []
  f_L_part_words : Addr
  d_L_part_words : FuncData
  F_L_part_words : Fun K "_law_part_words" "_law_part_words" s_L_part_words f_L_part_words d_L_part_words
  g_L_part_words : mg "_law_part_words" = some (.ref f_L_part_words)
  b_L_part_words : Binds K d_L_part_words ["_law_state", "_law_names_here", "_law_deep"] []
  f_L_comma_words : Addr
  d_L_comma_words : FuncData
  F_L_comma_words : Fun K "_law_comma_words" "_law_comma_words" s_L_comma_words f_L_comma_words d_L_comma_words
  g_L_comma_words : mg "_law_comma_words" = some (.ref f_L_comma_words)
  b_L_comma_words : Binds K d_L_comma_words ["_law_state", "_law_names_here", "_law_deep"] []
  f_L_single_words : Addr
  d_L_single_words : FuncData
  F_L_single_words : Fun K "_law_single_words" "_law_single_words" s_L_single_words f_L_single_words d_L_single_words
  g_L_single_words : mg "_law_single_words" = some (.ref f_L_single_words)
  b_L_single_words : Binds K d_L_single_words ["_law_state", "_law_names_here", "_law_deep"] []
  f_L_row_words : Addr
  d_L_row_words : FuncData
  F_L_row_words : Fun K "_law_row_words" "_law_row_words" s_L_row_words f_L_row_words d_L_row_words
  g_L_row_words : mg "_law_row_words" = some (.ref f_L_row_words)
  b_L_row_words : Binds K d_L_row_words ["_law_state", "_law_names_here"] []
  f_L_tight : Addr
  d_L_tight : FuncData
  F_L_tight : Fun K "_law_tight" "_law_tight" s_L_tight f_L_tight d_L_tight
  g_L_tight : mg "_law_tight" = some (.ref f_L_tight)
  b_L_tight : Binds K d_L_tight ["_law_state", "_law_words"] []
  f_L_right_row : Addr
  d_L_right_row : FuncData
  F_L_right_row : Fun K "_law_right_row" "_law_right_row" s_L_right_row f_L_right_row d_L_right_row
  g_L_right_row : mg "_law_right_row" = some (.ref f_L_right_row)
  b_L_right_row : Binds K d_L_right_row ["_law_state", "_law_names_here"] []
  f_L_soup : Addr
  d_L_soup : FuncData
  F_L_soup : Fun K "_law_soup" "_law_soup" s_L_soup f_L_soup d_L_soup
  g_L_soup : mg "_law_soup" = some (.ref f_L_soup)
  b_L_soup : Binds K d_L_soup ["_law_state", "_law_names_here"] []
  f_L_bent_row : Addr
  d_L_bent_row : FuncData
  F_L_bent_row : Fun K "_law_bent_row" "_law_bent_row" s_L_bent_row f_L_bent_row d_L_bent_row
  g_L_bent_row : mg "_law_bent_row" = some (.ref f_L_bent_row)
  b_L_bent_row : Binds K d_L_bent_row ["_law_state", "_law_row", "_law_names_here"] []
  f_L_text : Addr
  d_L_text : FuncData
  F_L_text : Fun K "_law_text" "_law_text" s_L_text f_L_text d_L_text
  g_L_text : mg "_law_text" = some (.ref f_L_text)
  b_L_text : Binds K d_L_text ["_law_state", "_law_names_here", "_law_many"] []
  f_law : Addr
  d_law : FuncData
  F_law : Fun K "law" "law" s_law f_law d_law
  g_law : mg "law" = some (.ref f_law)
  b_law : Binds K d_law ["_law_script"] []
  C_HELD : Addr
  gC_HELD : mg "HELD" = some (.ref C_HELD)
  S_HELD : StrTup K C_HELD ["take", "let", "def", "if", "then", "else", "yes", "no", "at", "num", "word", "flag", "nums", "words", "flags"]
  C_LONE_SIGNS : Addr
  gC_LONE_SIGNS : mg "LONE_SIGNS" = some (.ref C_LONE_SIGNS)
  S_LONE_SIGNS : StrTup K C_LONE_SIGNS ["(", ")", "[", "]", ",", "=", "+", "-", "*", "&", "<"]
  C_KINDS : Addr
  gC_KINDS : mg "KINDS" = some (.ref C_KINDS)
  S_KINDS : StrTup K C_KINDS ["num", "word", "flag", "nums", "words", "flags"]
  C_OPERATORS : Addr
  gC_OPERATORS : mg "OPERATORS" = some (.ref C_OPERATORS)
  S_OPERATORS : StrTup K C_OPERATORS ["+", "-", "*", "&", "=", "<", "at"]
  C_FLAGS : Addr
  gC_FLAGS : mg "FLAGS" = some (.ref C_FLAGS)
  S_FLAGS : StrTup K C_FLAGS ["yes", "no"]
  D_ROWS : KTab K w C_ROWS [("take", .ref f_read_take), ("let", .ref f_read_let), ("def", .ref f_read_def)]
  n_all : mg "all" = none
  n_len : mg "len" = none
  n_isinstance : mg "isinstance" = none
  n_str : mg "str" = none
  n_tuple : mg "tuple" = none
  n_enumerate : mg "enumerate" = none
  n_list : mg "list" = none
  n_divmod : mg "divmod" = none
  n_range : mg "range" = none
  n_int : mg "int" = none
  c_MOST_LETTERS : ∃ t, mg "MOST_LETTERS" = some (.int 8 t)
  c_QUOTE : ∃ t, mg "QUOTE" = some (.str "\"" t)
  c_MOST_FIGURES : ∃ t, mg "MOST_FIGURES" = some (.int 6 t)
  c_MOST_SIGNS : ∃ t, mg "MOST_SIGNS" = some (.int 60 t)
structure HasDef (K : PySem.W.Frag) (x : Str) (st : Stmt) (f : Addr) (fd : FuncData) : Prop where
  at_ : PySem.W.nsIn K mainGlobals x = some (some (.ref f))
  fn : Fun K x x st f fd
theorem hasDef_mk {K : PySem.W.Frag} {x : Str} {st : Stmt} {f : Addr} {oc : Value} {od an : Option Addr} {osl : Array (Option Value)} {kV doc pm cdv ct : Value} (a : PySem.W.nsIn K mainGlobals x = some (some (.ref f)))
    (l : K.lookup f = some ⟨oc, od, .func (PySem.W.fnOf x x (defArgs st) (defBody st) (defScope st) .none kV doc pm an cdv ct), osl⟩) (c : PySem.W.codeIn K cdv x = true) (k : PySem.W.keepIn K (.ref f) = true) :
    HasDef K x st f (PySem.W.fnOf x x (defArgs st) (defBody st) (defScope st) .none kV doc pm an cdv ct) := ⟨a, fun_mk l c k⟩
structure HasMeth (K : PySem.W.Frag) (C : Addr) (x q : Str) (st : Stmt) (f : Addr) (fd : FuncData) : Prop where
  M : Meth K C x f
  fn : Fun K x q st f fd
theorem hasMeth_mk {K : PySem.W.Frag} {C : Addr} {x q : Str} {st : Stmt} {f : Addr} {oc : Value} {od an : Option Addr} {osl : Array (Option Value)} {kV doc pm cdv ct : Value} (a : PySem.W.findIn K (.ref C) x = some (some (.ref f))) (i : PySem.W.isFn K (.ref f) = true)
    (l : K.lookup f = some ⟨oc, od, .func (PySem.W.fnOf x q (defArgs st) (defBody st) (defScope st) .none kV doc pm an cdv ct), osl⟩) (c : PySem.W.codeIn K cdv q = true) (k : PySem.W.keepIn K (.ref f) = true) :
    HasMeth K C x q st f (PySem.W.fnOf x q (defArgs st) (defBody st) (defScope st) .none kV doc pm an cdv ct) := ⟨⟨a, i, k⟩, fun_mk l c k⟩
theorem bd_rows_of {K : PySem.W.Frag} {f : Addr} {fd : FuncData} (F : Fun K "rows_of" "rows_of" s_rows_of f fd) : Binds K fd ["text"] [] := F.binds fun _ _ _ _ _ _ us hl => match us, hl with | [_], _ => rfl
theorem bd_text_of {K : PySem.W.Frag} {f : Addr} {fd : FuncData} (F : Fun K "text_of" "text_of" s_text_of f fd) : Binds K fd ["rows"] [] := F.binds fun _ _ _ _ _ _ us hl => match us, hl with | [_], _ => rfl
theorem bd_is_name {K : PySem.W.Frag} {f : Addr} {fd : FuncData} (F : Fun K "is_name" "is_name" s_is_name f fd) : Binds K fd ["thing"] [] := F.binds fun _ _ _ _ _ _ us hl => match us, hl with | [_], _ => rfl
theorem bd_is_letter {K : PySem.W.Frag} {f : Addr} {fd : FuncData} (F : Fun K "is_letter" "is_letter" s_is_letter f fd) : Binds K fd ["sign"] [] := F.binds fun _ _ _ _ _ _ us hl => match us, hl with | [_], _ => rfl
theorem bd_tokens {K : PySem.W.Frag} {f : Addr} {fd : FuncData} (F : Fun K "tokens" "tokens" s_tokens f fd) : Binds K fd ["row"] [] := F.binds fun _ _ _ _ _ _ us hl => match us, hl with | [_], _ => rfl
theorem bd_token_at {K : PySem.W.Frag} {f : Addr} {fd : FuncData} (F : Fun K "token_at" "token_at" s_token_at f fd) : Binds K fd ["row", "column"] [] := F.binds fun _ _ _ _ _ _ us hl => match us, hl with | [_, _], _ => rfl
theorem bd_is_figure {K : PySem.W.Frag} {f : Addr} {fd : FuncData} (F : Fun K "is_figure" "is_figure" s_is_figure f fd) : Binds K fd ["sign"] [] := F.binds fun _ _ _ _ _ _ us hl => match us, hl with | [_], _ => rfl
theorem bd_run_at {K : PySem.W.Frag} {f : Addr} {fd : FuncData} (F : Fun K "run_at" "run_at" s_run_at f fd) : Binds K fd ["row", "column", "belongs"] [] := F.binds fun _ _ _ _ _ _ us hl => match us, hl with | [_, _, _], _ => rfl
theorem bd_letters_sort {K : PySem.W.Frag} {f : Addr} {fd : FuncData} (F : Fun K "letters_sort" "letters_sort" s_letters_sort f fd) : Binds K fd ["text"] [] := F.binds fun _ _ _ _ _ _ us hl => match us, hl with | [_], _ => rfl
theorem bd_quoted_at {K : PySem.W.Frag} {f : Addr} {fd : FuncData} (F : Fun K "quoted_at" "quoted_at" s_quoted_at f fd) : Binds K fd ["row", "column"] [] := F.binds fun _ _ _ _ _ _ us hl => match us, hl with | [_, _], _ => rfl
theorem bd_stops {K : PySem.W.Frag} {f : Addr} {fd : FuncData} (F : Fun K "stops" "stops" s_stops f fd) : Binds K fd ["row"] [] := F.binds fun _ _ _ _ _ _ us hl => match us, hl with | [_], _ => rfl
theorem bd_Reader___init__ {K : PySem.W.Frag} {f : Addr} {fd : FuncData} (F : Fun K "__init__" "Reader.__init__" s_Reader___init__ f fd) : Binds K fd ["self", "found"] [] := F.binds fun _ _ _ _ _ _ us hl => match us, hl with | [_, _], _ => rfl
theorem bd_Reader_here {K : PySem.W.Frag} {f : Addr} {fd : FuncData} (F : Fun K "here" "Reader.here" s_Reader_here f fd) : Binds K fd ["self"] [] := F.binds fun _ _ _ _ _ _ us hl => match us, hl with | [_], _ => rfl
theorem bd_Reader_stands {K : PySem.W.Frag} {f : Addr} {fd : FuncData} (F : Fun K "stands" "Reader.stands" s_Reader_stands f fd) : Binds K fd ["self", "text"] [] := F.binds fun _ _ _ _ _ _ us hl => match us, hl with | [_, _], _ => rfl
theorem bd_Reader_step {K : PySem.W.Frag} {f : Addr} {fd : FuncData} (F : Fun K "step" "Reader.step" s_Reader_step f fd) : Binds K fd ["self"] [] := F.binds fun _ _ _ _ _ _ us hl => match us, hl with | [_], _ => rfl
theorem bd_Reader_stop {K : PySem.W.Frag} {f : Addr} {fd : FuncData} (F : Fun K "stop" "Reader.stop" s_Reader_stop f fd) : Binds K fd ["self", "word", "text"] [] := F.binds fun _ _ _ _ _ _ us hl => match us, hl with | [_, _, _], _ => rfl
theorem bd_Reader_read_sign {K : PySem.W.Frag} {f : Addr} {fd : FuncData} (F : Fun K "read_sign" "Reader.read_sign" s_Reader_read_sign f fd) : Binds K fd ["self", "text"] [] := F.binds fun _ _ _ _ _ _ us hl => match us, hl with | [_, _], _ => rfl
theorem bd_Reader_read_name {K : PySem.W.Frag} {f : Addr} {fd : FuncData} (F : Fun K "read_name" "Reader.read_name" s_Reader_read_name f fd) : Binds K fd ["self"] [] := F.binds fun _ _ _ _ _ _ us hl => match us, hl with | [_], _ => rfl
theorem bd_Reader_read_kind {K : PySem.W.Frag} {f : Addr} {fd : FuncData} (F : Fun K "read_kind" "Reader.read_kind" s_Reader_read_kind f fd) : Binds K fd ["self"] [] := F.binds fun _ _ _ _ _ _ us hl => match us, hl with | [_], _ => rfl
theorem bd_Reader_read_param {K : PySem.W.Frag} {f : Addr} {fd : FuncData} (F : Fun K "read_param" "Reader.read_param" s_Reader_read_param f fd) : Binds K fd ["self"] [] := F.binds fun _ _ _ _ _ _ us hl => match us, hl with | [_], _ => rfl
theorem bd_Reader_read_part {K : PySem.W.Frag} {f : Addr} {fd : FuncData} (F : Fun K "read_part" "Reader.read_part" s_Reader_read_part f fd) : Binds K fd ["self"] [] := F.binds fun _ _ _ _ _ _ us hl => match us, hl with | [_], _ => rfl
theorem bd_Reader_read_single {K : PySem.W.Frag} {f : Addr} {fd : FuncData} (F : Fun K "read_single" "Reader.read_single" s_Reader_read_single f fd) : Binds K fd ["self"] [] := F.binds fun _ _ _ _ _ _ us hl => match us, hl with | [_], _ => rfl
theorem bd_Reader_read_named {K : PySem.W.Frag} {f : Addr} {fd : FuncData} (F : Fun K "read_named" "Reader.read_named" s_Reader_read_named f fd) : Binds K fd ["self"] [] := F.binds fun _ _ _ _ _ _ us hl => match us, hl with | [_], _ => rfl
theorem bd_Reader_read_parts {K : PySem.W.Frag} {f : Addr} {fd : FuncData} (F : Fun K "read_parts" "Reader.read_parts" s_Reader_read_parts f fd) : Binds K fd ["self", "end"] [] := F.binds fun _ _ _ _ _ _ us hl => match us, hl with | [_, _], _ => rfl
theorem bd_Reader_read_round {K : PySem.W.Frag} {f : Addr} {fd : FuncData} (F : Fun K "read_round" "Reader.read_round" s_Reader_read_round f fd) : Binds K fd ["self"] [] := F.binds fun _ _ _ _ _ _ us hl => match us, hl with | [_], _ => rfl
theorem bd_Reader_read_if {K : PySem.W.Frag} {f : Addr} {fd : FuncData} (F : Fun K "read_if" "Reader.read_if" s_Reader_read_if f fd) : Binds K fd ["self"] [] := F.binds fun _ _ _ _ _ _ us hl => match us, hl with | [_], _ => rfl
theorem bd_read_take {K : PySem.W.Frag} {f : Addr} {fd : FuncData} (F : Fun K "read_take" "read_take" s_read_take f fd) : Binds K fd ["reader"] [] := F.binds fun _ _ _ _ _ _ us hl => match us, hl with | [_], _ => rfl
theorem bd_read_let {K : PySem.W.Frag} {f : Addr} {fd : FuncData} (F : Fun K "read_let" "read_let" s_read_let f fd) : Binds K fd ["reader"] [] := F.binds fun _ _ _ _ _ _ us hl => match us, hl with | [_], _ => rfl
theorem bd_read_def {K : PySem.W.Frag} {f : Addr} {fd : FuncData} (F : Fun K "read_def" "read_def" s_read_def f fd) : Binds K fd ["reader"] [] := F.binds fun _ _ _ _ _ _ us hl => match us, hl with | [_], _ => rfl
theorem bd_read {K : PySem.W.Frag} {f : Addr} {fd : FuncData} (F : Fun K "read" "read" s_read f fd) : Binds K fd ["found"] [] := F.binds fun _ _ _ _ _ _ us hl => match us, hl with | [_], _ => rfl
theorem bd_laid_text {K : PySem.W.Frag} {f : Addr} {fd : FuncData} (F : Fun K "laid_text" "laid_text" s_laid_text f fd) : Binds K fd ["text"] [] := F.binds fun _ _ _ _ _ _ us hl => match us, hl with | [_], _ => rfl
theorem bd_laid {K : PySem.W.Frag} {f : Addr} {fd : FuncData} (F : Fun K "laid" "laid" s_laid f fd) : Binds K fd ["row"] [] := F.binds fun _ _ _ _ _ _ us hl => match us, hl with | [_], _ => rfl
theorem bd_joined {K : PySem.W.Frag} {f : Addr} {fd : FuncData} (F : Fun K "joined" "joined" s_joined f fd) : Binds K fd ["found"] [] := F.binds fun _ _ _ _ _ _ us hl => match us, hl with | [_], _ => rfl
theorem bd_apart {K : PySem.W.Frag} {f : Addr} {fd : FuncData} (F : Fun K "apart" "apart" s_apart f fd) : Binds K fd ["left", "right"] [] := F.binds fun _ _ _ _ _ _ us hl => match us, hl with | [_, _], _ => rfl
theorem bd_L_begin {K : PySem.W.Frag} {f : Addr} {fd : FuncData} (F : Fun K "_law_begin" "_law_begin" s_L_begin f fd) : Binds K fd ["_law_script"] [] := F.binds fun _ _ _ _ _ _ us hl => match us, hl with | [_], _ => rfl
theorem bd_L_take {K : PySem.W.Frag} {f : Addr} {fd : FuncData} (F : Fun K "_law_take" "_law_take" s_L_take f fd) : Binds K fd ["_law_state", "_law_below"] [] := F.binds fun _ _ _ _ _ _ us hl => match us, hl with | [_, _], _ => rfl
theorem bd_L_some {K : PySem.W.Frag} {f : Addr} {fd : FuncData} (F : Fun K "_law_some" "_law_some" s_L_some f fd) : Binds K fd ["_law_state", "_law_things"] [] := F.binds fun _ _ _ _ _ _ us hl => match us, hl with | [_, _], _ => rfl
theorem bd_L_names {K : PySem.W.Frag} {f : Addr} {fd : FuncData} (F : Fun K "_law_names" "_law_names" s_L_names f fd) : Binds K fd ["_law_state", "_law_many"] [] := F.binds fun _ _ _ _ _ _ us hl => match us, hl with | [_, _], _ => rfl
theorem bd_L_part_words {K : PySem.W.Frag} {f : Addr} {fd : FuncData} (F : Fun K "_law_part_words" "_law_part_words" s_L_part_words f fd) : Binds K fd ["_law_state", "_law_names_here", "_law_deep"] [] := F.binds fun _ _ _ _ _ _ us hl => match us, hl with | [_, _, _], _ => rfl
theorem bd_L_comma_words {K : PySem.W.Frag} {f : Addr} {fd : FuncData} (F : Fun K "_law_comma_words" "_law_comma_words" s_L_comma_words f fd) : Binds K fd ["_law_state", "_law_names_here", "_law_deep"] [] := F.binds fun _ _ _ _ _ _ us hl => match us, hl with | [_, _, _], _ => rfl
theorem bd_L_single_words {K : PySem.W.Frag} {f : Addr} {fd : FuncData} (F : Fun K "_law_single_words" "_law_single_words" s_L_single_words f fd) : Binds K fd ["_law_state", "_law_names_here", "_law_deep"] [] := F.binds fun _ _ _ _ _ _ us hl => match us, hl with | [_, _, _], _ => rfl
theorem bd_L_row_words {K : PySem.W.Frag} {f : Addr} {fd : FuncData} (F : Fun K "_law_row_words" "_law_row_words" s_L_row_words f fd) : Binds K fd ["_law_state", "_law_names_here"] [] := F.binds fun _ _ _ _ _ _ us hl => match us, hl with | [_, _], _ => rfl
theorem bd_L_tight {K : PySem.W.Frag} {f : Addr} {fd : FuncData} (F : Fun K "_law_tight" "_law_tight" s_L_tight f fd) : Binds K fd ["_law_state", "_law_words"] [] := F.binds fun _ _ _ _ _ _ us hl => match us, hl with | [_, _], _ => rfl
theorem bd_L_right_row {K : PySem.W.Frag} {f : Addr} {fd : FuncData} (F : Fun K "_law_right_row" "_law_right_row" s_L_right_row f fd) : Binds K fd ["_law_state", "_law_names_here"] [] := F.binds fun _ _ _ _ _ _ us hl => match us, hl with | [_, _], _ => rfl
theorem bd_L_soup {K : PySem.W.Frag} {f : Addr} {fd : FuncData} (F : Fun K "_law_soup" "_law_soup" s_L_soup f fd) : Binds K fd ["_law_state", "_law_names_here"] [] := F.binds fun _ _ _ _ _ _ us hl => match us, hl with | [_, _], _ => rfl
theorem bd_L_bent_row {K : PySem.W.Frag} {f : Addr} {fd : FuncData} (F : Fun K "_law_bent_row" "_law_bent_row" s_L_bent_row f fd) : Binds K fd ["_law_state", "_law_row", "_law_names_here"] [] := F.binds fun _ _ _ _ _ _ us hl => match us, hl with | [_, _, _], _ => rfl
theorem bd_L_text {K : PySem.W.Frag} {f : Addr} {fd : FuncData} (F : Fun K "_law_text" "_law_text" s_L_text f fd) : Binds K fd ["_law_state", "_law_names_here", "_law_many"] [] := F.binds fun _ _ _ _ _ _ us hl => match us, hl with | [_, _, _], _ => rfl
theorem bd_law {K : PySem.W.Frag} {f : Addr} {fd : FuncData} (F : Fun K "law" "law" s_law f fd) : Binds K fd ["_law_script"] [] := F.binds fun _ _ _ _ _ _ us hl => match us, hl with | [_], _ => rfl
def txt_mk {K : PySem.W.Frag} {h : Heap} {mg : Str → Option Value} {w : World} (X : K.In h) (G : h.Ns mainGlobals mg)
    {C_Reader : Addr} (z_Reader : PySem.W.nsIn K mainGlobals "Reader" = some (some (.ref C_Reader))) (p1_Reader : PySem.W.plainGet K C_Reader Str.empty = true) (p2_Reader : PySem.W.hasDictIn K C_Reader = true) (p3_Reader : PySem.W.plainOver K C_Reader = true) (p4_Reader : PySem.W.findIn K (.ref C_Reader) "__setattr__" = some (some (.builtin "object.__setattr__"))) (p5_Reader : PySem.W.makesIn K C_Reader = true) (p6_Reader : PySem.W.keepIn K (.ref C_Reader) = true) (na_Reader_found : PySem.W.findIn K (.ref C_Reader) "found" = some none) (na_Reader_at : PySem.W.findIn K (.ref C_Reader) "at" = some none) (na_Reader_stops : PySem.W.findIn K (.ref C_Reader) "stops" = some none) {f_Reader___init__ : Addr} {d_Reader___init__ : FuncData} (h_Reader___init__ : HasMeth K C_Reader "__init__" "Reader.__init__" s_Reader___init__ f_Reader___init__ d_Reader___init__) {f_Reader_here : Addr} {d_Reader_here : FuncData} (h_Reader_here : HasMeth K C_Reader "here" "Reader.here" s_Reader_here f_Reader_here d_Reader_here) {f_Reader_stands : Addr} {d_Reader_stands : FuncData} (h_Reader_stands : HasMeth K C_Reader "stands" "Reader.stands" s_Reader_stands f_Reader_stands d_Reader_stands) {f_Reader_step : Addr} {d_Reader_step : FuncData} (h_Reader_step : HasMeth K C_Reader "step" "Reader.step" s_Reader_step f_Reader_step d_Reader_step) {f_Reader_stop : Addr} {d_Reader_stop : FuncData} (h_Reader_stop : HasMeth K C_Reader "stop" "Reader.stop" s_Reader_stop f_Reader_stop d_Reader_stop) {f_Reader_read_sign : Addr} {d_Reader_read_sign : FuncData} (h_Reader_read_sign : HasMeth K C_Reader "read_sign" "Reader.read_sign" s_Reader_read_sign f_Reader_read_sign d_Reader_read_sign) {f_Reader_read_name : Addr} {d_Reader_read_name : FuncData} (h_Reader_read_name : HasMeth K C_Reader "read_name" "Reader.read_name" s_Reader_read_name f_Reader_read_name d_Reader_read_name) {f_Reader_read_kind : Addr} {d_Reader_read_kind : FuncData} (h_Reader_read_kind : HasMeth K C_Reader "read_kind" "Reader.read_kind" s_Reader_read_kind f_Reader_read_kind d_Reader_read_kind) {f_Reader_read_param : Addr} {d_Reader_read_param : FuncData} (h_Reader_read_param : HasMeth K C_Reader "read_param" "Reader.read_param" s_Reader_read_param f_Reader_read_param d_Reader_read_param) {f_Reader_read_part : Addr} {d_Reader_read_part : FuncData} (h_Reader_read_part : HasMeth K C_Reader "read_part" "Reader.read_part" s_Reader_read_part f_Reader_read_part d_Reader_read_part) {f_Reader_read_single : Addr} {d_Reader_read_single : FuncData} (h_Reader_read_single : HasMeth K C_Reader "read_single" "Reader.read_single" s_Reader_read_single f_Reader_read_single d_Reader_read_single) {f_Reader_read_named : Addr} {d_Reader_read_named : FuncData} (h_Reader_read_named : HasMeth K C_Reader "read_named" "Reader.read_named" s_Reader_read_named f_Reader_read_named d_Reader_read_named) {f_Reader_read_parts : Addr} {d_Reader_read_parts : FuncData} (h_Reader_read_parts : HasMeth K C_Reader "read_parts" "Reader.read_parts" s_Reader_read_parts f_Reader_read_parts d_Reader_read_parts) {f_Reader_read_round : Addr} {d_Reader_read_round : FuncData} (h_Reader_read_round : HasMeth K C_Reader "read_round" "Reader.read_round" s_Reader_read_round f_Reader_read_round d_Reader_read_round) {f_Reader_read_if : Addr} {d_Reader_read_if : FuncData} (h_Reader_read_if : HasMeth K C_Reader "read_if" "Reader.read_if" s_Reader_read_if f_Reader_read_if d_Reader_read_if) {f_rows_of : Addr} {d_rows_of : FuncData} (h_rows_of : HasDef K "rows_of" s_rows_of f_rows_of d_rows_of) {f_text_of : Addr} {d_text_of : FuncData} (h_text_of : HasDef K "text_of" s_text_of f_text_of d_text_of) {f_is_name : Addr} {d_is_name : FuncData} (h_is_name : HasDef K "is_name" s_is_name f_is_name d_is_name) {f_is_letter : Addr} {d_is_letter : FuncData} (h_is_letter : HasDef K "is_letter" s_is_letter f_is_letter d_is_letter) {f_tokens : Addr} {d_tokens : FuncData} (h_tokens : HasDef K "tokens" s_tokens f_tokens d_tokens) {f_token_at : Addr} {d_token_at : FuncData} (h_token_at : HasDef K "token_at" s_token_at f_token_at d_token_at) {f_is_figure : Addr} {d_is_figure : FuncData} (h_is_figure : HasDef K "is_figure" s_is_figure f_is_figure d_is_figure) {f_run_at : Addr} {d_run_at : FuncData} (h_run_at : HasDef K "run_at" s_run_at f_run_at d_run_at) {f_letters_sort : Addr} {d_letters_sort : FuncData} (h_letters_sort : HasDef K "letters_sort" s_letters_sort f_letters_sort d_letters_sort) {f_quoted_at : Addr} {d_quoted_at : FuncData} (h_quoted_at : HasDef K "quoted_at" s_quoted_at f_quoted_at d_quoted_at) {f_stops : Addr} {d_stops : FuncData} (h_stops : HasDef K "stops" s_stops f_stops d_stops) {f_read_take : Addr} {d_read_take : FuncData} (h_read_take : HasDef K "read_take" s_read_take f_read_take d_read_take) {f_read_let : Addr} {d_read_let : FuncData} (h_read_let : HasDef K "read_let" s_read_let f_read_let d_read_let) {f_read_def : Addr} {d_read_def : FuncData} (h_read_def : HasDef K "read_def" s_read_def f_read_def d_read_def) {f_read : Addr} {d_read : FuncData} (h_read : HasDef K "read" s_read f_read d_read) {f_laid_text : Addr} {d_laid_text : FuncData} (h_laid_text : HasDef K "laid_text" s_laid_text f_laid_text d_laid_text) {f_laid : Addr} {d_laid : FuncData} (h_laid : HasDef K "laid" s_laid f_laid d_laid) {f_joined : Addr} {d_joined : FuncData} (h_joined : HasDef K "joined" s_joined f_joined d_joined) {f_apart : Addr} {d_apart : FuncData} (h_apart : HasDef K "apart" s_apart f_apart d_apart) {f_L_begin : Addr} {d_L_begin : FuncData} (h_L_begin : HasDef K "_law_begin" s_L_begin f_L_begin d_L_begin) {f_L_take : Addr} {d_L_take : FuncData} (h_L_take : HasDef K "_law_take" s_L_take f_L_take d_L_take) {f_L_some : Addr} {d_L_some : FuncData} (h_L_some : HasDef K "_law_some" s_L_some f_L_some d_L_some) {f_L_names : Addr} {d_L_names : FuncData} (h_L_names : HasDef K "_law_names" s_L_names f_L_names d_L_names) {f_L_part_words : Addr} {d_L_part_words : FuncData} (h_L_part_words : HasDef K "_law_part_words" s_L_part_words f_L_part_words d_L_part_words) {f_L_comma_words : Addr} {d_L_comma_words : FuncData} (h_L_comma_words : HasDef K "_law_comma_words" s_L_comma_words f_L_comma_words d_L_comma_words) {f_L_single_words : Addr} {d_L_single_words : FuncData} (h_L_single_words : HasDef K "_law_single_words" s_L_single_words f_L_single_words d_L_single_words) {f_L_row_words : Addr} {d_L_row_words : FuncData} (h_L_row_words : HasDef K "_law_row_words" s_L_row_words f_L_row_words d_L_row_words) {f_L_tight : Addr} {d_L_tight : FuncData} (h_L_tight : HasDef K "_law_tight" s_L_tight f_L_tight d_L_tight) {f_L_right_row : Addr} {d_L_right_row : FuncData} (h_L_right_row : HasDef K "_law_right_row" s_L_right_row f_L_right_row d_L_right_row) {f_L_soup : Addr} {d_L_soup : FuncData} (h_L_soup : HasDef K "_law_soup" s_L_soup f_L_soup d_L_soup) {f_L_bent_row : Addr} {d_L_bent_row : FuncData} (h_L_bent_row : HasDef K "_law_bent_row" s_L_bent_row f_L_bent_row d_L_bent_row) {f_L_text : Addr} {d_L_text : FuncData} (h_L_text : HasDef K "_law_text" s_L_text f_L_text d_L_text) {f_law : Addr} {d_law : FuncData} (h_law : HasDef K "law" s_law f_law d_law)  {C_ROWS : Addr} (z_ROWS : PySem.W.nsIn K mainGlobals "ROWS" = some (some (.ref C_ROWS))) (y_ROWS : KTab K w C_ROWS [("take", .ref f_read_take), ("let", .ref f_read_let), ("def", .ref f_read_def)]) {C_HELD : Addr} (z_HELD : PySem.W.nsIn K mainGlobals "HELD" = some (some (.ref C_HELD))) (y_HELD : StrTup K C_HELD ["take", "let", "def", "if", "then", "else", "yes", "no", "at", "num", "word", "flag", "nums", "words", "flags"]) {C_LONE_SIGNS : Addr} (z_LONE_SIGNS : PySem.W.nsIn K mainGlobals "LONE_SIGNS" = some (some (.ref C_LONE_SIGNS))) (y_LONE_SIGNS : StrTup K C_LONE_SIGNS ["(", ")", "[", "]", ",", "=", "+", "-", "*", "&", "<"]) {C_KINDS : Addr} (z_KINDS : PySem.W.nsIn K mainGlobals "KINDS" = some (some (.ref C_KINDS))) (y_KINDS : StrTup K C_KINDS ["num", "word", "flag", "nums", "words", "flags"]) {C_OPERATORS : Addr} (z_OPERATORS : PySem.W.nsIn K mainGlobals "OPERATORS" = some (some (.ref C_OPERATORS))) (y_OPERATORS : StrTup K C_OPERATORS ["+", "-", "*", "&", "=", "<", "at"]) {C_FLAGS : Addr} (z_FLAGS : PySem.W.nsIn K mainGlobals "FLAGS" = some (some (.ref C_FLAGS))) (y_FLAGS : StrTup K C_FLAGS ["yes", "no"])   
    (z_all : PySem.W.nsIn K mainGlobals "all" = some none) (z_len : PySem.W.nsIn K mainGlobals "len" = some none) (z_isinstance : PySem.W.nsIn K mainGlobals "isinstance" = some none) (z_str : PySem.W.nsIn K mainGlobals "str" = some none) (z_tuple : PySem.W.nsIn K mainGlobals "tuple" = some none) (z_enumerate : PySem.W.nsIn K mainGlobals "enumerate" = some none) (z_list : PySem.W.nsIn K mainGlobals "list" = some none) (z_divmod : PySem.W.nsIn K mainGlobals "divmod" = some none) (z_range : PySem.W.nsIn K mainGlobals "range" = some none) (z_int : PySem.W.nsIn K mainGlobals "int" = some none)
    {t_MOST_LETTERS : Tok} (z_MOST_LETTERS : PySem.W.nsIn K mainGlobals "MOST_LETTERS" = some (some (.int 8 t_MOST_LETTERS))) {t_QUOTE : Tok} (z_QUOTE : PySem.W.nsIn K mainGlobals "QUOTE" = some (some (.str "\"" t_QUOTE))) {t_MOST_FIGURES : Tok} (z_MOST_FIGURES : PySem.W.nsIn K mainGlobals "MOST_FIGURES" = some (some (.int 6 t_MOST_FIGURES))) {t_MOST_SIGNS : Tok} (z_MOST_SIGNS : PySem.W.nsIn K mainGlobals "MOST_SIGNS" = some (some (.int 60 t_MOST_SIGNS))) : Facts K mg w where
  C_Reader := C_Reader
  gC_Reader := PySem.W.mg_of X G z_Reader
  Cl_Reader := ⟨p1_Reader, p2_Reader, p3_Reader, p4_Reader⟩
  NA_Reader_found := na_Reader_found
  NA_Reader_at := na_Reader_at
  NA_Reader_stops := na_Reader_stops
  C_ROWS := C_ROWS
  gC_ROWS := PySem.W.mg_of X G z_ROWS
  D_ROWS := y_ROWS
  f_Reader___init__ := f_Reader___init__
  d_Reader___init__ := d_Reader___init__
  F_Reader___init__ := h_Reader___init__.fn
  b_Reader___init__ := bd_Reader___init__ h_Reader___init__.fn
  Mk_Reader := ⟨p5_Reader, h_Reader___init__.M.at_, h_Reader___init__.M.fn, p6_Reader⟩
  f_Reader_here := f_Reader_here
  d_Reader_here := d_Reader_here
  F_Reader_here := h_Reader_here.fn
  b_Reader_here := bd_Reader_here h_Reader_here.fn
  M_Reader_here := h_Reader_here.M
  f_Reader_stands := f_Reader_stands
  d_Reader_stands := d_Reader_stands
  F_Reader_stands := h_Reader_stands.fn
  b_Reader_stands := bd_Reader_stands h_Reader_stands.fn
  M_Reader_stands := h_Reader_stands.M
  f_Reader_step := f_Reader_step
  d_Reader_step := d_Reader_step
  F_Reader_step := h_Reader_step.fn
  b_Reader_step := bd_Reader_step h_Reader_step.fn
  M_Reader_step := h_Reader_step.M
  f_Reader_stop := f_Reader_stop
  d_Reader_stop := d_Reader_stop
  F_Reader_stop := h_Reader_stop.fn
  b_Reader_stop := bd_Reader_stop h_Reader_stop.fn
  M_Reader_stop := h_Reader_stop.M
  f_Reader_read_sign := f_Reader_read_sign
  d_Reader_read_sign := d_Reader_read_sign
  F_Reader_read_sign := h_Reader_read_sign.fn
  b_Reader_read_sign := bd_Reader_read_sign h_Reader_read_sign.fn
  M_Reader_read_sign := h_Reader_read_sign.M
  f_Reader_read_name := f_Reader_read_name
  d_Reader_read_name := d_Reader_read_name
  F_Reader_read_name := h_Reader_read_name.fn
  b_Reader_read_name := bd_Reader_read_name h_Reader_read_name.fn
  M_Reader_read_name := h_Reader_read_name.M
  f_Reader_read_kind := f_Reader_read_kind
  d_Reader_read_kind := d_Reader_read_kind
  F_Reader_read_kind := h_Reader_read_kind.fn
  b_Reader_read_kind := bd_Reader_read_kind h_Reader_read_kind.fn
  M_Reader_read_kind := h_Reader_read_kind.M
  f_Reader_read_param := f_Reader_read_param
  d_Reader_read_param := d_Reader_read_param
  F_Reader_read_param := h_Reader_read_param.fn
  b_Reader_read_param := bd_Reader_read_param h_Reader_read_param.fn
  M_Reader_read_param := h_Reader_read_param.M
  f_Reader_read_part := f_Reader_read_part
  d_Reader_read_part := d_Reader_read_part
  F_Reader_read_part := h_Reader_read_part.fn
  b_Reader_read_part := bd_Reader_read_part h_Reader_read_part.fn
  M_Reader_read_part := h_Reader_read_part.M
  f_Reader_read_single := f_Reader_read_single
  d_Reader_read_single := d_Reader_read_single
  F_Reader_read_single := h_Reader_read_single.fn
  b_Reader_read_single := bd_Reader_read_single h_Reader_read_single.fn
  M_Reader_read_single := h_Reader_read_single.M
  f_Reader_read_named := f_Reader_read_named
  d_Reader_read_named := d_Reader_read_named
  F_Reader_read_named := h_Reader_read_named.fn
  b_Reader_read_named := bd_Reader_read_named h_Reader_read_named.fn
  M_Reader_read_named := h_Reader_read_named.M
  f_Reader_read_parts := f_Reader_read_parts
  d_Reader_read_parts := d_Reader_read_parts
  F_Reader_read_parts := h_Reader_read_parts.fn
  b_Reader_read_parts := bd_Reader_read_parts h_Reader_read_parts.fn
  M_Reader_read_parts := h_Reader_read_parts.M
  f_Reader_read_round := f_Reader_read_round
  d_Reader_read_round := d_Reader_read_round
  F_Reader_read_round := h_Reader_read_round.fn
  b_Reader_read_round := bd_Reader_read_round h_Reader_read_round.fn
  M_Reader_read_round := h_Reader_read_round.M
  f_Reader_read_if := f_Reader_read_if
  d_Reader_read_if := d_Reader_read_if
  F_Reader_read_if := h_Reader_read_if.fn
  b_Reader_read_if := bd_Reader_read_if h_Reader_read_if.fn
  M_Reader_read_if := h_Reader_read_if.M
  f_rows_of := f_rows_of
  d_rows_of := d_rows_of
  F_rows_of := h_rows_of.fn
  g_rows_of := PySem.W.mg_of X G h_rows_of.at_
  b_rows_of := bd_rows_of h_rows_of.fn
  f_text_of := f_text_of
  d_text_of := d_text_of
  F_text_of := h_text_of.fn
  g_text_of := PySem.W.mg_of X G h_text_of.at_
  b_text_of := bd_text_of h_text_of.fn
  f_is_name := f_is_name
  d_is_name := d_is_name
  F_is_name := h_is_name.fn
  g_is_name := PySem.W.mg_of X G h_is_name.at_
  b_is_name := bd_is_name h_is_name.fn
  f_is_letter := f_is_letter
  d_is_letter := d_is_letter
  F_is_letter := h_is_letter.fn
  g_is_letter := PySem.W.mg_of X G h_is_letter.at_
  b_is_letter := bd_is_letter h_is_letter.fn
  f_tokens := f_tokens
  d_tokens := d_tokens
  F_tokens := h_tokens.fn
  g_tokens := PySem.W.mg_of X G h_tokens.at_
  b_tokens := bd_tokens h_tokens.fn
  f_token_at := f_token_at
  d_token_at := d_token_at
  F_token_at := h_token_at.fn
  g_token_at := PySem.W.mg_of X G h_token_at.at_
  b_token_at := bd_token_at h_token_at.fn
  f_is_figure := f_is_figure
  d_is_figure := d_is_figure
  F_is_figure := h_is_figure.fn
  g_is_figure := PySem.W.mg_of X G h_is_figure.at_
  b_is_figure := bd_is_figure h_is_figure.fn
  f_run_at := f_run_at
  d_run_at := d_run_at
  F_run_at := h_run_at.fn
  g_run_at := PySem.W.mg_of X G h_run_at.at_
  b_run_at := bd_run_at h_run_at.fn
  f_letters_sort := f_letters_sort
  d_letters_sort := d_letters_sort
  F_letters_sort := h_letters_sort.fn
  g_letters_sort := PySem.W.mg_of X G h_letters_sort.at_
  b_letters_sort := bd_letters_sort h_letters_sort.fn
  f_quoted_at := f_quoted_at
  d_quoted_at := d_quoted_at
  F_quoted_at := h_quoted_at.fn
  g_quoted_at := PySem.W.mg_of X G h_quoted_at.at_
  b_quoted_at := bd_quoted_at h_quoted_at.fn
  f_stops := f_stops
  d_stops := d_stops
  F_stops := h_stops.fn
  g_stops := PySem.W.mg_of X G h_stops.at_
  b_stops := bd_stops h_stops.fn
  f_read_take := f_read_take
  d_read_take := d_read_take
  F_read_take := h_read_take.fn
  g_read_take := PySem.W.mg_of X G h_read_take.at_
  b_read_take := bd_read_take h_read_take.fn
  f_read_let := f_read_let
  d_read_let := d_read_let
  F_read_let := h_read_let.fn
  g_read_let := PySem.W.mg_of X G h_read_let.at_
  b_read_let := bd_read_let h_read_let.fn
  f_read_def := f_read_def
  d_read_def := d_read_def
  F_read_def := h_read_def.fn
  g_read_def := PySem.W.mg_of X G h_read_def.at_
  b_read_def := bd_read_def h_read_def.fn
  f_read := f_read
  d_read := d_read
  F_read := h_read.fn
  g_read := PySem.W.mg_of X G h_read.at_
  b_read := bd_read h_read.fn
  f_laid_text := f_laid_text
  d_laid_text := d_laid_text
  F_laid_text := h_laid_text.fn
  g_laid_text := PySem.W.mg_of X G h_laid_text.at_
  b_laid_text := bd_laid_text h_laid_text.fn
  f_laid := f_laid
  d_laid := d_laid
  F_laid := h_laid.fn
  g_laid := PySem.W.mg_of X G h_laid.at_
  b_laid := bd_laid h_laid.fn
  f_joined := f_joined
  d_joined := d_joined
  F_joined := h_joined.fn
  g_joined := PySem.W.mg_of X G h_joined.at_
  b_joined := bd_joined h_joined.fn
  f_apart := f_apart
  d_apart := d_apart
  F_apart := h_apart.fn
  g_apart := PySem.W.mg_of X G h_apart.at_
  b_apart := bd_apart h_apart.fn
  f_L_begin := f_L_begin
  d_L_begin := d_L_begin
  F_L_begin := h_L_begin.fn
  g_L_begin := PySem.W.mg_of X G h_L_begin.at_
  b_L_begin := bd_L_begin h_L_begin.fn
  f_L_take := f_L_take
  d_L_take := d_L_take
  F_L_take := h_L_take.fn
  g_L_take := PySem.W.mg_of X G h_L_take.at_
  b_L_take := bd_L_take h_L_take.fn
  f_L_some := f_L_some
  d_L_some := d_L_some
  F_L_some := h_L_some.fn
  g_L_some := PySem.W.mg_of X G h_L_some.at_
  b_L_some := bd_L_some h_L_some.fn
  f_L_names := f_L_names
  d_L_names := d_L_names
  F_L_names := h_L_names.fn
  g_L_names := PySem.W.mg_of X G h_L_names.at_
  b_L_names := bd_L_names h_L_names.fn
  f_L_part_words := f_L_part_words
  d_L_part_words := d_L_part_words
  F_L_part_words := h_L_part_words.fn
  g_L_part_words := PySem.W.mg_of X G h_L_part_words.at_
  b_L_part_words := bd_L_part_words h_L_part_words.fn
  f_L_comma_words := f_L_comma_words
  d_L_comma_words := d_L_comma_words
  F_L_comma_words := h_L_comma_words.fn
  g_L_comma_words := PySem.W.mg_of X G h_L_comma_words.at_
  b_L_comma_words := bd_L_comma_words h_L_comma_words.fn
  f_L_single_words := f_L_single_words
  d_L_single_words := d_L_single_words
  F_L_single_words := h_L_single_words.fn
  g_L_single_words := PySem.W.mg_of X G h_L_single_words.at_
  b_L_single_words := bd_L_single_words h_L_single_words.fn
  f_L_row_words := f_L_row_words
  d_L_row_words := d_L_row_words
  F_L_row_words := h_L_row_words.fn
  g_L_row_words := PySem.W.mg_of X G h_L_row_words.at_
  b_L_row_words := bd_L_row_words h_L_row_words.fn
  f_L_tight := f_L_tight
  d_L_tight := d_L_tight
  F_L_tight := h_L_tight.fn
  g_L_tight := PySem.W.mg_of X G h_L_tight.at_
  b_L_tight := bd_L_tight h_L_tight.fn
  f_L_right_row := f_L_right_row
  d_L_right_row := d_L_right_row
  F_L_right_row := h_L_right_row.fn
  g_L_right_row := PySem.W.mg_of X G h_L_right_row.at_
  b_L_right_row := bd_L_right_row h_L_right_row.fn
  f_L_soup := f_L_soup
  d_L_soup := d_L_soup
  F_L_soup := h_L_soup.fn
  g_L_soup := PySem.W.mg_of X G h_L_soup.at_
  b_L_soup := bd_L_soup h_L_soup.fn
  f_L_bent_row := f_L_bent_row
  d_L_bent_row := d_L_bent_row
  F_L_bent_row := h_L_bent_row.fn
  g_L_bent_row := PySem.W.mg_of X G h_L_bent_row.at_
  b_L_bent_row := bd_L_bent_row h_L_bent_row.fn
  f_L_text := f_L_text
  d_L_text := d_L_text
  F_L_text := h_L_text.fn
  g_L_text := PySem.W.mg_of X G h_L_text.at_
  b_L_text := bd_L_text h_L_text.fn
  f_law := f_law
  d_law := d_law
  F_law := h_law.fn
  g_law := PySem.W.mg_of X G h_law.at_
  b_law := bd_law h_law.fn
  C_HELD := C_HELD
  gC_HELD := PySem.W.mg_of X G z_HELD
  S_HELD := y_HELD
  C_LONE_SIGNS := C_LONE_SIGNS
  gC_LONE_SIGNS := PySem.W.mg_of X G z_LONE_SIGNS
  S_LONE_SIGNS := y_LONE_SIGNS
  C_KINDS := C_KINDS
  gC_KINDS := PySem.W.mg_of X G z_KINDS
  S_KINDS := y_KINDS
  C_OPERATORS := C_OPERATORS
  gC_OPERATORS := PySem.W.mg_of X G z_OPERATORS
  S_OPERATORS := y_OPERATORS
  C_FLAGS := C_FLAGS
  gC_FLAGS := PySem.W.mg_of X G z_FLAGS
  S_FLAGS := y_FLAGS
  n_all := PySem.W.mg_none_of X G z_all
  n_len := PySem.W.mg_none_of X G z_len
  n_isinstance := PySem.W.mg_none_of X G z_isinstance
  n_str := PySem.W.mg_none_of X G z_str
  n_tuple := PySem.W.mg_none_of X G z_tuple
  n_enumerate := PySem.W.mg_none_of X G z_enumerate
  n_list := PySem.W.mg_none_of X G z_list
  n_divmod := PySem.W.mg_none_of X G z_divmod
  n_range := PySem.W.mg_none_of X G z_range
  n_int := PySem.W.mg_none_of X G z_int
  c_MOST_LETTERS := ⟨t_MOST_LETTERS, PySem.W.mg_of X G z_MOST_LETTERS⟩
  c_QUOTE := ⟨t_QUOTE, PySem.W.mg_of X G z_QUOTE⟩
  c_MOST_FIGURES := ⟨t_MOST_FIGURES, PySem.W.mg_of X G z_MOST_FIGURES⟩
  c_MOST_SIGNS := ⟨t_MOST_SIGNS, PySem.W.mg_of X G z_MOST_SIGNS⟩
end K12

set_option maxHeartbeats 4000000
/-! Tk: what stands in a row: plain mathematics. -/
namespace Tk
open PySem PySem.Spec PyProof.Rows L2 Gx
def isLet (c : Nat) : Bool := decide (97 ≤ c) && decide (c ≤ 122)
def isFig (c : Nat) : Bool := decide (48 ≤ c) && decide (c ≤ 57)
def heldW : List Str := ["take", "let", "def", "if", "then", "else", "yes", "no", "at", "num", "word", "flag", "nums", "words", "flags"]
def loneW : List Str := ["(", ")", "[", "]", ",", "=", "+", "-", "*", "&", "<"]
def isLone (c : Nat) : Bool := c ∈ [40, 41, 91, 93, 44, 61, 43, 45, 42, 38, 60]
/-- the sort of a run of letters -/
def lsort (l : List Nat) : Str := if SX.S l ∈ heldW then "held" else if l.length ≤ 8 then "name" else "odd"
abbrev Tkn := Str × Str × Nat
/-- what begins here: its sort, its signs -/
def tokAt : List Nat → Str × List Nat
  | [] => ("odd", [])
  | c :: r =>
    if isLet c then (lsort ((c :: r).takeWhile isLet), (c :: r).takeWhile isLet)
    else if isFig c then (if ((c :: r).takeWhile isFig).length ≤ 6 then "number" else "odd", (c :: r).takeWhile isFig)
    else if c = 34 then (if 34 ∈ r then ("word", 34 :: (r.takeWhile (· != 34) ++ [34])) else ("odd", 34 :: r))
    else (if isLone c then "sign" else "odd", [c])
theorem tokAt_cons (c : Nat) (r : List Nat) : tokAt (c :: r) = if isLet c then (lsort ((c :: r).takeWhile isLet), (c :: r).takeWhile isLet)
    else if isFig c then (if ((c :: r).takeWhile isFig).length ≤ 6 then "number" else "odd", (c :: r).takeWhile isFig)
    else if c = 34 then (if 34 ∈ r then ("word", 34 :: (r.takeWhile (· != 34) ++ [34])) else ("odd", 34 :: r))
    else (if isLone c then "sign" else "odd", [c]) := rfl
theorem tokAt_len (c : Nat) (r : List Nat) : 1 ≤ (tokAt (c :: r)).2.length ∧ (tokAt (c :: r)).2.length ≤ r.length + 1 ∧ (c :: r).take (tokAt (c :: r)).2.length = (tokAt (c :: r)).2 := by
  have tw : ∀ (p : Nat → Bool) (l : List Nat), (l.takeWhile p).length ≤ l.length ∧ l.take (l.takeWhile p).length = l.takeWhile p := fun p l => by
    have h := List.takeWhile_prefix (p := p) (l := l)
    exact ⟨h.length_le, (List.prefix_iff_eq_take.mp h).symm⟩
  rw [tokAt_cons]
  split
  · rename_i h
    have := tw isLet (c :: r)
    refine ⟨?_, this.1, this.2⟩
    show 1 ≤ ((c :: r).takeWhile isLet).length
    rw [List.takeWhile_cons, if_pos h]; simp
  · split
    · rename_i h
      have := tw isFig (c :: r)
      refine ⟨?_, this.1, this.2⟩
      show 1 ≤ ((c :: r).takeWhile isFig).length
      rw [List.takeWhile_cons, if_pos h]; simp
    · split
      · rename_i h
        subst h
        split
        · rename_i hm
          have h1 := tw (· != 34) r
          have h2 : (r.takeWhile (· != 34)).length < r.length := by
            rcases Nat.lt_or_ge (r.takeWhile (· != 34)).length r.length with h | h
            · exact h
            · have e : r.takeWhile (· != 34) = r := by
                have := h1.2
                rw [List.take_of_length_le h] at this
                exact this.symm
              have := List.all_takeWhile (l := r) (p := (· != 34))
              rw [e, List.all_eq_true] at this
              have := this 34 hm
              simp at this
          have h3 : r[(r.takeWhile (· != 34)).length]? = some 34 := by
            have hd : r = r.takeWhile (· != 34) ++ r.dropWhile (· != 34) := List.takeWhile_append_dropWhile.symm
            have hne : r.dropWhile (· != 34) ≠ [] := by
              intro e
              rw [e, List.append_nil] at hd
              rw [← hd] at h2
              exact absurd h2 (Nat.lt_irrefl _)
            have hh := List.head_dropWhile_not (· != 34) hne
            obtain ⟨y, ys, ey⟩ := List.exists_cons_of_ne_nil hne
            have hy : y = 34 := by
              simp only [ey, List.head_cons] at hh
              simpa using hh
            have : r[(r.takeWhile (· != 34)).length]? = (r.dropWhile (· != 34))[0]? := by
              conv => lhs; rw [show r = r.takeWhile (· != 34) ++ r.dropWhile (· != 34) from hd]
              rw [List.getElem?_append_right (by simp)]
              simp
            rw [this, ey, hy]; rfl
          refine ⟨by simp, ?_, ?_⟩
          · simp only [List.length_cons, List.length_append, List.length_nil]; omega
          · simp only [List.length_cons, List.length_append, List.length_nil, List.take_succ_cons]
            rw [List.take_add_one, h1.2, h3]; rfl
        · exact ⟨by simp, by simp, by simp⟩
      · exact ⟨by simp, by simp, by simp⟩
def toksF : Nat → List Nat → Nat → List Tkn
  | 0, _, _ => []
  | _ + 1, [], _ => []
  | n + 1, c :: r, k => if c = 32 then toksF n r (k + 1) else ((tokAt (c :: r)).1, SX.S (tokAt (c :: r)).2, k) :: toksF n ((c :: r).drop (tokAt (c :: r)).2.length) (k + (tokAt (c :: r)).2.length)
/-- what stands in a row from here on, k the column of its first sign -/
def toks (l : List Nat) (k : Nat) : List Tkn := toksF l.length l k
theorem toksF_eq : ∀ (n : Nat) (l : List Nat) (k : Nat), l.length ≤ n → toksF n l k = toks l k
  | 0, [], _, _ => rfl
  | n + 1, [], _, _ => rfl
  | n + 1, c :: r, k, h => by
    have hr : r.length ≤ n := by rw [List.length_cons] at h; omega
    have t := tokAt_len c r
    unfold toks
    rw [List.length_cons]
    unfold toksF
    split
    · rw [toksF_eq n r (k + 1) hr]; rfl
    · have hd : ((c :: r).drop (tokAt (c :: r)).2.length).length ≤ r.length := by rw [List.length_drop, List.length_cons]; omega
      rw [toksF_eq n _ _ (by omega), toksF_eq r.length _ _ hd]
theorem toks_nil (k : Nat) : toks [] k = [] := rfl
theorem toks_blank (r : List Nat) (k : Nat) : toks (32 :: r) k = toks r (k + 1) := by
  show toksF (r.length + 1) (32 :: r) k = _
  unfold toksF
  rw [if_pos rfl]; rfl
theorem toks_cons {c : Nat} (h : c ≠ 32) (r : List Nat) (k : Nat) : toks (c :: r) k = ((tokAt (c :: r)).1, SX.S (tokAt (c :: r)).2, k) :: toks ((c :: r).drop (tokAt (c :: r)).2.length) (k + (tokAt (c :: r)).2.length) := by
  have t := tokAt_len c r
  conv => lhs; unfold toks
  rw [List.length_cons]
  unfold toksF
  rw [if_neg h, toksF_eq r.length _ _ (by rw [List.length_drop, List.length_cons]; omega)]
theorem toks_many : ∀ (n : Nat) (l : List Nat) (k : Nat), l.length ≤ n → (toks l k).length ≤ l.length
  | 0, [], _, _ => Nat.le_refl _
  | n + 1, [], _, _ => Nat.le_refl _
  | n + 1, c :: r, k, h => by
    have hr : r.length ≤ n := by rw [List.length_cons] at h; omega
    by_cases e : c = 32
    · subst e
      rw [toks_blank, List.length_cons]
      exact Nat.le_succ_of_le (toks_many n r (k + 1) hr)
    · have t := tokAt_len c r
      rw [toks_cons e, List.length_cons, List.length_cons]
      have := toks_many n ((c :: r).drop (tokAt (c :: r)).2.length) (k + (tokAt (c :: r)).2.length) (by rw [List.length_drop, List.length_cons]; omega)
      rw [List.length_drop, List.length_cons] at this
      omega
/-- a list of tokens at p, its items at as -/
def TokAt (H : Hp) (a : Addr) (t : Tkn) : Prop := H a = some (.tup [.str t.1, .str t.2.1, .int (t.2.2 : Int)])
theorem keepT {H H' : Hp} (s : Same H H') : ∀ {as : List Addr} {ts : List Tkn}, Paired (TokAt H) as ts → Paired (TokAt H') as ts
  | _, _, .nil => .nil
  | _, _, .cons h t => .cons (s _ _ h) (keepT s t)
theorem snocT {F : Addr → Tkn → Prop} : ∀ {as : List Addr} {ts : List Tkn} {a : Addr} {t : Tkn}, Paired F as ts → F a t → Paired F (as ++ [a]) (ts ++ [t])
  | _, _, _, _, .nil, h => .cons h .nil
  | _, _, _, _, .cons h t, q => .cons h (snocT t q)
theorem neT {H : Hp} {p : Addr} {xs : List V} (hp : H p = some (.lst xs)) : ∀ {as : List Addr} {ts : List Tkn}, Paired (TokAt H) as ts → ∀ a ∈ as, a ≠ p
  | _, _, .nil, a, ha => absurd ha List.not_mem_nil
  | _, _, .cons h t, a, ha => by
    rcases List.mem_cons.mp ha with rfl | ha
    · intro e; subst e
      have h : H _ = some _ := h
      rw [hp] at h; cases h
    · exact neT hp t a ha
theorem updT {H : Hp} {p : Addr} {o : HO} : ∀ {as : List Addr} {ts : List Tkn}, Paired (TokAt H) as ts → (∀ a ∈ as, a ≠ p) → Paired (TokAt (upd H p o)) as ts
  | _, _, .nil, _ => .nil
  | _, _, .cons h t, n => .cons (by show upd H p o _ = _; rw [upd_ne (n _ List.mem_cons_self)]; exact h) (updT t fun a ha => n a (List.mem_cons_of_mem _ ha))
def TokL (H : Hp) (p : Addr) (ts : List Tkn) : Prop := ∃ as : List Addr, H p = some (.lst (as.map V.ref)) ∧ Paired (TokAt H) as ts
end Tk

set_option maxHeartbeats 4000000
/-! Sy: slices, find, lstrip, partition of texts as lists of signs. -/
namespace Tk
open PySem PySem.Spec PyProof.Rows L2 Gx
theorem S_eq {x : Str} {l : List Nat} (h : x.cps.toList = l) : x = SX.S l := TL.ext_tl h
theorem cut_mid (x : Str) (k j : Nat) : cutS x (some (k : Int)) (some ((k + j : Nat) : Int)) = SX.S ((x.cps.toList.drop k).take j) := S_eq (by rw [cutS_mid, List.drop_take, Nat.add_sub_cancel_left])
theorem cut_from (x : Str) (k : Nat) : cutS x (some (k : Int)) none = SX.S (x.cps.toList.drop k) := S_eq (cutS_from x k)
theorem cut_to (x : Str) (k : Nat) : cutS x none (some (k : Int)) = SX.S (x.cps.toList.take k) := S_eq (cutS_to x k)
/-! ### find -/
open PySem.StrLaws in
theorem occ_stays (s sub : Str) (hi : Nat) : ∀ (l : List Nat) (i f : Nat), (forIn l ((#[i] : Array Nat), f) (occBody s sub hi 1)).run.fst = #[i]
  | [], i, f => rfl
  | a :: l, i, f => by
    rw [List.forIn_cons]
    unfold occBody
    rw [if_neg (by rintro ⟨⟨⟨h, _⟩, _⟩, _⟩; exact absurd h (by show ¬ (1 < 1); decide))]
    exact occ_stays s sub hi l i f
open PySem.StrLaws in
theorem occ_first (x : Str) (c : Nat) : ∀ (l : List Nat) (f : Nat), (∀ i ∈ l, f ≤ i) → (forIn l ((#[] : Array Nat), f) (occBody x ⟨#[c]⟩ x.length 1)).run.fst.toList = (l.find? fun i => x.cps.toList[i]? == some c).toList
  | [], f, _ => rfl
  | a :: l, f, h => by
    rw [List.forIn_cons, List.find?_cons]
    by_cases e : x.cps.toList[a]? = some c
    · have e2 : (x.cps.toList[a]? == some c) = true := by rw [e]; exact beq_self_eq_true _
      rw [e2]
      have hs := (subAt_one x c a).mpr e
      unfold occBody
      rw [if_pos ⟨⟨⟨by show 0 < 1; decide, h a List.mem_cons_self⟩, hs.1⟩, hs.2⟩]
      show (forIn l ((#[a] : Array Nat), _) (occBody x ⟨#[c]⟩ x.length 1)).run.fst.toList = _
      rw [occ_stays]; rfl
    · have e2 : (x.cps.toList[a]? == some c) = false := beq_eq_false_iff_ne.mpr e
      rw [e2]
      have hn : ¬ (((((#[] : Array Nat), f).fst.size < 1 ∧ ((#[] : Array Nat), f).snd ≤ a) ∧ a + (⟨#[c]⟩ : Str).length ≤ x.length) ∧ Builtin.Str.subAt x ⟨#[c]⟩ a = true) := fun h2 => e ((subAt_one x c a).mp ⟨h2.1.2, h2.2⟩)
      conv => lhs; unfold occBody
      rw [if_neg hn]
      exact occ_first x c l f fun i hi => h i (List.mem_cons_of_mem _ hi)
theorem find_range (X : List Nat) (c : Nat) : ∀ n lo, lo + n = X.length + 1 → ((List.range' lo n).find? fun i => X[i]? == some c) = if c ∈ X.drop lo then some (lo + ((X.drop lo).takeWhile (· != c)).length) else none
  | 0, lo, h => by
    rw [List.drop_of_length_le (by omega)]; rfl
  | n + 1, lo, h => by
    have ih := find_range X c n (lo + 1) (by omega)
    rw [List.range'_succ, List.find?_cons]
    rcases Nat.lt_or_ge lo X.length with hl | hl
    · have ed := List.drop_eq_getElem_cons hl
      by_cases e : X[lo] = c
      · have e2 : (X[lo]? == some c) = true := by rw [List.getElem?_eq_getElem hl, e]; exact beq_self_eq_true _
        rw [e2]
        show some lo = _
        rw [ed, e, if_pos List.mem_cons_self, List.takeWhile_cons, if_neg (by simp)]; rfl
      · have e2 : (X[lo]? == some c) = false := by rw [List.getElem?_eq_getElem hl]; exact beq_eq_false_iff_ne.mpr fun h => e (Option.some.inj h)
        rw [e2]
        show ((List.range' (lo + 1) n).find? fun i => X[i]? == some c) = _
        have e3 : (X[lo] != c) = true := by simpa using e
        rw [ih, ed, List.takeWhile_cons, e3]
        by_cases hm : c ∈ X.drop (lo + 1)
        · rw [if_pos hm, if_pos (List.mem_cons_of_mem _ hm), if_pos rfl, List.length_cons]
          congr 1; omega
        · rw [if_neg hm, if_neg (fun h => by
            rcases List.mem_cons.mp h with h | h
            · exact e h.symm
            · exact hm h)]
    · have e2 : (X[lo]? == some c) = false := by rw [List.getElem?_eq_none hl]; rfl
      rw [e2]
      show ((List.range' (lo + 1) n).find? fun i => X[i]? == some c) = _
      rw [ih, List.drop_of_length_le hl, List.drop_of_length_le (by omega)]; rfl
theorem find3_one (x : Str) (c k : Nat) (hk : k ≤ x.length) : Txt.find3 x (SX.S [c]) (k : Int) = if c ∈ x.cps.toList.drop k then ((k + ((x.cps.toList.drop k).takeWhile (· != c)).length : Nat) : Int) else -1 := by
  have hl : x.cps.toList.length = x.length := Array.length_toList
  unfold Txt.find3
  have ef : fromIndex x.length (k : Int) = k := by
    unfold fromIndex
    split <;> omega
  rw [ef, show (SX.S [c]) = (⟨#[c]⟩ : Str) from rfl, PySem.StrLaws.occ_eq]
  have h1 := occ_first x c (List.range' k (x.length + 1 - k)) k (fun i hi => by simp [List.mem_range'] at hi; omega)
  rw [find_range x.cps.toList c _ k (by omega)] at h1
  rw [h1]
  split <;> rename_i h2
  · split at h2
    · rename_i hm
      rw [if_pos hm]
      injection h2 with h2 _
      rw [← h2]
    · cases h2
  · split at h2
    · cases h2
    · rename_i hm
      rw [if_neg hm]
/-! ### lstrip, partition -/
theorem lstrip_list (x y : Str) : Txt.lstripChars x y = SX.S (x.cps.toList.dropWhile fun c => decide (c ∈ y.cps.toList)) := by
  have hl : x.cps.toList.length = x.length := Array.length_toList
  have e : (fun c => y.cps.contains c) = fun c => decide (c ∈ y.cps.toList) := by
    funext c
    rw [Bool.eq_iff_iff, Array.contains_iff_mem, decide_eq_true_eq, Array.mem_toList_iff]
  refine S_eq ?_
  unfold Txt.lstripChars
  rw [stripBy_eq, strSub_mk]
  have e1 : stripLo y.cps.contains true x = (x.cps.toList.takeWhile y.cps.contains).length := by simp only [stripLo, if_true]
  have e2 : ∀ lo, stripHi y.cps.contains false x lo = x.length := fun lo => by simp [stripHi]
  rw [e1, e2]
  show ((x.cps.toList.drop _).take _) = _
  rw [List.take_of_length_le (by rw [List.length_drop]; omega)]
  have h3 := List.takeWhile_append_dropWhile (p := y.cps.contains) (l := x.cps.toList)
  have h4 : x.cps.toList.drop (x.cps.toList.takeWhile y.cps.contains).length = x.cps.toList.dropWhile y.cps.contains := by
    conv => lhs; rw [← h3]
    rw [List.takeWhile_append_dropWhile]
    conv => lhs; arg 2; rw [← h3]
    exact List.drop_left
  rw [h4]
  show x.cps.toList.dropWhile (fun c => y.cps.contains c) = _
  rw [e]
theorem split_at {c : Nat} : ∀ {l : List Nat}, c ∈ l → l = l.takeWhile (· != c) ++ c :: l.drop ((l.takeWhile (· != c)).length + 1)
  | a :: l, h => by
    by_cases e : a = c
    · subst e
      rw [List.takeWhile_cons, if_neg (by simp)]; rfl
    · have hm : c ∈ l := by
        rcases List.mem_cons.mp h with h | h
        · exact absurd h.symm e
        · exact h
      rw [List.takeWhile_cons, if_pos (by simpa using e), List.cons_append, List.length_cons, List.drop_succ_cons]
      exact congrArg (a :: ·) (split_at hm)
theorem part_some {l : List Nat} {c : Nat} (h : c ∈ l) : Txt.partition (SX.S l) (SX.S [c]) = (SX.S (l.takeWhile (· != c)), SX.S [c], SX.S (l.drop ((l.takeWhile (· != c)).length + 1))) := by
  have hn : c ∉ TL.tl (SX.S (l.takeWhile (· != c))) := fun hm => by
    have := List.all_takeWhile (l := l) (p := (· != c))
    rw [List.all_eq_true] at this
    have := this c hm
    simp at this
  have e : SX.S l = SX.S (l.takeWhile (· != c)) ++ SX.S [c] ++ SX.S (l.drop ((l.takeWhile (· != c)).length + 1)) := by
    apply TL.ext_tl
    show l = _
    rw [TL.tl_append, TL.tl_append]
    show l = (l.takeWhile (· != c) ++ [c]) ++ l.drop _
    rw [List.append_assoc]
    exact split_at h
  rw [e]
  exact TL.partition_app (s := c) (S := []) rfl hn
theorem part_none {l : List Nat} {c : Nat} (h : c ∉ l) : Txt.partition (SX.S l) (SX.S [c]) = (SX.S l, SX.S [], SX.S []) := TL.partition_none (s := c) (S := []) rfl h
end Tk

set_option maxHeartbeats 4000000
namespace K12
open PySem PySem.Spec PyProof.Rows L2 Gx Tk
variable {P : Program} {w : World} {K : PySem.W.Frag} {mg : Str → Option Value} {base : Heap}
theorem lt1 (a b : Nat) : ([a] < [b]) ↔ a < b := by
  constructor
  · intro h
    cases h with
    | rel h => exact h
    | cons h => cases h
  · exact fun h => List.Lex.rel h
/-- a def that says of one sign whether p holds -/
def sp_pred (p : Nat → Bool) : Sp := fun vs H Q _ => ∃ c : Nat, vs = [.str (SX.S [c])] ∧ Q (.bl (p c)) H
theorem ok_is_letter (T : Facts K mg w) : FnG P w K mg base 1 T.f_is_letter T.d_is_letter ["sign"] (sp_pred isLet) := by
  refine fnG_of T.F_is_letter sc_is_letter (fun vs H Q E h => ?_) (fun cdv A outer s H vs Q hG hr h => ?_)
  · obtain ⟨c, rfl, _⟩ := h; rfl
  · obtain ⟨c, rfl, q⟩ := h
    refine ⟨_, (pss_one (ps_ret (pe_chain op_le_str op_le_str pe_str (pv 0) pe_str))), ?_⟩
    have e1 : decide ((SX.S [c]).cps.toList < ("a" : Str).cps.toList) = decide (c < 97) := decide_eq_decide.mpr (lt1 c 97)
    have e2 : decide (("z" : Str).cps.toList < (SX.S [c]).cps.toList) = decide (122 < c) := decide_eq_decide.mpr (lt1 122 c)
    refine ⟨_, rfl, _, _, rfl, rfl, _, rfl, ?_⟩
    rw [e1]
    by_cases h1 : c < 97
    · rw [if_neg (by simp [h1])]
      have e3 : isLet c = false := by simp [isLet]; omega
      rw [e3] at q; exact q
    · rw [if_pos (by simp [h1])]
      refine ⟨_, _, rfl, rfl, ?_⟩
      rw [e2]
      have e3 : isLet c = !decide (122 < c) := by
        unfold isLet
        rw [decide_eq_true (show 97 ≤ c by omega), Bool.true_and, ← decide_not]
        exact decide_eq_decide.mpr (by omega)
      rw [e3] at q; exact q
theorem ok_is_figure (T : Facts K mg w) : FnG P w K mg base 1 T.f_is_figure T.d_is_figure ["sign"] (sp_pred isFig) := by
  refine fnG_of T.F_is_figure sc_is_figure (fun vs H Q E h => ?_) (fun cdv A outer s H vs Q hG hr h => ?_)
  · obtain ⟨c, rfl, _⟩ := h; rfl
  · obtain ⟨c, rfl, q⟩ := h
    refine ⟨_, (pss_one (ps_ret (pe_chain op_le_str op_le_str pe_str (pv 0) pe_str))), ?_⟩
    have e1 : decide ((SX.S [c]).cps.toList < ("0" : Str).cps.toList) = decide (c < 48) := decide_eq_decide.mpr (lt1 c 48)
    have e2 : decide (("9" : Str).cps.toList < (SX.S [c]).cps.toList) = decide (57 < c) := decide_eq_decide.mpr (lt1 57 c)
    refine ⟨_, rfl, _, _, rfl, rfl, _, rfl, ?_⟩
    rw [e1]
    by_cases h1 : c < 48
    · rw [if_neg (by simp [h1])]
      have e3 : isFig c = false := by simp [isFig]; omega
      rw [e3] at q; exact q
    · rw [if_pos (by simp [h1])]
      refine ⟨_, _, rfl, rfl, ?_⟩
      rw [e2]
      have e3 : isFig c = !decide (57 < c) := by
        unfold isFig
        rw [decide_eq_true (show 48 ≤ c by omega), Bool.true_and, ← decide_not]
        exact decide_eq_decide.mpr (by omega)
      rw [e3] at q; exact q
theorem inV_strs (x : Str) (ws : List Str) : inV (.str x) (ws.map V.str) = decide (x ∈ ws) := by
  unfold inV
  rw [List.any_map]
  induction ws with
  | nil => rfl
  | cons y ys ih =>
    rw [List.any_cons, ih]
    show ((y == x) || _) = _
    by_cases h : x = y
    · subst h; simp
    · have : (y == x) = false := beq_eq_false_iff_ne.mpr (Ne.symm h)
      rw [this, Bool.false_or]
      exact decide_eq_decide.mpr (by simp [h])
theorem flat_strs (ws : List Str) : (ws.map V.str).all flatV = true := by
  rw [List.all_map, List.all_eq_true]; intro y _; rfl
/-- a NAME -/
def nameB (x : Str) : Bool := !decide (x ∈ heldW) && ((decide (1 ≤ x.length) && decide (x.length ≤ 8)) && x.cps.toList.all isLet)
def sp_is_name : Sp := fun vs H Q _ => ∃ x : Str, vs = [.str x] ∧ x.length ≤ 1000000 ∧ ∀ H', Same H H' → Q (.bl (nameB x)) H'
theorem ok_is_name (T : Facts K mg w) : FnG P w K mg base 2 T.f_is_name T.d_is_name ["thing"] sp_is_name := by
  obtain ⟨tM, c_MOST_LETTERS⟩ := T.c_MOST_LETTERS
  refine fnG_of T.F_is_name sc_is_name (fun vs H Q E h => ?_) (fun cdv A outer s H vs Q hG hr h => ?_)
  · obtain ⟨c, rfl, _⟩ := h; rfl
  · obtain ⟨x, rfl, hx, q⟩ := h
    refine ⟨_, (pss_cons (ps_if (PW.pt (pw_or (pt_not (pt_val (pe_callB call_isi (by rfl) T.n_isinstance (by decide +kernel) (pa_cons (pv 0) (pa_cons (pe_bltn (v := .ty "str") (by rfl) T.n_str (by decide +kernel) rfl) pa_nil))))) (pw_or1 (pt_cmpR op_in_seq (pv 0) (pe_glob (v := .ref T.C_HELD) rfl T.gC_HELD rfl) rfl)))) (pss_one (ps_ret pe_bl)) pss_nil)
        (pss_one (ps_ret (pe_and (pe_chain op_le op_le pe_int (pe_callB call_len_str (by rfl) T.n_len PySem.boot_len (pa_cons (pv 0) pa_nil)) (pe_glob (v := .int 8) rfl c_MOST_LETTERS ⟨_, rfl⟩)) (pe_one (pe_callB (cr_all rfl) (by rfl) T.n_all (by decide +kernel) (pa_cons (pe_lc (own := [("sign", 1)]) rfl sc_is_name.nd (pi_str (pv 0)) (blkOk_by (own := [("sign", 1)]) (N := ["thing", "sign"]) (sc := defScope s_is_name) (by decide +kernel)) (fun _ _ _ _ _ => (pg_name (i := 1) sc_is_name.nd rfl (.inl rfl))) (fun _ _ _ _ _ => pts_nil) (fun _ _ _ _ _ => (pe_go (ok_is_letter T) hG (hr.mono (by decide)) (by rfl) T.g_is_letter T.F_is_letter.kp T.b_is_letter (pa_cons (pv 1) pa_nil)))) pa_nil))))))), ?_⟩
    refine ⟨.str x, rfl, _, .ty "str", _, _, true, rfl, .ty _, .base (.str x), kit_ty (by decide +kernel), _, rfl, iteF ?_⟩
    refine ⟨_, rfl, _, _, rfl, .inr (T.S_HELD.sqT (by decide) H), rfl, flat_strs _, _, rfl, ?_⟩
    rw [if_neg (by decide), inV_strs]
    have eh : decide (x ∈ (["take", "let", "def", "if", "then", "else", "yes", "no", "at", "num", "word", "flag", "nums", "words", "flags"] : List Str)) = decide (x ∈ heldW) := rfl
    rw [eh]
    dsimp only
    by_cases hm : x ∈ heldW
    · rw [if_pos (decide_eq_true hm)]
      have e : nameB x = false := by unfold nameB; rw [decide_eq_true hm]; rfl
      have := q H (Same.refl _)
      rw [e] at this
      exact this
    · rw [if_neg (by rw [decide_eq_false hm]; decide)]
      have e0 : nameB x = ((decide (1 ≤ x.length) && decide (x.length ≤ 8)) && x.cps.toList.all isLet) := by unfold nameB; rw [decide_eq_false hm]; rfl
      have hsl : (1000000 : Nat) ≤ sizeLine := by decide
      refine ⟨_, rfl, x, rfl, by omega, _, _, rfl, rfl, _, rfl, ?_⟩
      have last : (decide (1 ≤ x.length) && decide (x.length ≤ 8)) = false → Q (.bl false) H := fun h => by
        have := q H (Same.refl _)
        rw [e0, h] at this
        exact this
      by_cases h1 : 1 ≤ x.length
      · rw [if_pos (decide_eq_true (by omega))]
        refine ⟨_, _, rfl, rfl, _, rfl, ?_⟩
        by_cases h2 : x.length ≤ 8
        · rw [if_pos (decide_eq_true (by omega))]
          simp only [tCB, tCons, tNil]
          refine lc_text (x := x) (fun c => .bl (isLet c)) (fun R r => ⟨_, rfl, r _ _ (Same.refl _) rfl⟩) hx (fun c H' hc s1 Qv q1 => ?_) (fun D H' hD s1 e1 => ?_)
          · exact ⟨_, rfl, c, rfl, q1 _ (Same.refl _)⟩
          · refine ⟨D, x.cps.toList.map isLet, rfl, SqL.of (by rw [e1, List.map_map]; rfl), ?_⟩
            have := q H' s1
            rw [e0, decide_eq_true h1, decide_eq_true h2] at this
            rw [List.all_map]
            exact this
        · rw [if_neg (by rw [decide_eq_false (by omega)]; decide)]
          exact last (by rw [decide_eq_false h2, Bool.and_false])
      · rw [if_neg (by rw [decide_eq_false (by omega)]; decide)]
        refine ⟨_, rfl, ?_⟩
        rw [if_neg (by decide)]
        exact last (by rw [decide_eq_false h1, Bool.false_and])
def sp_letters : Sp := fun vs H Q _ => ∃ l : List Nat, vs = [.str (SX.S l)] ∧ l ≠ [] ∧ l.all isLet = true ∧ l.length ≤ 100000 ∧ ∀ H', Same H H' → Q (.str (lsort l)) H'
theorem ok_letters_sort (T : Facts K mg w) : FnG P w K mg base 3 T.f_letters_sort T.d_letters_sort ["text"] sp_letters := by
  refine fnG_of T.F_letters_sort sc_letters_sort (fun vs H Q E h => ?_) (fun cdv A outer s H vs Q hG hr h => ?_)
  · obtain ⟨c, rfl, _⟩ := h; rfl
  · obtain ⟨l, rfl, hne, hal, hl, q⟩ := h
    refine ⟨_, (pss_cons (ps_if (pt_cmpR op_in_seq (pv 0) (pe_glob (v := .ref T.C_HELD) rfl T.gC_HELD rfl) rfl) (pss_one (ps_ret pe_str)) pss_nil)
        (pss_one (ps_ret (pe_ifExp (pt_val (pe_go (ok_is_name T) hG (hr.mono (by decide)) (by rfl) T.g_is_name T.F_is_name.kp T.b_is_name (pa_cons (pv 0) pa_nil))) pe_str pe_str)))), ?_⟩
    refine ⟨_, rfl, _, _, rfl, .inr (T.S_HELD.sqT (by decide) H), rfl, flat_strs _, _, rfl, ?_⟩
    rw [if_neg (by decide), inV_strs]
    have eh : decide (SX.S l ∈ (["take", "let", "def", "if", "then", "else", "yes", "no", "at", "num", "word", "flag", "nums", "words", "flags"] : List Str)) = decide (SX.S l ∈ heldW) := rfl
    rw [eh]
    dsimp only
    by_cases hm : SX.S l ∈ heldW
    · rw [if_pos (decide_eq_true hm)]
      have e : lsort l = "held" := by unfold lsort; rw [if_pos hm]
      have := q H (Same.refl _)
      rw [e] at this
      exact this
    · rw [if_neg (by rw [decide_eq_false hm]; decide)]
      have hpos : 1 ≤ l.length := List.length_pos_iff.mpr hne
      have en : nameB (SX.S l) = decide (l.length ≤ 8) := by
        unfold nameB
        have et : (SX.S l).cps.toList = l := rfl
        rw [decide_eq_false hm, SX.S_len, decide_eq_true hpos, et, hal]
        simp
      refine ⟨_, rfl, SX.S l, rfl, by rw [SX.S_len]; omega, fun H' s1 => ?_⟩
      rw [en]
      refine ⟨_, rfl, ?_⟩
      have e0 : lsort l = if l.length ≤ 8 then ("name" : Str) else ("odd" : Str) := by unfold lsort; rw [if_neg hm]
      have := q H' s1
      rw [e0] at this
      dsimp only
      by_cases h8 : l.length ≤ 8
      · rw [if_pos h8] at this
        rw [if_pos (decide_eq_true h8)]
        exact this
      · rw [if_neg h8] at this
        rw [if_neg (by rw [decide_eq_false h8]; decide)]
        exact this
/-- the signs from k on that belong -/
def sp_run (T : Facts K mg w) : Sp := fun vs H Q _ => ∃ (x : Str) (k : Nat) (f : Addr) (p : Nat → Bool), vs = [.str x, .int (k : Int), .ref f] ∧ x.length ≤ 100000 ∧ k ≤ x.length ∧ ((f = T.f_is_letter ∧ p = isLet) ∨ (f = T.f_is_figure ∧ p = isFig)) ∧ Q (.str (SX.S ((x.cps.toList.drop k).takeWhile p))) H
theorem run_held (T : Facts K mg w) {f : Addr} {p : Nat → Bool} (h : (f = T.f_is_letter ∧ p = isLet) ∨ (f = T.f_is_figure ∧ p = isFig)) : ∃ fd : FuncData, FnG P w K mg base 1 f fd ["sign"] (sp_pred p) ∧ PySem.W.keepIn K (.ref f) = true ∧ Binds K fd ["sign"] [] := by
  rcases h with ⟨rfl, rfl⟩ | ⟨rfl, rfl⟩
  · exact ⟨_, ok_is_letter T, T.F_is_letter.kp, T.b_is_letter⟩
  · exact ⟨_, ok_is_figure T, T.F_is_figure.kp, T.b_is_figure⟩
theorem takeWhile_step {p : Nat → Bool} : ∀ (j : Nat) (l : List Nat) (c : Nat), (l.take j).all p = true → l[j]? = some c → p c = false → l.takeWhile p = l.take j
  | 0, c :: l, _, _, h, hp => by
    simp only [List.getElem?_cons_zero, Option.some.injEq] at h
    subst h
    rw [List.takeWhile_cons, if_neg (by rw [hp]; decide)]; rfl
  | j + 1, c :: l, d, ha, h, hp => by
    rw [List.take_succ_cons, List.all_cons, Bool.and_eq_true] at ha
    rw [List.takeWhile_cons, if_pos ha.1, List.take_succ_cons, takeWhile_step j l d ha.2 (by simpa using h) hp]
  | _, [], _, _, h, _ => by simp at h
theorem takeWhile_whole {p : Nat → Bool} : ∀ {l : List Nat}, l.all p = true → l.takeWhile p = l
  | [], _ => rfl
  | c :: l, h => by
    rw [List.all_cons, Bool.and_eq_true] at h
    rw [List.takeWhile_cons, if_pos h.1, takeWhile_whole h.2]
theorem ok_run_at (T : Facts K mg w) : FnG P w K mg base 2 T.f_run_at T.d_run_at ["row", "column", "belongs"] (sp_run T) := by
  refine fnG_of T.F_run_at sc_run_at (fun vs H Q E h => ?_) (fun cdv A outer s H vs Q hG hr h => ?_)
  · obtain ⟨c, _, _, _, rfl, _⟩ := h; rfl
  · obtain ⟨x, k, f, p, rfl, hx, hk, hf, q⟩ := h
    obtain ⟨fdL, FL, kL, bL⟩ := run_held (P := P) (w := w) (base := base) T hf
    refine ⟨_, (pss_cons (ps_set (i := 3) sc_run_at.nd rfl (.inl rfl) (pv 1))
        (pss_cons (ps_while PassesOwn.never (PW.pt (pw_and (pt_cmpR op_lt (pv 3) (pe_callB call_len_str (by rfl) T.n_len PySem.boot_len (pa_cons (pv 0) pa_nil)) (nomark _)) (pw_and1 (pt_truth (pe_goL (i := 2) FL hG (hr.mono (by decide)) (by rfl) (.inl rfl) kL bL (pa_cons (pe_ix ix_str (pv 0) (pv 3) (fun _ _ => rfl)) pa_nil)) (by intro _; rfl))))) (pss_one (ps_aug (i := 3) sc_run_at.nd rfl (.inl rfl) pe_int ip_add)))
        (pss_one (ps_ret (pe_slice sl_str (pv 0) (po_some (pv 1)) (po_some (pv 3))))))), ?_⟩
    have hsl : (1000000 : Nat) ≤ sizeLine := by decide
    have hxl : x.cps.toList.length = x.length := Array.length_toList
    refine ⟨_, rfl, ?_⟩
    refine ⟨fun m σ' H' => ∃ j : Nat, H' = H ∧ m + k + j = x.length ∧ ((x.cps.toList.drop k).take j).all p = true ∧ σ' = [some (.str x), some (.int (k : Int)), some (.ref f), some (.int ((k + j : Nat) : Int))], ⟨x.length - k, 0, rfl, by omega, rfl, rfl⟩, fun m σ' H' hP => ?_⟩
    obtain ⟨j, rfl, hm, ha, rfl⟩ := hP
    refine ⟨_, rfl, _, rfl, x, rfl, by omega, _, _, rfl, rfl, _, rfl, ite2 (fun h1 => ?_) (fun h1 => ?_)⟩
    · have h1 : (((k + j : Nat) : Int)) < (x.length : Int) := of_decide_eq_true h1
      obtain ⟨c, hc⟩ : ∃ c, x.cps.toList[k + j]? = some c := ⟨_, List.getElem?_eq_getElem (by omega)⟩
      have hc2 : (x.cps.toList.drop k)[j]? = some c := by rw [List.getElem?_drop]; exact hc
      refine ⟨rfl, _, rfl, _, rfl, x, _, c, rfl, rfl, by omega, atI_nat hc, c, rfl, ?_⟩
      refine ⟨_, rfl, ite2 (fun h2 => ?_) (fun h2 => ?_)⟩
      · refine ⟨_, fun _ _ h => h, _, rfl, _, _, rfl, rfl, ?_⟩
        refine ⟨m - 1, by omega, j + 1, rfl, by omega, ?_, ?_⟩
        · rw [List.take_add_one, hc2, List.all_append, ha]
          simp [h2]
        · rw [show (((k + (j + 1) : Nat)) : Int) = ((k + j : Nat) : Int) + 1 by omega]; rfl
      · have h2 : p c = false := by simpa using h2
        refine ⟨_, rfl, _, rfl, _, rfl, _, rfl, _, rfl, x, rfl, by omega, ?_⟩
        rw [cut_mid, ← takeWhile_step j _ c ha hc2 h2]
        exact q
    · have h1 : ¬ (((k + j : Nat) : Int)) < (x.length : Int) := fun h => h1 (decide_eq_true h)
      refine ite2 (fun h => by cases h) (fun _ => ?_)
      refine ⟨_, rfl, _, rfl, _, rfl, _, rfl, _, rfl, x, rfl, by omega, ?_⟩
      have e : (x.cps.toList.drop k).take j = x.cps.toList.drop k := List.take_of_length_le (by rw [List.length_drop]; omega)
      rw [cut_mid, e]
      rw [e] at ha
      rw [takeWhile_whole ha] at q
      exact q
end K12

set_option maxHeartbeats 4000000
namespace K12
open PySem PySem.Spec PyProof.Rows L2 Gx Tk
variable {P : Program} {w : World} {K : PySem.W.Frag} {mg : Str → Option Value} {base : Heap}
/-- what begins at a sign, told as a pair -/
def PairAt (H : Hp) (Q : VK) (l : List Nat) : Prop := ∀ p H', H p = none → Same H H' → H' p = some (.tup [.str (tokAt l).1, .str (SX.S (tokAt l).2)]) → Q (.ref p) H'
def sp_quoted : Sp := fun vs H Q _ => ∃ (x : Str) (k : Nat) (r : List Nat), vs = [.str x, .int (k : Int)] ∧ x.length ≤ 100000 ∧ x.cps.toList.drop k = 34 :: r ∧ PairAt H Q (34 :: r)
theorem drop_succ {l r : List Nat} {k c : Nat} (h : l.drop k = c :: r) : l.drop (k + 1) = r ∧ k + 1 ≤ l.length := by
  constructor
  · rw [← List.drop_drop, h]; rfl
  · have := congrArg List.length h
    rw [List.length_drop, List.length_cons] at this
    omega
theorem ok_quoted_at (T : Facts K mg w) : FnG P w K mg base 1 T.f_quoted_at T.d_quoted_at ["row", "column"] sp_quoted := by
  obtain ⟨tQ, c_QUOTE⟩ := T.c_QUOTE
  refine fnG_of T.F_quoted_at sc_quoted_at (fun vs H Q E h => ?_) (fun cdv A outer s H vs Q hG hr h => ?_)
  · obtain ⟨c, _, _, rfl, _⟩ := h; rfl
  · obtain ⟨x, k, r, rfl, hx, hd, q⟩ := h
    refine ⟨_, (pss_cons (ps_set (i := 2) sc_quoted_at.nd rfl (.inl rfl) (pe_bm PySem.F.plainAttrs_str PySem.F.slot_str_find PySem.F.type_str_find mt_find3 (pv 0) (pa_cons (pe_glob (v := .str "\"") rfl c_QUOTE ⟨_, rfl⟩) (pa_cons (pe_op op_add (pv 1) pe_int) pa_nil))))
        (pss_cons (ps_if (pt_cmpR op_lt (pv 2) pe_int (nomark _)) (pss_one (ps_ret (pe_tup (pa_cons pe_str (pa_cons (pe_slice sl_str (pv 0) (po_some (pv 1)) po_none) pa_nil))))) pss_nil)
        (pss_one (ps_ret (pe_tup (pa_cons pe_str (pa_cons (pe_slice sl_str (pv 0) (po_some (pv 1)) (po_some (pe_op op_add (pv 2) pe_int))) pa_nil))))))), ?_⟩
    have hsl : (1000000 : Nat) ≤ sizeLine := by decide
    have hxl : x.cps.toList.length = x.length := Array.length_toList
    have h1 := drop_succ hd
    have ef := find3_one x 34 (k + 1) (by omega)
    rw [h1.1] at ef
    have et : tokAt (34 :: r) = if 34 ∈ r then (("word" : Str), 34 :: (r.takeWhile (· != 34) ++ [34])) else (("odd" : Str), 34 :: r) := by
      rw [tokAt_cons, if_neg (by decide), if_neg (by decide), if_pos rfl]
    refine ⟨_, rfl, rfl, _, rfl, _, _, rfl, rfl, x, _, _, rfl, rfl, ?_⟩
    rw [show (k : Int) + 1 = ((k + 1 : Nat) : Int) by omega]
    rw [show (("\"" : Str)) = SX.S [34] from TL.ext_tl rfl, ef]
    by_cases hm : 34 ∈ r
    · rw [if_pos hm]
      rw [if_pos hm] at et
      refine ⟨_, rfl, _, _, rfl, rfl, _, rfl, ite2 (fun h => ?_) (fun _ => ?_)⟩
      · have := of_decide_eq_true h
        omega
      · refine ⟨_, rfl, _, rfl, _, rfl, _, rfl, _, _, rfl, rfl, _, rfl, x, rfl, by omega, by show 2 ≤ sizeLine; decide, fun p hp => ?_⟩
        rw [show ((k + 1 + (r.takeWhile (· != 34)).length : Nat) : Int) + 1 = ((k + ((r.takeWhile (· != 34)).length + 2) : Nat) : Int) by omega, cut_mid, hd]
        have e3 : (34 :: r).take ((r.takeWhile (· != 34)).length + 2) = 34 :: (r.takeWhile (· != 34) ++ [34]) := by
          rw [List.take_succ_cons]
          congr 1
          have e4 : r = (r.takeWhile (· != 34) ++ [34]) ++ r.drop ((r.takeWhile (· != 34)).length + 1) := by
            rw [List.append_assoc]
            exact split_at hm
          conv => lhs; arg 2; rw [e4]
          exact List.take_left' (by simp)
        rw [e3]
        have := q p _ hp (same_new hp) (by rw [et]; exact upd_same)
        exact this
    · rw [if_neg hm]
      rw [if_neg hm] at et
      refine ⟨_, rfl, _, _, rfl, rfl, _, rfl, ite2 (fun h => ?_) (fun h => absurd rfl h)⟩
      refine ⟨_, rfl, _, rfl, _, rfl, x, rfl, by omega, by show 2 ≤ sizeLine; decide, fun p hp => ?_⟩
      rw [cut_from, hd]
      exact q p _ hp (same_new hp) (by rw [et]; exact upd_same)
theorem lone_in (c : Nat) : decide (SX.S [c] ∈ (["(", ")", "[", "]", ",", "=", "+", "-", "*", "&", "<"] : List Str)) = isLone c := by
  have e : (["(", ")", "[", "]", ",", "=", "+", "-", "*", "&", "<"] : List Str) = [40, 41, 91, 93, 44, 61, 43, 45, 42, 38, 60].map fun c => SX.S [c] := rfl
  unfold isLone
  rw [e]
  refine decide_eq_decide.mpr ⟨fun h => ?_, fun h => List.mem_map_of_mem h⟩
  obtain ⟨d, hd, e2⟩ := List.mem_map.mp h
  have : [d] = [c] := congrArg (fun z : Str => z.cps.toList) e2
  injection this with this _
  rw [← this]; exact hd
def sp_token : Sp := fun vs H Q _ => ∃ (x : Str) (k c : Nat) (r : List Nat), vs = [.str x, .int (k : Int)] ∧ x.length ≤ 100000 ∧ x.cps.toList.drop k = c :: r ∧ PairAt H Q (c :: r)
theorem ok_token_at (T : Facts K mg w) : FnG P w K mg base 4 T.f_token_at T.d_token_at ["row", "column"] sp_token := by
  obtain ⟨tQ, c_QUOTE⟩ := T.c_QUOTE
  obtain ⟨tF, c_MOST_FIGURES⟩ := T.c_MOST_FIGURES
  refine fnG_of T.F_token_at sc_token_at (fun vs H Q E h => ?_) (fun cdv A outer s H vs Q hG hr h => ?_)
  · obtain ⟨c, _, _, _, rfl, _⟩ := h; rfl
  · obtain ⟨x, k, c, r, rfl, hx, hd, q⟩ := h
    refine ⟨_, (pss_cons (ps_set (i := 2) sc_token_at.nd rfl (.inl rfl) (pe_ix ix_str (pv 0) (pv 1) (fun _ _ => rfl)))
        (pss_cons (ps_if (pt_val (pe_go (ok_is_letter T) hG (hr.mono (by decide)) (by rfl) T.g_is_letter T.F_is_letter.kp T.b_is_letter (pa_cons (pv 2) pa_nil))) (pss_cons (ps_set (i := 3) sc_token_at.nd rfl (.inl rfl) (pe_go (ok_run_at T) hG (hr.mono (by decide)) (by rfl) T.g_run_at T.F_run_at.kp T.b_run_at (pa_cons (pv 0) (pa_cons (pv 1) (pa_cons (pe_glob (v := .ref T.f_is_letter) rfl T.g_is_letter rfl) pa_nil)))))
        (pss_one (ps_ret (pe_tup (pa_cons (pe_go (ok_letters_sort T) hG (hr.mono (by decide)) (by rfl) T.g_letters_sort T.F_letters_sort.kp T.b_letters_sort (pa_cons (pv 3) pa_nil)) (pa_cons (pv 3) pa_nil)))))) pss_nil)
        (pss_cons (ps_if (pt_val (pe_go (ok_is_figure T) hG (hr.mono (by decide)) (by rfl) T.g_is_figure T.F_is_figure.kp T.b_is_figure (pa_cons (pv 2) pa_nil))) (pss_cons (ps_set (i := 3) sc_token_at.nd rfl (.inl rfl) (pe_go (ok_run_at T) hG (hr.mono (by decide)) (by rfl) T.g_run_at T.F_run_at.kp T.b_run_at (pa_cons (pv 0) (pa_cons (pv 1) (pa_cons (pe_glob (v := .ref T.f_is_figure) rfl T.g_is_figure rfl) pa_nil)))))
        (pss_one (ps_ret (pe_tup (pa_cons (pe_ifExp (pt_cmpR op_le (pe_callB call_len_str (by rfl) T.n_len PySem.boot_len (pa_cons (pv 3) pa_nil)) (pe_glob (v := .int 6) rfl c_MOST_FIGURES ⟨_, rfl⟩) (nomark _)) pe_str pe_str) (pa_cons (pv 3) pa_nil)))))) pss_nil)
        (pss_cons (ps_if (pt_cmpR op_eq (pv 2) (pe_glob (v := .str "\"") rfl c_QUOTE ⟨_, rfl⟩) (nomark _)) (pss_one (ps_ret (pe_go (ok_quoted_at T) hG (hr.mono (by decide)) (by rfl) T.g_quoted_at T.F_quoted_at.kp T.b_quoted_at (pa_cons (pv 0) (pa_cons (pv 1) pa_nil))))) pss_nil)
        (pss_one (ps_ret (pe_tup (pa_cons (pe_ifExp (pt_cmpR op_in_seq (pv 2) (pe_glob (v := .ref T.C_LONE_SIGNS) rfl T.gC_LONE_SIGNS rfl) rfl) pe_str pe_str) (pa_cons (pv 2) pa_nil))))))))), ?_⟩
    have hsl : (1000000 : Nat) ≤ sizeLine := by decide
    have hxl : x.cps.toList.length = x.length := Array.length_toList
    have h1 := drop_succ hd
    have hc : x.cps.toList[k]? = some c := by
      have : (x.cps.toList.drop k)[0]? = some c := by rw [hd]; rfl
      rw [List.getElem?_drop] at this
      exact this
    have hlen : (c :: r).length ≤ x.length := by rw [← hd, List.length_drop]; omega
    have tl : ∀ p : Nat → Bool, ((c :: r).takeWhile p).length ≤ 100000 := fun p => Nat.le_trans (List.takeWhile_prefix (p := p)).length_le (by omega)
    refine ⟨_, rfl, _, rfl, x, _, c, rfl, rfl, by omega, atI_nat hc, ?_⟩
    refine ⟨_, rfl, c, rfl, _, rfl, ite2 (fun hL => ?_) (fun hL => ?_)⟩
    · refine ⟨_, rfl, _, rfl, x, k, _, isLet, rfl, by omega, by omega, .inl ⟨rfl, rfl⟩, ?_⟩
      rw [hd]
      refine ⟨_, rfl, (c :: r).takeWhile isLet, rfl, ?_, List.all_takeWhile, tl _, fun H' s1 => ?_⟩
      · rw [List.takeWhile_cons, if_pos hL]; simp
      · refine ⟨_, rfl, by show 2 ≤ sizeLine; decide, fun p hp => ?_⟩
        exact q p _ (s1.free hp) (s1.trans (same_new hp)) (by rw [tokAt_cons, if_pos hL]; exact upd_same)
    · refine ⟨_, rfl, c, rfl, _, rfl, ite2 (fun hF => ?_) (fun hF => ?_)⟩
      · refine ⟨_, rfl, _, rfl, x, k, _, isFig, rfl, by omega, by omega, .inr ⟨rfl, rfl⟩, ?_⟩
        rw [hd]
        have hs := SX.S_len ((c :: r).takeWhile isFig)
        have ht := tl isFig
        have et : tokAt (c :: r) = (if ((c :: r).takeWhile isFig).length ≤ 6 then ("number" : Str) else ("odd" : Str), (c :: r).takeWhile isFig) := by rw [tokAt_cons, if_neg hL, if_pos hF]
        refine ⟨_, rfl, _, rfl, by omega, _, _, rfl, rfl, _, rfl, ?_⟩
        rw [hs]
        by_cases h6 : ((c :: r).takeWhile isFig).length ≤ 6
        · rw [if_pos h6] at et
          rw [if_pos (decide_eq_true (by omega))]
          refine ⟨_, rfl, by show 2 ≤ sizeLine; decide, fun p hp => ?_⟩
          exact q p _ hp (same_new hp) (by rw [et]; exact upd_same)
        · rw [if_neg h6] at et
          rw [if_neg (by rw [decide_eq_false (by omega)]; decide)]
          refine ⟨_, rfl, by show 2 ≤ sizeLine; decide, fun p hp => ?_⟩
          exact q p _ hp (same_new hp) (by rw [et]; exact upd_same)
      · refine ⟨_, rfl, rfl, _, rfl, ?_⟩
        have eq : decide (V.str (SX.S [c]) = V.str "\"") = decide (c = 34) := decide_eq_decide.mpr ⟨fun h => by
          injection h with h
          have : [c] = [34] := congrArg (fun z : Str => z.cps.toList) h
          injection this, fun h => by subst h; exact congrArg V.str (TL.ext_tl rfl)⟩
        dsimp only
        show if decide (V.str (SX.S [c]) = V.str "\"") = true then _ else _
        rw [eq]
        by_cases h34 : c = 34
        · rw [if_pos (decide_eq_true h34)]
          subst h34
          exact ⟨_, rfl, _, rfl, x, k, r, rfl, hx, hd, q⟩
        · rw [if_neg (by rw [decide_eq_false h34]; decide)]
          have et : tokAt (c :: r) = (if isLone c then ("sign" : Str) else ("odd" : Str), [c]) := by rw [tokAt_cons, if_neg hL, if_neg hF, if_neg h34]
          refine ⟨_, rfl, _, _, rfl, .inr (T.S_LONE_SIGNS.sqT (by decide) H), rfl, flat_strs _, _, rfl, ?_⟩
          rw [if_neg (by decide), inV_strs]
          show if decide (SX.S [c] ∈ (["(", ")", "[", "]", ",", "=", "+", "-", "*", "&", "<"] : List Str)) = true then _ else _
          rw [lone_in]
          cases hl : isLone c with
          | true =>
            rw [hl] at et
            refine ⟨_, rfl, by show 2 ≤ sizeLine; decide, fun p hp => ?_⟩
            exact q p _ hp (same_new hp) (by rw [et]; exact upd_same)
          | false =>
            rw [hl] at et
            refine ⟨_, rfl, by show 2 ≤ sizeLine; decide, fun p hp => ?_⟩
            exact q p _ hp (same_new hp) (by rw [et]; exact upd_same)
def sp_tokens : Sp := fun vs H Q _ => ∃ x : Str, vs = [.str x] ∧ x.length ≤ 100000 ∧ ∀ p H', H p = none → Same H H' → TokL H' p (toks x.cps.toList 0) → Q (.ref p) H'
theorem ok_tokens (T : Facts K mg w) : FnG P w K mg base 5 T.f_tokens T.d_tokens ["row"] sp_tokens := by
  refine fnG_of T.F_tokens sc_tokens (fun vs H Q E h => ?_) (fun cdv A outer s H vs Q hG hr h => ?_)
  · obtain ⟨c, rfl, _⟩ := h; rfl
  · obtain ⟨x, rfl, hx, q⟩ := h
    refine ⟨_, (pss_cons (ps_set (i := 1) sc_tokens.nd rfl (.inl rfl) (pe_lst pa_nil))
        (pss_cons (ps_set (i := 2) sc_tokens.nd rfl (.inl rfl) pe_int)
        (pss_cons (ps_while PassesOwn.never (pt_cmpR op_lt (pv 2) (pe_callB call_len_str (by rfl) T.n_len PySem.boot_len (pa_cons (pv 0) pa_nil)) (nomark _)) (pss_one (ps_if (pt_cmpR op_eq (pe_ix ix_str (pv 0) (pv 2) (fun _ _ => rfl)) pe_str (nomark _)) (pss_one (ps_aug (i := 2) sc_tokens.nd rfl (.inl rfl) pe_int ip_add)) (pss_cons (ps_asg (pe_go (ok_token_at T) hG (hr.mono (by decide)) (by rfl) T.g_token_at T.F_token_at.kp T.b_token_at (pa_cons (pv 0) (pa_cons (pv 2) pa_nil))) (pg_tup rfl (pgs_cons (pg_name (i := 3) sc_tokens.nd rfl (.inl rfl)) (pgs_cons (pg_name (i := 4) sc_tokens.nd rfl (.inl rfl)) pgs_nil))))
        (pss_cons (ps_expr (pe_bm PySem.F.plainAttrs_list PySem.F.slot_list_append PySem.F.type_list_append mt_append (pv 1) (pa_cons (pe_tup (pa_cons (pv 3) (pa_cons (pv 4) (pa_cons (pv 2) pa_nil)))) pa_nil)))
        (pss_one (ps_aug (i := 2) sc_tokens.nd rfl (.inl rfl) (pe_callB call_len_str (by rfl) T.n_len PySem.boot_len (pa_cons (pv 4) pa_nil)) ip_add)))))))
        (pss_one (ps_ret (pv 1)))))), ?_⟩
    have hsl : (1000000 : Nat) ≤ sizeLine := by decide
    have hxl : x.cps.toList.length = x.length := Array.length_toList
    refine ⟨Nat.zero_le _, fun p hp => ?_⟩
    refine ⟨fun m σ' H' => ∃ (k : Nat) (as : List Addr) (ts : List Tkn) (y3 y4 : Option V), m + k = x.length ∧ as.length ≤ k ∧ H' p = some (.lst (as.map V.ref)) ∧ Paired (TokAt H') as ts ∧ Same H H' ∧ ts ++ toks (x.cps.toList.drop k) k = toks x.cps.toList 0 ∧ σ' = [some (.str x), some (.ref p), some (.int (k : Int)), y3, y4], ⟨x.length, 0, [], [], none, none, by omega, Nat.le_refl _, upd_same, .nil, same_new hp, rfl, rfl⟩, fun m σ' H' hP => ?_⟩
    obtain ⟨k, as, ts, y3, y4, hm, hal, ep, hpr, sm, htk, rfl⟩ := hP
    refine ⟨_, rfl, _, rfl, x, rfl, by omega, _, _, rfl, rfl, _, rfl, ite2 (fun h1 => ?_) (fun h1 => ?_)⟩
    · have h1 : (k : Int) < (x.length : Int) := of_decide_eq_true h1
      have hk : k < x.cps.toList.length := by omega
      have hd := List.drop_eq_getElem_cons hk
      obtain ⟨c, ec⟩ : ∃ c, x.cps.toList[k] = c := ⟨_, rfl⟩
      obtain ⟨r, er⟩ : ∃ r, x.cps.toList.drop (k + 1) = r := ⟨_, rfl⟩
      rw [ec, er] at hd
      have hc : x.cps.toList[k]? = some c := by rw [List.getElem?_eq_getElem hk, ec]
      refine ⟨_, fun _ _ h => h, _, rfl, _, rfl, x, _, c, rfl, rfl, by omega, atI_nat hc, rfl, _, rfl, ?_⟩
      have eq : decide (V.str (SX.S [c]) = V.str " ") = decide (c = 32) := decide_eq_decide.mpr ⟨fun h => by
          injection h with h
          have : [c] = [32] := congrArg (fun z : Str => z.cps.toList) h
          injection this, fun h => by subst h; exact congrArg V.str (TL.ext_tl rfl)⟩
      dsimp only
      show if decide (V.str (SX.S [c]) = V.str " ") = true then _ else _
      rw [eq]
      by_cases hb : c = 32
      · rw [if_pos (decide_eq_true hb)]
        subst hb
        refine ⟨_, rfl, _, _, rfl, rfl, ?_⟩
        refine ⟨m - 1, by omega, k + 1, as, ts, y3, y4, by omega, by omega, ep, hpr, sm, ?_, ?_⟩
        · rw [er, ← htk, hd, toks_blank]
        · rw [show (((k + 1 : Nat)) : Int) = (k : Int) + 1 by omega]; rfl
      · rw [if_neg (by rw [decide_eq_false hb]; decide)]
        have tln := tokAt_len c r
        have hrl : r.length + 1 + k = x.length := by
          have := congrArg List.length hd
          rw [List.length_drop, List.length_cons] at this
          omega
        refine ⟨_, rfl, _, rfl, x, k, c, r, rfl, hx, hd, fun p2 H2 hp2 s2 e2 => ?_⟩
        refine ⟨p2, _, rfl, SqT.of e2, rfl, _, _, rfl, _, _, rfl, rfl, ?_⟩
        have ep2 := s2 _ _ ep
        refine ⟨_, rfl, .inl ⟨rfl, _, SqL.of ep2⟩, _, rfl, _, rfl, _, rfl, by show 3 ≤ sizeLine; decide, fun p3 hp3 => ?_⟩
        have s3 := same_new (o := .tup [.str (tokAt (c :: r)).1, .str (SX.S (tokAt (c :: r)).2), .int (k : Int)]) hp3
        have e3 : (upd H2 p3 (.tup [.str (tokAt (c :: r)).1, .str (SX.S (tokAt (c :: r)).2), .int (k : Int)])) p3 = _ := upd_same
        have ep3 := s3 _ _ ep2
        have hp3' : p3 ≠ p := Ne.symm (ne_of_none ep2 hp3)
        generalize upd H2 p3 (.tup [.str (tokAt (c :: r)).1, .str (SX.S (tokAt (c :: r)).2), .int (k : Int)]) = H3 at s3 e3 ep3 ⊢
        have sA := s2.trans s3
        refine ⟨p, _, _, rfl, rfl, ep3, by rw [List.length_map]; omega, ?_⟩
        refine ⟨_, rfl, _, rfl, _, rfl, by rw [SX.S_len]; omega, _, _, rfl, rfl, ?_⟩
        have hpr2 : Paired (TokAt H3) (as ++ [p3]) (ts ++ [((tokAt (c :: r)).1, SX.S (tokAt (c :: r)).2, k)]) := snocT (keepT sA hpr) e3
        refine ⟨m - (tokAt (c :: r)).2.length, by omega, k + (tokAt (c :: r)).2.length, as ++ [p3], ts ++ [((tokAt (c :: r)).1, SX.S (tokAt (c :: r)).2, k)], some (.str (tokAt (c :: r)).1), some (.str (SX.S (tokAt (c :: r)).2)), by omega, ?_, ?_, ?_, ?_, ?_, ?_⟩
        · rw [List.length_append, List.length_singleton]; omega
        · rw [upd_same, List.map_append]; rfl
        · exact updT hpr2 (neT ep3 hpr2)
        · exact same_at (sm.trans sA) hp
        · rw [← htk, ← List.drop_drop, hd, toks_cons hb, List.append_assoc]; rfl
        · rw [SX.S_len, show (((k + (tokAt (c :: r)).2.length : Nat)) : Int) = (k : Int) + (((tokAt (c :: r)).2.length : Nat) : Int) by omega]; rfl
    · have h1 : ¬ (k : Int) < (x.length : Int) := fun h => h1 (decide_eq_true h)
      have hk : x.cps.toList.drop k = [] := List.drop_of_length_le (by omega)
      rw [hk, toks_nil, List.append_nil] at htk
      exact ⟨_, rfl, q p H' hp sm (htk ▸ ⟨as, ep, hpr⟩)⟩
end K12

set_option maxHeartbeats 4000000
/-! Tq: a row is its tokens and blanks between. -/
namespace Tk
open PySem PySem.Spec PyProof.Rows L2 Gx
/-- blanks alone stand between e and the first token, between the tokens, and behind the last -/
def Gaps (R : List Nat) : Nat → List Tkn → Prop
  | e, [] => ∀ c ∈ R.drop e, c = 32
  | e, t :: ts => (∀ c ∈ (R.take t.2.2).drop e, c = 32) ∧ Gaps R (t.2.2 + t.2.1.length) ts
theorem gaps_toks (R : List Nat) : ∀ (n : Nat) (l : List Nat) (k e : Nat), l.length ≤ n → R.drop k = l → e ≤ k → (∀ c ∈ (R.take k).drop e, c = 32) → Gaps R e (toks l k)
  | n, [], k, e, _, hd, hek, hb => by
    rw [toks_nil]
    have hk : R.length ≤ k := List.drop_eq_nil_iff.mp hd
    rw [List.take_of_length_le hk] at hb
    exact hb
  | 0, c :: r, _, _, hn, _, _, _ => by simp at hn
  | n + 1, c :: r, k, e, hn, hd, hek, hb => by
    have hr : r.length ≤ n := by rw [List.length_cons] at hn; omega
    have hlen : (c :: r).length = R.length - k := by rw [← hd, List.length_drop]
    rw [List.length_cons] at hlen
    by_cases e32 : c = 32
    · subst e32
      rw [toks_blank]
      have hd1 : R.drop (k + 1) = r := by rw [← List.drop_drop, hd]; rfl
      have hg : R[k]? = some 32 := by
        have := congrArg (fun l => l[0]?) hd
        simpa [List.getElem?_drop] using this
      refine gaps_toks R n r (k + 1) e hr hd1 (by omega) fun c hc => ?_
      rw [List.take_add_one, hg, List.drop_append_of_le_length (by rw [List.length_take]; omega)] at hc
      rcases List.mem_append.mp hc with h | h
      · exact hb c h
      · simpa using h
    · have t := tokAt_len c r
      rw [toks_cons e32]
      refine ⟨hb, ?_⟩
      show Gaps R (k + (SX.S (tokAt (c :: r)).2).length) _
      rw [SX.S_len]
      refine gaps_toks R n _ _ _ (by rw [List.length_drop, List.length_cons]; omega) (by rw [← hd, List.drop_drop]) (Nat.le_refl _) fun c hc => ?_
      rw [List.drop_of_length_le (by rw [List.length_take]; omega)] at hc
      exact absurd hc List.not_mem_nil
theorem toks_at (R : List Nat) : ∀ (n : Nat) (l : List Nat) (k : Nat), l.length ≤ n → R.drop k = l → ∀ t ∈ toks l k, SX.S ((R.drop t.2.2).take t.2.1.length) = t.2.1 ∧ t.2.2 + t.2.1.length ≤ R.length
  | n, [], k, _, _, t, ht => absurd ht List.not_mem_nil
  | 0, c :: r, _, hn, _, _, _ => by simp at hn
  | n + 1, c :: r, k, hn, hd, t, ht => by
    have hr : r.length ≤ n := by rw [List.length_cons] at hn; omega
    have hlen : (c :: r).length = R.length - k := by rw [← hd, List.length_drop]
    rw [List.length_cons] at hlen
    by_cases e32 : c = 32
    · subst e32
      rw [toks_blank] at ht
      have hd1 : R.drop (k + 1) = r := by rw [← List.drop_drop, hd]; rfl
      exact toks_at R n r (k + 1) hr hd1 t ht
    · have tl := tokAt_len c r
      rw [toks_cons e32] at ht
      rcases List.mem_cons.mp ht with rfl | ht
      · dsimp only
        rw [SX.S_len, hd, tl.2.2]
        exact ⟨rfl, by omega⟩
      · exact toks_at R n _ _ (by rw [List.length_drop, List.length_cons]; omega) (by rw [← hd, List.drop_drop]) t ht
theorem gap_get (R : List Nat) : ∀ (ts : List Tkn) (e i a b : Nat), Gaps R e ts → (e :: ts.map fun t => t.2.2 + t.2.1.length)[i]? = some a → ((ts.map fun t => t.2.2) ++ [R.length])[i]? = some b → ∀ c ∈ (R.take b).drop a, c = 32
  | [], e, 0, a, b, h, ha, hb => by
    simp at ha hb; subst ha hb
    rw [List.take_length]; exact h
  | [], e, i + 1, a, b, h, ha, hb => by simp at ha
  | t :: ts, e, 0, a, b, h, ha, hb => by
    simp at ha hb; subst ha hb
    exact h.1
  | t :: ts, e, i + 1, a, b, h, ha, hb => gap_get R ts _ i a b h.2 (by simpa using ha) (by simpa using hb)
theorem strip_blank {x y : Str} (h : ∀ c ∈ x.cps.toList, c ∈ y.cps.toList) : Txt.stripChars x y = SX.S [] := by
  have hl : x.cps.toList.length = x.length := Array.length_toList
  refine S_eq ?_
  unfold Txt.stripChars
  rw [stripBy_eq, strSub_mk]
  have e0 : x.cps.toList.takeWhile y.cps.contains = x.cps.toList := by
    have tw : ∀ (p : Nat → Bool) (l : List Nat), (∀ c ∈ l, p c = true) → l.takeWhile p = l := fun p l => by
      induction l with
      | nil => exact fun _ => rfl
      | cons a l ih => exact fun q => by rw [List.takeWhile_cons, if_pos (q a List.mem_cons_self), ih fun c hc => q c (List.mem_cons_of_mem _ hc)]
    exact tw _ _ fun c hc => by
      rw [Array.contains_iff_mem, ← Array.mem_toList_iff]
      exact h c hc
  have e1 : stripLo y.cps.contains true x = x.length := by
    simp only [stripLo, if_true]; rw [e0, hl]
  rw [e1]
  show ((x.cps.toList.drop x.length).take _) = _
  rw [List.drop_of_length_le (by omega)]; exact List.take_nil
section
variable {X : Cx} {K : PySem.W.Frag} {o e : Expr} {es : List Expr} {to : TE} {t : TA} {name : Str} {apos cpos : Pos} {T id : String} {r : V → List V → Hp → VK → Prop}
/-- a method's call within a comprehension: the context's K by its own name -/
theorem pe_bmK (hK : X.K = K) (pa : PlainAttrs T) (slot : Slot T name id) (hty : typeOf (.builtin id) = pure (.type "method_descriptor")) (hm : MtR X id r) (ho : PE X o to) (ha : PA X (e :: es) t)
    (hbase : attributeBase o name X.env (eval o X.env) = eval o X.env := by rfl)
    (hfew : ((backTo cpos (starEach (e :: es) X.env)).all (fun x => !x.1) && (backToKw cpos (keywordEach [] X.env)).all (fun x => x.1.isSome)
      && decide ((e :: es).length + ([] : List Keyword).length + (if ([] : List Keyword).isEmpty then 0 else 1) < 30)) = true := by rfl)
    (hline : (apos.endLine == cpos.line) = true := by rfl) (hs : starEach (e :: es) X.env = (false, eval e X.env) :: starEach es X.env := by rfl) (hplain : (backTo cpos (starEach es X.env)).any (·.1) = false := by rfl) :
    PE X (.Call (.Attribute o name apos) (e :: es) [] cpos) (tBM K T r to t) := hK ▸ pe_bm pa slot hty hm ho ha hbase hfew hline hs hplain
end
/-! ### lists of tokens -/
theorem paired_get {F : Addr → Tkn → Prop} : ∀ {as : List Addr} {ts : List Tkn} {i : Nat} {a : Addr}, Paired F as ts → as[i]? = some a → ∃ t, ts[i]? = some t ∧ F a t
  | _, _, i, _, .nil, h => by simp at h
  | _, _, 0, _, .cons x _, h => by
    simp only [List.getElem?_cons_zero, Option.some.injEq] at h
    subst h; exact ⟨_, rfl, x⟩
  | _, _, i + 1, _, .cons _ xs, h => by
    obtain ⟨t, h1, h2⟩ := paired_get (i := i) xs (by simpa using h)
    exact ⟨t, by simpa using h1, h2⟩
theorem paired_len {F : Addr → Tkn → Prop} : ∀ {as : List Addr} {ts : List Tkn}, Paired F as ts → as.length = ts.length
  | _, _, .nil => rfl
  | _, _, .cons _ xs => by rw [List.length_cons, List.length_cons, paired_len xs]
def tokD (t : Tkn) : PyData := .tuple [.str t.1, .str t.2.1, .int (t.2.2 : Int)]
theorem dp_toks {K : PySem.W.Frag} {H : Hp} : ∀ {as : List Addr} {ts : List Tkn}, Paired (TokAt H) as ts → DpAll K H (as.map V.ref) (ts.map tokD)
  | _, _, .nil => .nil
  | _, _, .cons x xs => .cons (.tup (SqT.of x) (.cons (.str _) (.cons (.str _) (.cons (.int _) .nil)))) (dp_toks xs)
theorem dp_tokL {K : PySem.W.Frag} {H : Hp} {p : Addr} {ts : List Tkn} (h : TokL H p ts) : Dp K H (.ref p) (.list (ts.map tokD)) := by
  obtain ⟨as, e, hp⟩ := h
  exact .lst (SqL.of e) (dp_toks hp)
theorem sm_toks {ts : List Tkn} (h : ts.length ≤ 1000) : Sm 5 (.list (ts.map tokD)) := by
  refine .inr (.inr (.inr ⟨_, .inl rfl, by rw [List.length_map]; exact h, fun e he => ?_⟩))
  obtain ⟨t, _, rfl⟩ := List.mem_map.mp he
  refine .inr (.inr (.inr ⟨_, .inr rfl, by show 3 ≤ 1000; decide, fun e he => ?_⟩))
  simp only [List.mem_cons, List.not_mem_nil, or_false] at he
  rcases he with rfl | rfl | rfl
  · exact .inr (.inr (.inl ⟨_, rfl⟩))
  · exact .inr (.inr (.inl ⟨_, rfl⟩))
  · exact .inr (.inl ⟨_, rfl⟩)
theorem TokL.same {H H' : Hp} {p : Addr} {ts : List Tkn} (h : TokL H p ts) (s : Same H H') : TokL H' p ts := by
  obtain ⟨as, e, hp⟩ := h
  exact ⟨as, s _ _ e, keepT s hp⟩
/-- [e for .., .., .. in tokens] -/
theorem lc_tok {K : PySem.W.Frag} {g : TG} {te te0 : TE} {vs : List Nat} {σ : L2.St} {H : Hp} {Q : VK} {u : Addr} {ts : List Tkn} (f : Tkn → V) (σt : Tkn → L2.St) (h0 : ∀ Qn : VK, Qn (.ref u) H → te0 σ H Qn) (hl : TokL H u ts) (hx : ts.length ≤ 1000000)
    (hg : ∀ a t H' (Qn : L2.St → Hp → Prop), TokAt H' a t → Qn (σt t) H' → g (.ref a) (wipe σ vs) H' Qn) (hw : ∀ t, wipe (σt t) vs = wipe σ vs)
    (hs : ∀ t H', t ∈ ts → Same H H' → ∀ Qv : VK, (∀ H'', Same H' H'' → Qv (f t) H'') → te (σt t) H' Qv)
    (hd : ∀ D H', H D = none → Same H H' → H' D = some (.lst (ts.map f)) → Q (.ref D) H') : tLc (iList K te0) g tYes te vs σ H Q := by
  obtain ⟨as, eu, hp⟩ := hl
  have hal := paired_len hp
  refine h0 _ ⟨u, rfl, ⟨_, SqL.of eu⟩, fun D hD => ?_⟩
  have hsl : (1000000 : Nat) < sizeLine := by decide
  refine lc_it (walk_list (xs := as.map V.ref)) (fun i H2 => Same H H2 ∧ H2 D = some (.lst ((ts.take i).map f))) ⟨same_new hD, upd_same⟩ (fun i H2 _ hP => SqL.of (hP.1 _ _ eu)) (fun i v H2 H3 hi hP hy => ?_) (fun H2 hP => ?_)
  · obtain ⟨rfl, hv⟩ := hy
    obtain ⟨s, eD⟩ := hP
    rw [List.getElem?_map] at hv
    obtain ⟨a, ha, rfl⟩ := Option.map_eq_some_iff.mp hv
    obtain ⟨t, ht, hta⟩ := paired_get hp ha
    refine hg a t _ _ (s _ _ hta) ⟨hw t, ?_⟩
    unfold tYes
    dsimp only
    rw [if_pos rfl]
    refine hs t _ (List.mem_of_getElem? ht) s _ fun H4 s4 => ⟨_, s4 _ _ eD, by rw [List.length_map, List.length_take]; omega, same_at (s.trans s4) hD, ?_⟩
    rw [upd_same, List.take_add_one, ht, List.map_append]; rfl
  · obtain ⟨s, eD⟩ := hP
    rw [List.length_map, hal, List.take_length] at eD
    exact hd D H2 hD s eD
end Tk

set_option maxHeartbeats 4000000
/-! Tr: how a row is read as a tree: a relation, and that it tells one thing alone. -/
namespace Tr
open PySem PySem.Spec PyProof.Rows L2 Gx Tk
/-- where the reader is: the number of the next token, what was wanting so far -/
structure RS where
  at_ : Nat
  stops : List (Str × Nat × Str)
def sortAt (ts : List Tkn) (s : RS) : Str := match ts[s.at_]? with | some t => t.1 | none => ""
def textAt (ts : List Tkn) (s : RS) : Str := match ts[s.at_]? with | some t => t.2.1 | none => ""
def step (s : RS) : RS := ⟨s.at_ + 1, s.stops⟩
def stop (word text : Str) (s : RS) : RS := ⟨s.at_, s.stops ++ [(word, s.at_, text)]⟩
def sign (ts : List Tkn) (text : Str) (s : RS) : RS := if textAt ts s = text then step s else stop "sign" text s
def opsW : List Str := ["+", "-", "*", "&", "=", "<", "at"]
inductive Kd | lone | name | sq | rd | iff | hole deriving DecidableEq
/-- what a single part begins with -/
def kd (ts : List Tkn) (s : RS) : Kd :=
  if sortAt ts s = "number" ∨ sortAt ts s = "word" ∨ textAt ts s = "yes" ∨ textAt ts s = "no" then .lone
  else if sortAt ts s = "name" then .name
  else if textAt ts s = "[" then .sq
  else if textAt ts s = "(" then .rd
  else if textAt ts s = "if" then .iff
  else .hole
def dN (n : Nat) : PyData := .int (n : Int)
inductive Md | single | part | ops (d : PyData) | parts (e : Str) | more (ds : List PyData)
inductive Rd (ts : List Tkn) : Md → RS → List PyData → RS → Prop
  | lone {s} : kd ts s = .lone → Rd ts .single s [.tuple [.str "lone", dN s.at_]] (step s)
  | name {s} : kd ts s = .name → textAt ts (step s) ≠ "(" → Rd ts .single s [.tuple [.str "name", dN s.at_]] (step s)
  | call {s ds s1} : kd ts s = .name → textAt ts (step s) = "(" → Rd ts (.parts ")") (step (step s)) ds s1 → Rd ts .single s [.tuple [.str "call", dN s.at_, .tuple ds]] s1
  | sq {s ds s1} : kd ts s = .sq → Rd ts (.parts "]") (step s) ds s1 → Rd ts .single s [.tuple [.str "list", dN s.at_, .tuple ds]] s1
  | rd {s d s1} : kd ts s = .rd → Rd ts .part (step s) [d] s1 → Rd ts .single s [.tuple [.str "round", dN s.at_, d]] (sign ts ")" s1)
  | iff {s a b c s1 s2 s3} : kd ts s = .iff → Rd ts .part (step s) [a] s1 → Rd ts .part (sign ts "then" s1) [b] s2 → Rd ts .part (sign ts "else" s2) [c] s3 → Rd ts .single s [.tuple [.str "if", dN s.at_, a, b, c]] s3
  | hole {s} : kd ts s = .hole → Rd ts .single s [.tuple [.str "hole", dN s.at_]] (stop "part" "" s)
  | part {s d s1 d' s2} : Rd ts .single s [d] s1 → Rd ts (.ops d) s1 [d'] s2 → Rd ts .part s [d'] s2
  | opsEnd {s d} : textAt ts s ∉ opsW → Rd ts (.ops d) s [d] s
  | opsMore {s d d2 s1 d' s2} : textAt ts s ∈ opsW → Rd ts .single (step s) [d2] s1 → Rd ts (.ops (.tuple [.str "op", dN s.at_, d, d2])) s1 [d'] s2 → Rd ts (.ops d) s [d'] s2
  | parts {s e d s1 ds s2} : Rd ts .part s [d] s1 → Rd ts (.more [d]) s1 ds s2 → Rd ts (.parts e) s ds (sign ts e s2)
  | moreEnd {s ds} : textAt ts s ≠ "," → Rd ts (.more ds) s ds s
  | moreMore {s ds d s1 ds' s2} : textAt ts s = "," → Rd ts .part (step s) [d] s1 → Rd ts (.more (ds ++ [d])) s1 ds' s2 → Rd ts (.more ds) s ds' s2
theorem Rd.det {ts : List Tkn} {m : Md} {s : RS} {r : List PyData} {s1 : RS} (h : Rd ts m s r s1) : ∀ {r' : List PyData} {s2 : RS}, Rd ts m s r' s2 → r = r' ∧ s1 = s2 := by
  induction h with
  | lone k => intro r' s2 h'; cases h' <;> simp_all
  | name k t => intro r' s2 h'; cases h' <;> simp_all
  | call k t _ ih => intro r' s2 h'; cases h' with
    | call k' t' x => obtain ⟨rfl, rfl⟩ := ih x; exact ⟨rfl, rfl⟩
    | name k' t' => exact absurd t t'
    | lone k' => rw [k] at k'; cases k'
    | sq k' => rw [k] at k'; cases k'
    | rd k' => rw [k] at k'; cases k'
    | iff k' => rw [k] at k'; cases k'
    | hole k' => rw [k] at k'; cases k'
  | sq k _ ih => intro r' s2 h'; cases h' with
    | sq k' x => obtain ⟨rfl, rfl⟩ := ih x; exact ⟨rfl, rfl⟩
    | name k' => rw [k] at k'; cases k'
    | call k' => rw [k] at k'; cases k'
    | lone k' => rw [k] at k'; cases k'
    | rd k' => rw [k] at k'; cases k'
    | iff k' => rw [k] at k'; cases k'
    | hole k' => rw [k] at k'; cases k'
  | rd k _ ih => intro r' s2 h'; cases h' with
    | rd k' x => obtain ⟨e, rfl⟩ := ih x; cases e; exact ⟨rfl, rfl⟩
    | name k' => rw [k] at k'; cases k'
    | call k' => rw [k] at k'; cases k'
    | lone k' => rw [k] at k'; cases k'
    | sq k' => rw [k] at k'; cases k'
    | iff k' => rw [k] at k'; cases k'
    | hole k' => rw [k] at k'; cases k'
  | iff k _ _ _ ih1 ih2 ih3 => intro r' s2 h'; cases h' with
    | iff k' x y z =>
      obtain ⟨e, rfl⟩ := ih1 x; cases e
      obtain ⟨e, rfl⟩ := ih2 y; cases e
      obtain ⟨e, rfl⟩ := ih3 z; cases e
      exact ⟨rfl, rfl⟩
    | name k' => rw [k] at k'; cases k'
    | call k' => rw [k] at k'; cases k'
    | lone k' => rw [k] at k'; cases k'
    | sq k' => rw [k] at k'; cases k'
    | rd k' => rw [k] at k'; cases k'
    | hole k' => rw [k] at k'; cases k'
  | hole k => intro r' s2 h'; cases h' <;> simp_all
  | part _ _ ih1 ih2 => intro r' s2 h'; cases h' with
    | part x y =>
      obtain ⟨e, rfl⟩ := ih1 x; cases e
      exact ih2 y
  | opsEnd t => intro r' s2 h'; cases h' with
    | opsEnd _ => exact ⟨rfl, rfl⟩
    | opsMore t' => exact absurd t' t
  | opsMore t _ _ ih1 ih2 => intro r' s2 h'; cases h' with
    | opsEnd t' => exact absurd t t'
    | opsMore t' x y =>
      obtain ⟨e, rfl⟩ := ih1 x; cases e
      exact ih2 y
  | parts _ _ ih1 ih2 => intro r' s2 h'; cases h' with
    | parts x y =>
      obtain ⟨e, rfl⟩ := ih1 x; cases e
      obtain ⟨rfl, rfl⟩ := ih2 y
      exact ⟨rfl, rfl⟩
  | moreEnd t => intro r' s2 h'; cases h' with
    | moreEnd _ => exact ⟨rfl, rfl⟩
    | moreMore t' => exact absurd t' t
  | moreMore t _ _ ih1 ih2 => intro r' s2 h'; cases h' with
    | moreEnd t' => exact absurd t t'
    | moreMore t' x y =>
      obtain ⟨e, rfl⟩ := ih1 x; cases e
      exact ih2 y
theorem text_lt {ts : List Tkn} {s : RS} (h : textAt ts s ≠ "") : s.at_ < ts.length := by
  unfold textAt at h
  rcases Nat.lt_or_ge s.at_ ts.length with q | q
  · exact q
  · rw [List.getElem?_eq_none q] at h; exact absurd rfl h
theorem sort_lt {ts : List Tkn} {s : RS} (h : sortAt ts s ≠ "") : s.at_ < ts.length := by
  unfold sortAt at h
  rcases Nat.lt_or_ge s.at_ ts.length with q | q
  · exact q
  · rw [List.getElem?_eq_none q] at h; exact absurd rfl h
theorem kd_lt {ts : List Tkn} {s : RS} (h : kd ts s ≠ .hole) : s.at_ < ts.length := by
  unfold kd at h
  split at h
  · rename_i q
    rcases q with q | q | q | q
    · exact sort_lt (by rw [q]; decide +kernel)
    · exact sort_lt (by rw [q]; decide +kernel)
    · exact text_lt (by rw [q]; decide +kernel)
    · exact text_lt (by rw [q]; decide +kernel)
  · split at h
    · rename_i q; exact sort_lt (by rw [q]; decide +kernel)
    · split at h
      · rename_i q; exact text_lt (by rw [q]; decide +kernel)
      · split at h
        · rename_i q; exact text_lt (by rw [q]; decide +kernel)
        · split at h
          · rename_i q; exact text_lt (by rw [q]; decide +kernel)
          · exact absurd rfl h
theorem op_lt' {ts : List Tkn} {s : RS} (h : textAt ts s ∈ opsW) : s.at_ < ts.length := text_lt fun e => by
  rw [e] at h
  exact absurd h (by decide +kernel)
/-- what a reading may add to the stops, each token behind it counting eight -/
def grow : Md → Nat
  | .single => 1
  | .part => 1
  | .ops _ => 0
  | .parts _ => 2
  | .more _ => 0
def phi (ts : List Tkn) (s : RS) : Nat := s.stops.length + 8 * (ts.length - s.at_)
theorem sign_phi (ts : List Tkn) {e : Str} (he : e ≠ "") (s : RS) (hs : s.at_ ≤ ts.length) : (sign ts e s).at_ ≤ ts.length ∧ s.at_ ≤ (sign ts e s).at_ ∧ phi ts (sign ts e s) ≤ phi ts s + 1 := by
  unfold sign
  split
  · rename_i h
    have := text_lt (ts := ts) (s := s) (by rw [h]; exact he)
    refine ⟨this, Nat.le_succ _, ?_⟩
    show s.stops.length + 8 * (ts.length - (s.at_ + 1)) ≤ s.stops.length + 8 * (ts.length - s.at_) + 1
    omega
  · refine ⟨hs, Nat.le_refl _, ?_⟩
    show (s.stops ++ ([("sign", s.at_, e)] : List (Str × Nat × Str))).length + 8 * (ts.length - s.at_) ≤ s.stops.length + 8 * (ts.length - s.at_) + 1
    rw [List.length_append]; show _ + 1 + _ ≤ _; omega
theorem step_phi {ts : List Tkn} {s : RS} (h : s.at_ < ts.length) : (step s).at_ ≤ ts.length ∧ s.at_ + 1 = (step s).at_ ∧ phi ts (step s) + 8 = phi ts s := by
  refine ⟨h, rfl, ?_⟩
  show s.stops.length + 8 * (ts.length - (s.at_ + 1)) + 8 = s.stops.length + 8 * (ts.length - s.at_)
  omega
/-- endings of lists of parts are written -/
def MdOk : Md → Prop
  | .parts e => e ≠ ""
  | _ => True
theorem Rd.phi {ts : List Tkn} {m : Md} {s : RS} {r : List PyData} {s1 : RS} (h : Rd ts m s r s1) : MdOk m → s.at_ ≤ ts.length → s1.at_ ≤ ts.length ∧ s.at_ ≤ s1.at_ ∧ Tr.phi ts s1 ≤ Tr.phi ts s + grow m := by
  induction h with
  | lone k => intro _ hs; have q := step_phi (kd_lt (by rw [k]; decide)); unfold grow; omega
  | name k t => intro _ hs; have q := step_phi (kd_lt (by rw [k]; decide)); unfold grow; omega
  | call k t _ ih =>
    intro _ hs
    have q := step_phi (kd_lt (by rw [k]; decide))
    have q2 := step_phi (text_lt (ts := ts) (by rw [t]; decide +kernel))
    have q3 := ih (by show _ ≠ _; decide +kernel) q2.1
    unfold grow at q3 ⊢
    dsimp only at q3 ⊢
    omega
  | sq k _ ih =>
    intro _ hs
    have q := step_phi (kd_lt (by rw [k]; decide))
    have q3 := ih (by show _ ≠ _; decide +kernel) q.1
    unfold grow at q3 ⊢
    dsimp only at q3 ⊢
    omega
  | rd k _ ih =>
    intro _ hs
    have q := step_phi (kd_lt (by rw [k]; decide))
    have q3 := ih trivial q.1
    have q4 := sign_phi ts (e := ")") (by decide +kernel) _ q3.1
    unfold grow at q3 ⊢
    dsimp only at q3 ⊢
    omega
  | iff k _ _ _ ih1 ih2 ih3 =>
    intro _ hs
    have q := step_phi (kd_lt (by rw [k]; decide))
    have q1 := ih1 trivial q.1
    have q2 := sign_phi ts (e := "then") (by decide +kernel) _ q1.1
    have q3 := ih2 trivial q2.1
    have q4 := sign_phi ts (e := "else") (by decide +kernel) _ q3.1
    have q5 := ih3 trivial q4.1
    unfold grow at q1 q3 q5 ⊢
    dsimp only at q1 q3 q5 ⊢
    omega
  | @hole s0 k =>
    intro _ hs
    refine ⟨hs, Nat.le_refl _, ?_⟩
    show (s0.stops ++ ([("part", s0.at_, "")] : List (Str × Nat × Str))).length + 8 * (ts.length - s0.at_) ≤ s0.stops.length + 8 * (ts.length - s0.at_) + 1
    rw [List.length_append]; show _ + 1 + _ ≤ _; omega
  | part _ _ ih1 ih2 =>
    intro _ hs
    have q1 := ih1 trivial hs
    have q2 := ih2 trivial q1.1
    unfold grow at q1 q2 ⊢
    dsimp only at q1 q2 ⊢
    omega
  | opsEnd t => intro _ hs; exact ⟨hs, Nat.le_refl _, Nat.le_add_right _ _⟩
  | opsMore t _ _ ih1 ih2 =>
    intro _ hs
    have q := step_phi (op_lt' t)
    have q1 := ih1 trivial q.1
    have q2 := ih2 trivial q1.1
    unfold grow at q1 q2 ⊢
    dsimp only at q1 q2 ⊢
    omega
  | parts _ _ ih1 ih2 =>
    intro hm hs
    have q1 := ih1 trivial hs
    have q2 := ih2 trivial q1.1
    have q4 := sign_phi ts hm _ q2.1
    unfold grow at q1 q2 ⊢
    dsimp only at q1 q2 ⊢
    omega
  | moreEnd t => intro _ hs; exact ⟨hs, Nat.le_refl _, Nat.le_add_right _ _⟩
  | moreMore t _ _ ih1 ih2 =>
    intro _ hs
    have q := step_phi (text_lt (ts := ts) (by rw [t]; decide +kernel))
    have q1 := ih1 trivial q.1
    have q2 := ih2 trivial q1.1
    unfold grow at q1 q2 ⊢
    dsimp only at q1 q2 ⊢
    omega
end Tr

set_option maxHeartbeats 4000000
/-! Th: trees on the heap, a reader on the heap. -/
namespace Tr
open PySem PySem.Spec PyProof.Rows L2 Gx Tk
mutual
/-- v is a tree of tuples, numbers, texts, None -/
inductive TrV (H : Hp) : V → PyData → Prop
  | int (i : Int) : TrV H (.int i) (.int i)
  | str (x : Str) : TrV H (.str x) (.str x)
  | non : TrV H .non .none
  | tup {p : Addr} {vs : List V} {ds : List PyData} : H p = some (.tup vs) → TrA H vs ds → TrV H (.ref p) (.tuple ds)
inductive TrA (H : Hp) : List V → List PyData → Prop
  | nil : TrA H [] []
  | cons {v : V} {vs : List V} {d : PyData} {ds : List PyData} : TrV H v d → TrA H vs ds → TrA H (v :: vs) (d :: ds)
end
mutual
theorem TrV.keep {H H' : Hp} (k : ∀ p vs, H p = some (.tup vs) → H' p = some (.tup vs)) : ∀ {v : V} {d : PyData}, TrV H v d → TrV H' v d
  | _, _, .int i => .int i
  | _, _, .str x => .str x
  | _, _, .non => .non
  | _, _, .tup e a => .tup (k _ _ e) (TrA.keep k a)
theorem TrA.keep {H H' : Hp} (k : ∀ p vs, H p = some (.tup vs) → H' p = some (.tup vs)) : ∀ {vs : List V} {ds : List PyData}, TrA H vs ds → TrA H' vs ds
  | _, _, .nil => .nil
  | _, _, .cons a b => .cons (TrV.keep k a) (TrA.keep k b)
end
mutual
theorem TrV.dp {K : PySem.W.Frag} {H : Hp} : ∀ {v : V} {d : PyData}, TrV H v d → Dp K H v d
  | _, _, .int i => .int i
  | _, _, .str x => .str x
  | _, _, .non => .non
  | _, _, .tup e a => .tup (SqT.of e) (TrA.dp a)
theorem TrA.dp {K : PySem.W.Frag} {H : Hp} : ∀ {vs : List V} {ds : List PyData}, TrA H vs ds → DpAll K H vs ds
  | _, _, .nil => .nil
  | _, _, .cons a b => .cons (TrV.dp a) (TrA.dp b)
end
theorem TrA.snoc {H : Hp} : ∀ {vs : List V} {ds : List PyData} {v : V} {d : PyData}, TrA H vs ds → TrV H v d → TrA H (vs ++ [v]) (ds ++ [d])
  | _, _, _, _, .nil, h => .cons h .nil
  | _, _, _, _, .cons a b, h => .cons a (TrA.snoc b h)
/-- all but what stands at a and at sl is as it was -/
def Fr (a sl : Addr) (H H' : Hp) : Prop := ∀ b o, b ≠ a → b ≠ sl → H b = some o → H' b = some o
theorem Fr.refl {a sl : Addr} {H : Hp} : Fr a sl H H := fun _ _ _ _ h => h
theorem Fr.trans {a sl : Addr} {H H1 H2 : Hp} (x : Fr a sl H H1) (y : Fr a sl H1 H2) : Fr a sl H H2 := fun b o h1 h2 h => y b o h1 h2 (x b o h1 h2 h)
theorem Fr.of {a sl : Addr} {H H' : Hp} (s : Same H H') : Fr a sl H H' := fun b o _ _ h => s b o h
/-- a list of stops at sl -/
def StopAt (H : Hp) (p : Addr) (t : Str × Nat × Str) : Prop := H p = some (.tup [.str t.1, .int (t.2.1 : Int), .str t.2.2])
def StopL (H : Hp) (sl : Addr) (ss : List (Str × Nat × Str)) : Prop := ∃ as : List Addr, H sl = some (.lst (as.map V.ref)) ∧ Paired (StopAt H) as ss
/-- a reader at a: of the class at C, its tokens ts at f, its stops at sl -/
structure IsR (C f sl dx : Addr) (ts : List Tkn) (H : Hp) (a : Addr) (s : RS) : Prop where
  at_ : H a = some (.ins C dx [("found", .ref f), ("at", .int (s.at_ : Int)), ("stops", .ref sl)])
  found : TokL H f ts
  stops : StopL H sl s.stops
  nf : f ≠ sl
theorem IsR.na {C f sl dx : Addr} {ts : List Tkn} {H : Hp} {a : Addr} {s : RS} (h : IsR C f sl dx ts H a s) : a ≠ sl ∧ a ≠ f := by
  obtain ⟨as, e, _⟩ := h.stops
  obtain ⟨bs, e2, _⟩ := h.found
  refine ⟨fun z => ?_, fun z => ?_⟩
  · rw [← z, h.at_] at e; cases e
  · rw [← z, h.at_] at e2; cases e2
theorem Fr.tup {a sl C f dx : Addr} {ts : List Tkn} {s : RS} {H H' : Hp} (x : Fr a sl H H') (r : IsR C f sl dx ts H a s) : ∀ p vs, H p = some (.tup vs) → H' p = some (.tup vs) := fun p vs e => by
  obtain ⟨as, e2, _⟩ := r.stops
  exact x p _ (fun z => by rw [z, r.at_] at e; cases e) (fun z => by rw [z, e2] at e; cases e) e
theorem plen {α : Type} {F : Addr → α → Prop} : ∀ {as : List Addr} {ts : List α}, Paired F as ts → as.length = ts.length
  | _, _, .nil => rfl
  | _, _, .cons _ t => by rw [List.length_cons, List.length_cons, plen t]
theorem pkeep {α : Type} {F G : Addr → α → Prop} (k : ∀ p t, F p t → G p t) : ∀ {as : List Addr} {ts : List α}, Paired F as ts → Paired G as ts
  | _, _, .nil => .nil
  | _, _, .cons h t => .cons (k _ _ h) (pkeep k t)
theorem IsR.same {C f sl dx : Addr} {ts : List Tkn} {H H' : Hp} {a : Addr} {s : RS} (h : IsR C f sl dx ts H a s) (x : Same H H') : IsR C f sl dx ts H' a s := by
  obtain ⟨as, e, q⟩ := h.stops
  exact ⟨x _ _ h.at_, h.found.same x, ⟨as, x _ _ e, pkeep (fun p t => x _ _) q⟩, h.nf⟩
end Tr

set_option maxHeartbeats 4000000
/-! Tw: how a whole row is read. -/
namespace Tr
open PySem PySem.Spec PyProof.Rows L2 Gx Tk
def kindW : List Str := ["num", "word", "flag", "nums", "words", "flags"]
/-- what reading a NAME, a kind tells, and where it leaves the reader -/
def wantD (b : Bool) (s : RS) : PyData := if b then dN s.at_ else .none
def wantS (b : Bool) (wd : Str) (s : RS) : RS := if b then step s else stop wd "" s
def isN (ts : List Tkn) (s : RS) : Bool := decide (sortAt ts s = "name")
def isK (ts : List Tkn) (s : RS) : Bool := decide (textAt ts s ∈ kindW)
def nameS (ts : List Tkn) (s : RS) : RS := wantS (isN ts s) "name" s
def kindS (ts : List Tkn) (s : RS) : RS := wantS (isK ts s) "told" s
def paramD (ts : List Tkn) (s : RS) : PyData := .tuple [wantD (isN ts s) s, wantD (isK ts (nameS ts s)) (nameS ts s)]
def paramS (ts : List Tkn) (s : RS) : RS := kindS ts (nameS ts s)
inductive Pm (ts : List Tkn) : List PyData → RS → List PyData → RS → Prop
  | done {ds s} : textAt ts s ≠ "," → Pm ts ds s ds s
  | more {ds s ds' s'} : textAt ts s = "," → Pm ts (ds ++ [paramD ts (step s)]) (paramS ts (step s)) ds' s' → Pm ts ds s ds' s'
theorem Pm.det {ts : List Tkn} {ds : List PyData} {s : RS} {r : List PyData} {s1 : RS} (h : Pm ts ds s r s1) : ∀ {r' : List PyData} {s2 : RS}, Pm ts ds s r' s2 → r = r' ∧ s1 = s2 := by
  induction h with
  | done t => intro r' s2 h'; cases h' with
    | done _ => exact ⟨rfl, rfl⟩
    | more t' => exact absurd t' t
  | more t _ ih => intro r' s2 h'; cases h' with
    | done t' => exact absurd t t'
    | more t' x => exact ih x
inductive Rw (ts : List Tkn) : Str → RS → PyData → RS → Prop
  | take {s} : Rw ts "take" s (.tuple [.str "take", wantD (isN ts s) s]) (nameS ts s)
  | lets {s d s1} : Rd ts .part (sign ts "=" (nameS ts s)) [d] s1 → Rw ts "let" s (.tuple [.str "let", wantD (isN ts s) s, d]) s1
  | defs {s ds s1 d s2} : Pm ts [paramD ts (sign ts "(" (nameS ts s))] (paramS ts (sign ts "(" (nameS ts s))) ds s1 → Rd ts .part (sign ts "=" (sign ts ")" s1)) [d] s2 →
      Rw ts "def" s (.tuple [.str "def", wantD (isN ts s) s, .tuple ds, d]) s2
theorem Rw.det {ts : List Tkn} {wd : Str} {s : RS} {r : PyData} {s1 : RS} (h : Rw ts wd s r s1) {r' : PyData} {s2 : RS} (h' : Rw ts wd s r' s2) : r = r' ∧ s1 = s2 := by
  have n1 : ("take" : Str) ≠ "let" := by decide +kernel
  have n2 : ("take" : Str) ≠ "def" := by decide +kernel
  have n3 : ("let" : Str) ≠ "def" := by decide +kernel
  obtain ⟨wd', e⟩ : ∃ wd', wd' = wd := ⟨_, rfl⟩
  cases h with
  | take =>
    generalize hw : ("take" : Str) = w0 at h'
    cases h' with
    | take => exact ⟨rfl, rfl⟩
    | lets _ => exact absurd hw n1
    | defs _ _ => exact absurd hw n2
  | lets x =>
    generalize hw : ("let" : Str) = w0 at h'
    cases h' with
    | take => exact absurd hw.symm n1
    | lets y => obtain ⟨e, rfl⟩ := x.det y; cases e; exact ⟨rfl, rfl⟩
    | defs _ _ => exact absurd hw n3
  | defs x y =>
    generalize hw : ("def" : Str) = w0 at h'
    cases h' with
    | take => exact absurd hw.symm n2
    | lets _ => exact absurd hw.symm n3
    | defs x' y' =>
      obtain ⟨rfl, rfl⟩ := x.det x'
      obtain ⟨e, rfl⟩ := y.det y'; cases e; exact ⟨rfl, rfl⟩
def word0 (ts : List Tkn) : Str := textAt ts ⟨0, []⟩
def rowW : List Str := ["take", "let", "def"]
/-- the whole row: its tree, its stops -/
inductive Whole (ts : List Tkn) : PyData → List (Str × Nat × Str) → Prop
  | bare : ts = [] → Whole ts (.tuple [.str "bare"]) []
  | odd : ts ≠ [] → word0 ts ∉ rowW → Whole ts (.tuple [.str "odd"]) [("start", 0, "")]
  | row {d s} : word0 ts ∈ rowW → Rw ts (word0 ts) (step ⟨0, []⟩) d s → Whole ts d (if s.at_ < ts.length then (stop "extra" "" s).stops else s.stops)
theorem Whole.det {ts : List Tkn} {d d' : PyData} {ss ss' : List (Str × Nat × Str)} (h : Whole ts d ss) (h' : Whole ts d' ss') : d = d' ∧ ss = ss' := by
  have hb : ts = [] → word0 ts ∉ rowW := fun e h => by
    subst e
    exact absurd h (by decide +kernel)
  cases h with
  | bare e => cases h' with
    | bare _ => exact ⟨rfl, rfl⟩
    | odd n _ => exact absurd e n
    | row x _ => exact absurd x (hb e)
  | odd n x => cases h' with
    | bare e => exact absurd e n
    | odd _ _ => exact ⟨rfl, rfl⟩
    | row y _ => exact absurd y x
  | row x r => cases h' with
    | bare e => exact absurd x (hb e)
    | odd _ y => exact absurd x y
    | row y r' => obtain ⟨rfl, rfl⟩ := r.det r'; exact ⟨rfl, rfl⟩
theorem wantS_phi {ts : List Tkn} {b : Bool} {wd : Str} {s : RS} (hb : b = true → s.at_ < ts.length) (hs : s.at_ ≤ ts.length) : (wantS b wd s).at_ ≤ ts.length ∧ s.at_ ≤ (wantS b wd s).at_ ∧ phi ts (wantS b wd s) ≤ phi ts s + 1 := by
  cases b with
  | true =>
    have := step_phi (hb rfl)
    show (step s).at_ ≤ _ ∧ s.at_ ≤ (step s).at_ ∧ phi ts (step s) ≤ _
    omega
  | false =>
    refine ⟨hs, Nat.le_refl _, ?_⟩
    show (s.stops ++ ([(wd, s.at_, "")] : List (Str × Nat × Str))).length + 8 * (ts.length - s.at_) ≤ s.stops.length + 8 * (ts.length - s.at_) + 1
    rw [List.length_append]; show _ + 1 + _ ≤ _; omega
theorem nameS_phi {ts : List Tkn} {s : RS} (hs : s.at_ ≤ ts.length) : (nameS ts s).at_ ≤ ts.length ∧ s.at_ ≤ (nameS ts s).at_ ∧ phi ts (nameS ts s) ≤ phi ts s + 1 :=
  wantS_phi (fun h => sort_lt (by rw [of_decide_eq_true h]; decide +kernel)) hs
theorem kindS_phi {ts : List Tkn} {s : RS} (hs : s.at_ ≤ ts.length) : (kindS ts s).at_ ≤ ts.length ∧ s.at_ ≤ (kindS ts s).at_ ∧ phi ts (kindS ts s) ≤ phi ts s + 1 :=
  wantS_phi (fun h => text_lt fun e => by
    have h := of_decide_eq_true h
    rw [e] at h
    exact absurd h (by decide +kernel)) hs
theorem paramS_phi {ts : List Tkn} {s : RS} (hs : s.at_ ≤ ts.length) : (paramS ts s).at_ ≤ ts.length ∧ s.at_ ≤ (paramS ts s).at_ ∧ phi ts (paramS ts s) ≤ phi ts s + 2 := by
  have h1 := nameS_phi hs
  have h2 := kindS_phi h1.1
  unfold paramS
  omega
end Tr

set_option maxHeartbeats 4000000
namespace K12
open PySem PySem.Spec PyProof.Rows L2 Gx Tk Tr
variable {P : Program} {w : World} {K : PySem.W.Frag} {mg : Str → Option Value} {base : Heap}
def rF (f : Addr) (n : Nat) (sl : Addr) : List (Str × V) := [("found", .ref f), ("at", .int (n : Int)), ("stops", .ref sl)]
theorem rF_found (f : Addr) (n : Nat) (sl : Addr) : (rF f n sl).lookup ("found" : Str) = some (V.ref f) := by rfl
theorem rF_at (f : Addr) (n : Nat) (sl : Addr) : (rF f n sl).lookup ("at" : Str) = some (V.int (n : Int)) := by rfl
theorem rF_stops (f : Addr) (n : Nat) (sl : Addr) : (rF f n sl).lookup ("stops" : Str) = some (V.ref sl) := by rfl
theorem rF_put (f : Addr) (n m : Nat) (sl : Addr) : putF "at" (.int (m : Int)) (rF f n sl) = rF f m sl := by rfl
def sp_here (C : Addr) : Sp := fun vs H Q _ => ∃ (a f sl dx : Addr) (ts : List Tkn) (s : RS), vs = [.ref a] ∧ IsR C f sl dx ts H a s ∧ ts.length ≤ 1000 ∧ ∀ p H', H p = none → Same H H' → H' p = some (.tup [.str (sortAt ts s), .str (textAt ts s)]) → Q (.ref p) H'
theorem ok_Reader_here (T : Facts K mg w) : FnG P w K mg base 1 T.f_Reader_here T.d_Reader_here ["self"] (sp_here T.C_Reader) := by
  refine fnG_of T.F_Reader_here sc_Reader_here (fun vs H Q E h => ?_) (fun cdv A outer s H vs Q hG hr h => ?_)
  · obtain ⟨_, _, _, _, _, _, rfl, _⟩ := h; rfl
  · obtain ⟨a, f, sl, dx, ts, st, rfl, R, hl, q⟩ := h
    refine ⟨_, (pss_one (ps_ret (pe_ifExp (pt_cmpR op_lt (pe_fld (pv 0) rfl) (pe_callB call_len_seq (by rfl) T.n_len PySem.boot_len (pa_cons (pe_fld (pv 0) rfl) pa_nil)) (nomark _)) (pe_slice sl_tup (pe_ix ix_list (pe_fld (pv 0) rfl) (pe_fld (pv 0) rfl) (fun _ _ => rfl)) po_none (po_some pe_int)) (pe_tup (pa_cons pe_str (pa_cons pe_str pa_nil)))))), ?_⟩
    have ea : H a = some (.ins T.C_Reader dx (rF f st.at_ sl)) := R.at_
    obtain ⟨as, ef, hp⟩ := R.found
    have hal := paired_len hp
    refine ⟨_, rfl, a, _, dx, _, _, rfl, ea, T.Cl_Reader, T.NA_Reader_at, rF_at .., ?_⟩
    refine ⟨_, rfl, a, _, dx, _, _, rfl, ea, T.Cl_Reader, T.NA_Reader_found, rF_found .., f, _, rfl, .inl (SqL.of ef), _, _, rfl, rfl, _, rfl, ?_⟩
    dsimp only
    rw [List.length_map, hal]
    by_cases h6 : st.at_ < ts.length
    · rw [if_pos (decide_eq_true (by omega))]
      obtain ⟨b, hb⟩ : ∃ b, as[st.at_]? = some b := ⟨_, List.getElem?_eq_getElem (by omega)⟩
      obtain ⟨t, ht, hta⟩ := Tk.paired_get hp hb
      have e1 : sortAt ts st = t.1 := by unfold sortAt; rw [ht]
      have e2 : textAt ts st = t.2.1 := by unfold textAt; rw [ht]
      rw [e1, e2] at q
      refine ⟨_, rfl, a, _, dx, _, _, rfl, ea, T.Cl_Reader, T.NA_Reader_found, rF_found .., ?_⟩
      refine ⟨_, rfl, a, _, dx, _, _, rfl, ea, T.Cl_Reader, T.NA_Reader_at, rF_at .., f, _, _, _, rfl, rfl, SqL.of ef, atI_nat (j := st.at_) (by rw [List.getElem?_map, hb]; rfl), ?_⟩
      refine ⟨_, rfl, b, _, rfl, SqT.of hta, by show ¬ (HT.sIx 3 0 none = 0 ∧ HT.sIx 3 3 (some 2) = 3); decide, fun p hp => ?_⟩
      exact q p _ hp (same_new hp) upd_same
    · rw [if_neg (by rw [decide_eq_false (by omega)]; decide)]
      have e0 : ts[st.at_]? = none := List.getElem?_eq_none (by omega)
      have e1 : sortAt ts st = "" := by unfold sortAt; rw [e0]
      have e2 : textAt ts st = "" := by unfold textAt; rw [e0]
      rw [e1, e2] at q
      refine ⟨by show 2 ≤ sizeLine; decide, fun p hp => ?_⟩
      exact q p _ hp (same_new hp) upd_same
def sp_stands (C : Addr) : Sp := fun vs H Q _ => ∃ (a f sl dx : Addr) (ts : List Tkn) (s : RS) (x : Str), vs = [.ref a, .str x] ∧ IsR C f sl dx ts H a s ∧ ts.length ≤ 1000 ∧ ∀ H', Same H H' → Q (.bl (decide (textAt ts s = x))) H'
theorem ok_Reader_stands (T : Facts K mg w) : FnG P w K mg base 2 T.f_Reader_stands T.d_Reader_stands ["self", "text"] (sp_stands T.C_Reader) := by
  refine fnG_of T.F_Reader_stands sc_Reader_stands (fun vs H Q E h => ?_) (fun cdv A outer s H vs Q hG hr h => ?_)
  · obtain ⟨_, _, _, _, _, _, _, rfl, _⟩ := h; rfl
  · obtain ⟨a, f, sl, dx, ts, st, x, rfl, R, hl, q⟩ := h
    refine ⟨_, (pss_one (ps_ret (pe_cmpR op_eq (pe_ix ix_tup (pe_methG0 (pv 0) T.Cl_Reader T.M_Reader_here (ok_Reader_here T) hG (hr.mono (by decide)) T.b_Reader_here) pe_int (fun _ _ => rfl)) (pv 1) (nomark _)))), ?_⟩
    refine ⟨_, rfl, a, dx, _, rfl, R.at_, rfl, a, f, sl, dx, ts, st, rfl, R, hl, fun p H1 hp s1 e1 => ?_⟩
    refine ⟨p, _, _, _, rfl, rfl, SqT.of e1, atI_nat (j := 1) rfl, _, rfl, rfl, ?_⟩
    have ed : decide (V.str (textAt ts st) = V.str x) = decide (textAt ts st = x) := decide_eq_decide.mpr ⟨fun h => V.str.inj h, fun h => congrArg V.str h⟩
    rw [ed]
    exact q _ s1
def sp_step (C : Addr) : Sp := fun vs H Q _ => ∃ (a f sl dx : Addr) (ts : List Tkn) (s : RS), vs = [.ref a] ∧ IsR C f sl dx ts H a s ∧ ∀ H', IsR C f sl dx ts H' a (step s) → Fr a sl H H' → Q (.int (s.at_ : Int)) H'
theorem ok_Reader_step (T : Facts K mg w) : FnG P w K mg base 1 T.f_Reader_step T.d_Reader_step ["self"] (sp_step T.C_Reader) := by
  refine fnG_of T.F_Reader_step sc_Reader_step (fun vs H Q E h => ?_) (fun cdv A outer s H vs Q hG hr h => ?_)
  · obtain ⟨_, _, _, _, _, _, rfl, _⟩ := h; rfl
  · obtain ⟨a, f, sl, dx, ts, st, rfl, R, q⟩ := h
    refine ⟨_, (pss_cons (ps_fldaug (pv 0) pe_int in_add)
        (pss_one (ps_ret (pe_op op_sub (pe_fld (pv 0) rfl) pe_int)))), ?_⟩
    have ea : H a = some (.ins T.C_Reader dx (rF f st.at_ sl)) := R.at_
    have na := R.na
    refine ⟨_, rfl, a, _, dx, _, _, rfl, ea, T.Cl_Reader, T.NA_Reader_at, rF_at .., _, _, rfl, rfl, dx, _, ea, by show 3 < 1000; decide, ?_⟩
    rw [show ((st.at_ : Nat) : Int) + 1 = ((st.at_ + 1 : Nat) : Int) by omega, rF_put]
    have ea2 : (upd H a (.ins T.C_Reader dx (rF f (st.at_ + 1) sl))) a = some (.ins T.C_Reader dx (rF f (st.at_ + 1) sl)) := upd_same
    refine ⟨_, rfl, a, _, dx, _, _, rfl, ea2, T.Cl_Reader, T.NA_Reader_at, rF_at .., _, _, rfl, rfl, ?_⟩
    dsimp only
    rw [show ((st.at_ + 1 : Nat) : Int) - 1 = ((st.at_ : Nat) : Int) by omega]
    have ne : ∀ b o, H b = some o → (∀ C dx fs, o ≠ .ins C dx fs) → b ≠ a := fun b o e n z => by
      rw [z, ea] at e; injection e with e; exact n _ _ _ e.symm
    obtain ⟨as, ef, hp⟩ := R.found
    obtain ⟨bs, es, hs⟩ := R.stops
    refine q _ ⟨ea2, ⟨as, (upd_ne (ne _ _ ef (by intro _ _ _ z; cases z))).trans ef, pkeep (fun p t h => (upd_ne (ne _ _ h (by intro _ _ _ z; cases z))).trans h) hp⟩, ⟨bs, (upd_ne (ne _ _ es (by intro _ _ _ z; cases z))).trans es, pkeep (fun p t h => (upd_ne (ne _ _ h (by intro _ _ _ z; cases z))).trans h) hs⟩, R.nf⟩ (fun b o h1 _ h => (upd_ne h1).trans h)
def sp_stop (C : Addr) : Sp := fun vs H Q _ => ∃ (a f sl dx : Addr) (ts : List Tkn) (s : RS) (wd x : Str), vs = [.ref a, .str wd, .str x] ∧ IsR C f sl dx ts H a s ∧ s.stops.length ≤ 100000 ∧ ∀ H', IsR C f sl dx ts H' a (stop wd x s) → Fr a sl H H' → Q .non H'
theorem ok_Reader_stop (T : Facts K mg w) : FnG P w K mg base 1 T.f_Reader_stop T.d_Reader_stop ["self", "word", "text"] (sp_stop T.C_Reader) := by
  refine fnG_of T.F_Reader_stop sc_Reader_stop (fun vs H Q E h => ?_) (fun cdv A outer s H vs Q hG hr h => ?_)
  · obtain ⟨_, _, _, _, _, _, _, _, rfl, _⟩ := h; rfl
  · obtain ⟨a, f, sl, dx, ts, st, wd, x, rfl, R, hl, q⟩ := h
    refine ⟨_, (pss_one (ps_expr (pe_bm PySem.F.plainAttrs_list PySem.F.slot_list_append PySem.F.type_list_append mt_append (pe_fld (pv 0) rfl) (pa_cons (pe_tup (pa_cons (pv 1) (pa_cons (pe_fld (pv 0) rfl) (pa_cons (pv 2) pa_nil)))) pa_nil)))), ?_⟩
    have hsl : (5000000 : Nat) ≤ sizeLine := by decide
    have ea : H a = some (.ins T.C_Reader dx (rF f st.at_ sl)) := R.at_
    obtain ⟨as, ef, hp⟩ := R.found
    obtain ⟨bs, es, hs⟩ := R.stops
    have hbl : bs.length = st.stops.length := plen hs
    refine ⟨_, rfl, a, _, dx, _, _, rfl, ea, T.Cl_Reader, T.NA_Reader_stops, rF_stops .., .inl ⟨rfl, _, SqL.of es⟩, _, rfl, _, rfl, a, _, dx, _, _, rfl, ea, T.Cl_Reader, T.NA_Reader_at, rF_at .., _, rfl, by show 3 ≤ sizeLine; decide, fun p hp2 => ?_⟩
    have s1 := same_new (o := .tup [.str wd, .int (st.at_ : Int), .str x]) hp2
    have R1 := R.same s1
    have ea1 := s1 _ _ ea
    have es1 := s1 _ _ es
    have ef1 := s1 _ _ ef
    have hp1 := pkeep (fun p t h => s1 _ _ h) hp
    have hs1 := pkeep (fun p t h => s1 _ _ h) hs
    have e1 : (upd H p (.tup [.str wd, .int (st.at_ : Int), .str x])) p = some (.tup [.str wd, .int (st.at_ : Int), .str x]) := upd_same
    generalize upd H p (.tup [.str wd, .int (st.at_ : Int), .str x]) = H1 at s1 ea1 es1 ef1 hp1 hs1 e1 ⊢
    refine ⟨sl, _, _, rfl, rfl, es1, by rw [List.length_map]; omega, ?_⟩
    have ne : ∀ b o, H1 b = some o → (∀ xs, o ≠ .lst xs) → b ≠ sl := fun b o e n z => by
      rw [z, es1] at e; injection e with e; exact n _ e.symm
    refine q _ ⟨(upd_ne (ne _ _ ea1 (by intro _ z; cases z))).trans ea1, ⟨as, (upd_ne R.nf).trans ef1, pkeep (fun p t h => (upd_ne (ne _ _ h (by intro _ z; cases z))).trans h) hp1⟩, ⟨bs ++ [p], by rw [upd_same, List.map_append]; rfl, ?_⟩, R.nf⟩ (fun b o _ h2 h => (upd_ne h2).trans (s1 _ _ h))
    exact Paired.snoc (pkeep (fun p t h => (upd_ne (ne _ _ h (by intro _ z; cases z))).trans h) hs1) ((upd_ne (ne _ _ e1 (by intro _ z; cases z))).trans e1)
def sp_sign (C : Addr) : Sp := fun vs H Q _ => ∃ (a f sl dx : Addr) (ts : List Tkn) (s : RS) (x : Str), vs = [.ref a, .str x] ∧ IsR C f sl dx ts H a s ∧ ts.length ≤ 1000 ∧ s.stops.length ≤ 100000 ∧ ∀ H', IsR C f sl dx ts H' a (sign ts x s) → Fr a sl H H' → Q .non H'
theorem ok_Reader_read_sign (T : Facts K mg w) : FnG P w K mg base 3 T.f_Reader_read_sign T.d_Reader_read_sign ["self", "text"] (sp_sign T.C_Reader) := by
  refine fnG_of T.F_Reader_read_sign sc_Reader_read_sign (fun vs H Q E h => ?_) (fun cdv A outer s H vs Q hG hr h => ?_)
  · obtain ⟨_, _, _, _, _, _, _, rfl, _⟩ := h; rfl
  · obtain ⟨a, f, sl, dx, ts, st, x, rfl, R, hl, hss, q⟩ := h
    refine ⟨_, (pss_one (ps_if (pt_val (pe_methG (pv 0) T.Cl_Reader T.M_Reader_stands (ok_Reader_stands T) hG (hr.mono (by decide)) T.b_Reader_stands (pa_cons (pv 1) pa_nil))) (pss_one (ps_expr (pe_methG0 (pv 0) T.Cl_Reader T.M_Reader_step (ok_Reader_step T) hG (hr.mono (by decide)) T.b_Reader_step))) (pss_one (ps_expr (pe_methG (pv 0) T.Cl_Reader T.M_Reader_stop (ok_Reader_stop T) hG (hr.mono (by decide)) T.b_Reader_stop (pa_cons pe_str (pa_cons (pv 1) pa_nil))))))), ?_⟩
    refine ⟨_, rfl, a, dx, _, rfl, R.at_, rfl, _, rfl, a, f, sl, dx, ts, st, x, rfl, R, hl, fun H1 s1 => ⟨_, rfl, ?_⟩⟩
    have R1 := R.same s1
    unfold sign at q
    dsimp only
    by_cases h : textAt ts st = x
    · rw [if_pos h] at q
      rw [if_pos (decide_eq_true h)]
      exact ⟨_, rfl, a, dx, _, rfl, R1.at_, rfl, a, f, sl, dx, ts, st, rfl, R1, fun H2 R2 fr => q _ R2 ((Fr.of s1).trans fr)⟩
    · rw [if_neg h] at q
      rw [if_neg (by rw [decide_eq_false h]; decide)]
      exact ⟨_, rfl, a, dx, _, rfl, R1.at_, rfl, _, rfl, a, f, sl, dx, ts, st, "sign", x, rfl, R1, hss, fun H2 R2 fr => q _ R2 ((Fr.of s1).trans fr)⟩
def sp_want (C : Addr) (wd : Str) (t : List Tkn → RS → Bool) : Sp := fun vs H Q _ => ∃ (a f sl dx : Addr) (ts : List Tkn) (s : RS), vs = [.ref a] ∧ IsR C f sl dx ts H a s ∧ ts.length ≤ 1000 ∧ s.stops.length ≤ 100000 ∧
  ∀ v H', TrV H' v (wantD (t ts s) s) → (∀ H'', TrV H'' v (wantD (t ts s) s)) → IsR C f sl dx ts H' a (wantS (t ts s) wd s) → Fr a sl H H' → Q v H'
theorem ok_Reader_read_name (T : Facts K mg w) : FnG P w K mg base 2 T.f_Reader_read_name T.d_Reader_read_name ["self"] (sp_want T.C_Reader "name" fun ts s => decide (sortAt ts s = "name")) := by
  refine fnG_of T.F_Reader_read_name sc_Reader_read_name (fun vs H Q E h => ?_) (fun cdv A outer s H vs Q hG hr h => ?_)
  · obtain ⟨_, _, _, _, _, _, rfl, _⟩ := h; rfl
  · obtain ⟨a, f, sl, dx, ts, st, rfl, R, hl, hss, q⟩ := h
    refine ⟨_, (pss_cons (ps_if (pt_cmpR op_eq (pe_ix ix_tup (pe_methG0 (pv 0) T.Cl_Reader T.M_Reader_here (ok_Reader_here T) hG (hr.mono (by decide)) T.b_Reader_here) pe_int (fun _ _ => rfl)) pe_str (nomark _)) (pss_one (ps_ret (pe_methG0 (pv 0) T.Cl_Reader T.M_Reader_step (ok_Reader_step T) hG (hr.mono (by decide)) T.b_Reader_step))) pss_nil)
        (pss_cons (ps_expr (pe_methG (pv 0) T.Cl_Reader T.M_Reader_stop (ok_Reader_stop T) hG (hr.mono (by decide)) T.b_Reader_stop (pa_cons pe_str (pa_cons pe_str pa_nil))))
        (pss_one (ps_ret pe_non)))), ?_⟩
    refine ⟨_, rfl, a, dx, _, rfl, R.at_, rfl, a, f, sl, dx, ts, st, rfl, R, hl, fun p H1 hp s1 e1 => ?_⟩
    have R1 := R.same s1
    refine ⟨p, _, _, _, rfl, rfl, SqT.of e1, atI_nat (j := 0) rfl, rfl, _, rfl, ?_⟩
    have ed : decide (V.str (sortAt ts st) = V.str "name") = decide (sortAt ts st = "name") := decide_eq_decide.mpr ⟨fun h => V.str.inj h, fun h => congrArg V.str h⟩
    rw [ed]
    dsimp only
    by_cases h : sortAt ts st = "name"
    · rw [if_pos (decide_eq_true h)]
      refine ⟨_, rfl, a, dx, _, rfl, R1.at_, rfl, a, f, sl, dx, ts, st, rfl, R1, fun H2 R2 fr => ?_⟩
      have e3 : decide (sortAt ts st = "name") = true := decide_eq_true h
      dsimp only at q
      rw [e3] at q
      exact q _ _ (.int _) (fun _ => .int _) R2 ((Fr.of s1).trans fr)
    · rw [if_neg (by rw [decide_eq_false h]; decide)]
      refine ⟨_, rfl, a, dx, _, rfl, R1.at_, rfl, a, f, sl, dx, ts, st, "name", "", rfl, R1, hss, fun H2 R2 fr => ?_⟩
      have e3 : decide (sortAt ts st = "name") = false := decide_eq_false h
      dsimp only at q
      rw [e3] at q
      exact q _ _ .non (fun _ => .non) R2 ((Fr.of s1).trans fr)
end K12

set_option maxHeartbeats 4000000
namespace K12
open PySem PySem.Spec PyProof.Rows L2 Gx Tk Tr
variable {P : Program} {w : World} {K : PySem.W.Frag} {mg : Str → Option Value} {base : Heap}
/-- so many tokens at most stand from here on, and few stops were told -/
structure Pre (ts : List Tkn) (s : RS) (n : Nat) : Prop where
  tl : ts.length ≤ 1000
  le : s.at_ ≤ ts.length
  rem : ts.length ≤ s.at_ + n
  phi : Tr.phi ts s ≤ 90000
theorem Pre.stops {ts : List Tkn} {s : RS} {n : Nat} (h : Pre ts s n) : s.stops.length ≤ 90000 := by
  have := h.phi
  unfold Tr.phi at this
  omega
theorem stops_le {ts : List Tkn} {s : RS} {m : Nat} (h : Tr.phi ts s ≤ m) : s.stops.length ≤ m := by
  unfold Tr.phi at h
  omega
theorem Pre.step {ts : List Tkn} {s : RS} {n : Nat} (h : Pre ts s (n + 1)) (hlt : s.at_ < ts.length) : Pre ts (step s) n := by
  have q := step_phi hlt
  have q1 := h.phi
  have q2 := h.rem
  exact ⟨h.tl, q.1, by omega, by omega⟩
/-- one reading that tells one tree -/
def sp_rd (C : Addr) (n : Nat) (m : Md) (cond : List Tkn → RS → Prop) : Sp := fun vs H Q _ => ∃ (a f sl dx : Addr) (ts : List Tkn) (s : RS), vs = [.ref a] ∧ IsR C f sl dx ts H a s ∧ Pre ts s n ∧ cond ts s ∧
  ∀ v H' d s', Rd ts m s [d] s' → TrV H' v d → IsR C f sl dx ts H' a s' → Fr a sl H H' → Q v H'
def sp_parts (C : Addr) (n : Nat) : Sp := fun vs H Q _ => ∃ (a f sl dx : Addr) (ts : List Tkn) (s : RS) (e : Str), vs = [.ref a, .str e] ∧ e ≠ "" ∧ IsR C f sl dx ts H a s ∧ Pre ts s n ∧
  ∀ v H' ds s', Rd ts (.parts e) s ds s' → TrV H' v (.tuple ds) → IsR C f sl dx ts H' a s' → Fr a sl H H' → Q v H'
def anyC : List Tkn → RS → Prop := fun _ _ => True
theorem round_step (T : Facts K mg w) {n : Nat} (R_Reader_read_part : FnG P w K mg base (3 * n + 7) T.f_Reader_read_part T.d_Reader_read_part ["self"] (sp_rd T.C_Reader n .part anyC)) :
    FnG P w K mg base (3 * n + 7 + 1) T.f_Reader_read_round T.d_Reader_read_round ["self"] (sp_rd T.C_Reader (n + 1) .single fun ts s => kd ts s = .rd) := by
  refine fnG_of T.F_Reader_read_round sc_Reader_read_round (fun vs H Q E h => ?_) (fun cdv A outer s H vs Q hG hr h => ?_)
  · obtain ⟨_, _, _, _, _, _, rfl, _⟩ := h; rfl
  · obtain ⟨a, f, sl, dx, ts, st, rfl, R, hp, hk, q⟩ := h
    have RR_Reader_read_part := hr
    refine ⟨_, (pss_cons (ps_set (i := 1) sc_Reader_read_round.nd rfl (.inl rfl) (pe_methG0 (pv 0) T.Cl_Reader T.M_Reader_step (ok_Reader_step T) hG (hr.mono (by omega)) T.b_Reader_step))
        (pss_cons (ps_set (i := 2) sc_Reader_read_round.nd rfl (.inl rfl) (pe_methG0 (pv 0) T.Cl_Reader T.M_Reader_read_part R_Reader_read_part hG RR_Reader_read_part T.b_Reader_read_part))
        (pss_cons (ps_expr (pe_methG (pv 0) T.Cl_Reader T.M_Reader_read_sign (ok_Reader_read_sign T) hG (hr.mono (by omega)) T.b_Reader_read_sign (pa_cons pe_str pa_nil)))
        (pss_one (ps_ret (pe_tup (pa_cons pe_str (pa_cons (pv 1) (pa_cons (pv 2) pa_nil))))))))), ?_⟩
    have hlt := kd_lt (ts := ts) (s := st) (by rw [hk]; decide)
    have hp1 := hp.step hlt
    refine ⟨_, rfl, a, dx, _, rfl, R.at_, rfl, a, f, sl, dx, ts, st, rfl, R, fun H1 R1 fr1 => ?_⟩
    refine ⟨_, rfl, a, dx, _, rfl, R1.at_, rfl, a, f, sl, dx, ts, step st, rfl, R1, hp1, trivial, fun v H2 d s2 rd2 tv2 R2 fr2 => ?_⟩
    have g2 := rd2.phi trivial hp1.le
    have hph := hp1.phi
    have hgr : grow .part = 1 := rfl
    refine ⟨_, rfl, a, dx, _, rfl, R2.at_, rfl, a, f, sl, dx, ts, s2, ")", rfl, R2, hp.tl, stops_le (ts := ts) (m := 100000) (by omega), fun H3 R3 fr3 => ?_⟩
    refine ⟨_, rfl, _, rfl, by show 3 ≤ sizeLine; decide, fun p hp4 => ?_⟩
    have s4 := same_new (o := .tup [.str "round", .int (st.at_ : Int), v]) hp4
    refine q _ _ _ _ (.rd hk rd2) (.tup upd_same (.cons (.str _) (.cons (.int _) (.cons ((tv2.keep (fr3.tup R2)).keep fun p vs => s4 p _) .nil)))) (R3.same s4) (((fr1.trans fr2).trans fr3).trans (Fr.of s4))
theorem Pre.on {ts : List Tkn} {s s' : RS} {n : Nat} (h : Pre ts s n) (le : s'.at_ ≤ ts.length) (ge : s.at_ ≤ s'.at_) (ph : Tr.phi ts s' ≤ 90000) : Pre ts s' n := ⟨h.tl, le, by have := h.rem; omega, ph⟩
theorem if_step (T : Facts K mg w) {n : Nat} (R_Reader_read_part : FnG P w K mg base (3 * n + 7) T.f_Reader_read_part T.d_Reader_read_part ["self"] (sp_rd T.C_Reader n .part anyC)) :
    FnG P w K mg base (3 * n + 7 + 1) T.f_Reader_read_if T.d_Reader_read_if ["self"] (sp_rd T.C_Reader (n + 1) .single fun ts s => kd ts s = .iff) := by
  refine fnG_of T.F_Reader_read_if sc_Reader_read_if (fun vs H Q E h => ?_) (fun cdv A outer s H vs Q hG hr h => ?_)
  · obtain ⟨_, _, _, _, _, _, rfl, _⟩ := h; rfl
  · obtain ⟨a, f, sl, dx, ts, st, rfl, R, hp, hk, q⟩ := h
    have RR_Reader_read_part := hr
    refine ⟨_, (pss_cons (ps_set (i := 1) sc_Reader_read_if.nd rfl (.inl rfl) (pe_methG0 (pv 0) T.Cl_Reader T.M_Reader_step (ok_Reader_step T) hG (hr.mono (by omega)) T.b_Reader_step))
        (pss_cons (ps_set (i := 2) sc_Reader_read_if.nd rfl (.inl rfl) (pe_methG0 (pv 0) T.Cl_Reader T.M_Reader_read_part R_Reader_read_part hG RR_Reader_read_part T.b_Reader_read_part))
        (pss_cons (ps_expr (pe_methG (pv 0) T.Cl_Reader T.M_Reader_read_sign (ok_Reader_read_sign T) hG (hr.mono (by omega)) T.b_Reader_read_sign (pa_cons pe_str pa_nil)))
        (pss_cons (ps_set (i := 3) sc_Reader_read_if.nd rfl (.inl rfl) (pe_methG0 (pv 0) T.Cl_Reader T.M_Reader_read_part R_Reader_read_part hG RR_Reader_read_part T.b_Reader_read_part))
        (pss_cons (ps_expr (pe_methG (pv 0) T.Cl_Reader T.M_Reader_read_sign (ok_Reader_read_sign T) hG (hr.mono (by omega)) T.b_Reader_read_sign (pa_cons pe_str pa_nil)))
        (pss_one (ps_ret (pe_tup (pa_cons pe_str (pa_cons (pv 1) (pa_cons (pv 2) (pa_cons (pv 3) (pa_cons (pe_methG0 (pv 0) T.Cl_Reader T.M_Reader_read_part R_Reader_read_part hG RR_Reader_read_part T.b_Reader_read_part) pa_nil))))))))))))), ?_⟩
    have hlt := kd_lt (ts := ts) (s := st) (by rw [hk]; decide)
    have hp1 := hp.step hlt
    have hgr : grow .part = 1 := rfl
    have hst := step_phi hlt
    have hph := hp.phi
    refine ⟨_, rfl, a, dx, _, rfl, R.at_, rfl, a, f, sl, dx, ts, st, rfl, R, fun H1 R1 fr1 => ?_⟩
    refine ⟨_, rfl, a, dx, _, rfl, R1.at_, rfl, a, f, sl, dx, ts, step st, rfl, R1, hp1, trivial, fun v1 H2 d1 s2 rd1 tv1 R2 fr2 => ?_⟩
    have g2 := rd1.phi trivial hp1.le
    refine ⟨_, rfl, a, dx, _, rfl, R2.at_, rfl, a, f, sl, dx, ts, s2, "then", rfl, R2, hp.tl, stops_le (ts := ts) (m := 100000) (by omega), fun H3 R3 fr3 => ?_⟩
    have g3 := sign_phi ts (e := "then") (by decide +kernel) s2 g2.1
    have hp3 : Pre ts (sign ts "then" s2) n := hp1.on g3.1 (by omega) (by omega)
    refine ⟨_, rfl, a, dx, _, rfl, R3.at_, rfl, a, f, sl, dx, ts, _, rfl, R3, hp3, trivial, fun v2 H4 d2 s4 rd2 tv2 R4 fr4 => ?_⟩
    have g4 := rd2.phi trivial hp3.le
    refine ⟨_, rfl, a, dx, _, rfl, R4.at_, rfl, a, f, sl, dx, ts, s4, "else", rfl, R4, hp.tl, stops_le (ts := ts) (m := 100000) (by omega), fun H5 R5 fr5 => ?_⟩
    have g5 := sign_phi ts (e := "else") (by decide +kernel) s4 g4.1
    have hp5 : Pre ts (sign ts "else" s4) n := hp1.on g5.1 (by omega) (by omega)
    refine ⟨_, rfl, _, rfl, _, rfl, _, rfl, a, dx, _, rfl, R5.at_, rfl, a, f, sl, dx, ts, _, rfl, R5, hp5, trivial, fun v3 H6 d3 s6 rd3 tv3 R6 fr6 => ?_⟩
    refine ⟨by show 5 ≤ sizeLine; decide, fun p hp7 => ?_⟩
    have s7 := same_new (o := .tup [.str "if", .int (st.at_ : Int), v1, v2, v3]) hp7
    have tvb := tv2.keep fun p vs h => s7 p _ (fr6.tup R5 _ _ (fr5.tup R4 p vs h))
    have tva := tv1.keep fun p vs h => s7 p _ (fr6.tup R5 _ _ (fr5.tup R4 _ _ (fr4.tup R3 _ _ (fr3.tup R2 p vs h))))
    have tvc := tv3.keep fun p vs h => s7 p _ h
    exact q _ _ _ _ (.iff hk rd1 rd2 rd3) (.tup upd_same (.cons (.str _) (.cons (.int _) (.cons tva (.cons tvb (.cons tvc .nil)))))) (R6.same s7) ((((((fr1.trans fr2).trans fr3).trans fr4).trans fr5).trans fr6).trans (Fr.of s7))
def sp_parts' (C : Addr) (n : Nat) : Sp := fun vs H Q E => ∃ k, k + 1 = n ∧ sp_parts C k vs H Q E
theorem named_step (T : Facts K mg w) {n : Nat} (R_Reader_read_parts : FnG P w K mg base (3 * n + 7) T.f_Reader_read_parts T.d_Reader_read_parts ["self", "end"] (sp_parts' T.C_Reader n)) :
    FnG P w K mg base (3 * n + 7 + 1) T.f_Reader_read_named T.d_Reader_read_named ["self"] (sp_rd T.C_Reader (n + 1) .single fun ts s => kd ts s = .name) := by
  refine fnG_of T.F_Reader_read_named sc_Reader_read_named (fun vs H Q E h => ?_) (fun cdv A outer s H vs Q hG hr h => ?_)
  · obtain ⟨_, _, _, _, _, _, rfl, _⟩ := h; rfl
  · obtain ⟨a, f, sl, dx, ts, st, rfl, R, hp, hk, q⟩ := h
    have RR_Reader_read_parts := hr
    refine ⟨_, (pss_cons (ps_set (i := 1) sc_Reader_read_named.nd rfl (.inl rfl) (pe_methG0 (pv 0) T.Cl_Reader T.M_Reader_step (ok_Reader_step T) hG (hr.mono (by omega)) T.b_Reader_step))
        (pss_cons (ps_if (pt_not (pt_val (pe_methG (pv 0) T.Cl_Reader T.M_Reader_stands (ok_Reader_stands T) hG (hr.mono (by omega)) T.b_Reader_stands (pa_cons pe_str pa_nil)))) (pss_one (ps_ret (pe_tup (pa_cons pe_str (pa_cons (pv 1) pa_nil))))) pss_nil)
        (pss_cons (ps_expr (pe_methG0 (pv 0) T.Cl_Reader T.M_Reader_step (ok_Reader_step T) hG (hr.mono (by omega)) T.b_Reader_step))
        (pss_one (ps_ret (pe_tup (pa_cons pe_str (pa_cons (pv 1) (pa_cons (pe_methG (pv 0) T.Cl_Reader T.M_Reader_read_parts R_Reader_read_parts hG RR_Reader_read_parts T.b_Reader_read_parts (pa_cons pe_str pa_nil)) pa_nil))))))))), ?_⟩
    have hlt := kd_lt (ts := ts) (s := st) (by rw [hk]; decide)
    have hp1 := hp.step hlt
    refine ⟨_, rfl, a, dx, _, rfl, R.at_, rfl, a, f, sl, dx, ts, st, rfl, R, fun H1 R1 fr1 => ?_⟩
    refine ⟨_, rfl, a, dx, _, rfl, R1.at_, rfl, a, f, sl, dx, ts, step st, "(", rfl, R1, hp.tl, fun H2 s2 => ⟨_, rfl, ?_⟩⟩
    have R2 := R1.same s2
    dsimp only
    by_cases ht : textAt ts (step st) = "("
    · rw [if_neg (by rw [decide_eq_true ht]; decide)]
      have hlt2 := text_lt (ts := ts) (s := step st) (by rw [ht]; decide +kernel)
      refine ⟨_, rfl, a, dx, _, rfl, R2.at_, rfl, a, f, sl, dx, ts, step st, rfl, R2, fun H3 R3 fr3 => ?_⟩
      obtain ⟨k, rfl⟩ : ∃ k, n = k + 1 := ⟨n - 1, by have := hp1.rem; omega⟩
      have hp3 := hp1.step hlt2
      refine ⟨_, rfl, _, rfl, a, dx, _, rfl, R3.at_, rfl, k, rfl, a, f, sl, dx, ts, _, ")", rfl, by decide +kernel, R3, hp3, fun v H4 ds s4 rd4 tv4 R4 fr4 => ?_⟩
      refine ⟨by show 3 ≤ sizeLine; decide, fun p hp5 => ?_⟩
      have s5 := same_new (o := .tup [.str "call", .int (st.at_ : Int), v]) hp5
      exact q _ _ _ _ (.call hk ht rd4) (.tup upd_same (.cons (.str _) (.cons (.int _) (.cons (tv4.keep fun p vs => s5 p _) .nil)))) (R4.same s5) ((((fr1.trans (Fr.of s2)).trans fr3).trans fr4).trans (Fr.of s5))
    · rw [if_pos (by rw [decide_eq_false ht]; decide)]
      refine ⟨_, rfl, by show 2 ≤ sizeLine; decide, fun p hp5 => ?_⟩
      have s5 := same_new (o := .tup [.str "name", .int (st.at_ : Int)]) hp5
      exact q _ _ _ _ (.name hk ht) (.tup upd_same (.cons (.str _) (.cons (.int _) .nil))) (R2.same s5) ((fr1.trans (Fr.of s2)).trans (Fr.of s5))
theorem part_step (T : Facts K mg w) {n : Nat} (R_Reader_read_single : FnG P w K mg base (3 * n + 6) T.f_Reader_read_single T.d_Reader_read_single ["self"] (sp_rd T.C_Reader n .single anyC)) :
    FnG P w K mg base (3 * n + 6 + 1) T.f_Reader_read_part T.d_Reader_read_part ["self"] (sp_rd T.C_Reader n .part anyC) := by
  refine fnG_of T.F_Reader_read_part sc_Reader_read_part (fun vs H Q E h => ?_) (fun cdv A outer s H vs Q hG hr h => ?_)
  · obtain ⟨_, _, _, _, _, _, rfl, _⟩ := h; rfl
  · obtain ⟨a, f, sl, dx, ts, st, rfl, R, hp, _, q⟩ := h
    have RR_Reader_read_single := hr
    refine ⟨_, (pss_cons (ps_set (i := 1) sc_Reader_read_part.nd rfl (.inl rfl) (pe_methG0 (pv 0) T.Cl_Reader T.M_Reader_read_single R_Reader_read_single hG RR_Reader_read_single T.b_Reader_read_single))
        (pss_cons (ps_while PassesOwn.never (pt_cmpR op_in_seq (pe_ix ix_tup (pe_methG0 (pv 0) T.Cl_Reader T.M_Reader_here (ok_Reader_here T) hG (hr.mono (by omega)) T.b_Reader_here) pe_int (fun _ _ => rfl)) (pe_glob (v := .ref T.C_OPERATORS) rfl T.gC_OPERATORS rfl) rfl) (pss_cons (ps_set (i := 2) sc_Reader_read_part.nd rfl (.inl rfl) (pe_methG0 (pv 0) T.Cl_Reader T.M_Reader_step (ok_Reader_step T) hG (hr.mono (by omega)) T.b_Reader_step))
        (pss_one (ps_set (i := 1) sc_Reader_read_part.nd rfl (.inl rfl) (pe_tup (pa_cons pe_str (pa_cons (pv 2) (pa_cons (pv 1) (pa_cons (pe_methG0 (pv 0) T.Cl_Reader T.M_Reader_read_single R_Reader_read_single hG RR_Reader_read_single T.b_Reader_read_single) pa_nil)))))))))
        (pss_one (ps_ret (pv 1))))), ?_⟩
    have hgr : grow .single = 1 := rfl
    have hph := hp.phi
    refine ⟨_, rfl, a, dx, _, rfl, R.at_, rfl, a, f, sl, dx, ts, st, rfl, R, hp, trivial, fun v0 H1 d0 s1 rd0 tv0 R1 fr1 => ?_⟩
    have g1 := rd0.phi trivial hp.le
    refine ⟨fun m σ' H' => ∃ (v : V) (d : PyData) (s1 : RS) (y2 : Option V), m + s1.at_ = ts.length ∧ (∀ d' s', Rd ts (.ops d) s1 [d'] s' → Rd ts .part st [d'] s') ∧ TrV H' v d ∧ IsR T.C_Reader f sl dx ts H' a s1 ∧ Fr a sl H H' ∧ s1.at_ ≤ ts.length ∧ st.at_ ≤ s1.at_ ∧ Tr.phi ts s1 ≤ Tr.phi ts st + 1 ∧ σ' = [some (.ref a), some v, y2], ⟨ts.length - s1.at_, v0, d0, s1, none, by omega, fun d' s' h => .part rd0 h, tv0, R1, fr1, g1.1, g1.2.1, by omega, rfl⟩, fun m σ' H' hP => ?_⟩
    obtain ⟨v, d, s2, y2, hm, hc, tv, R2, fr2, le2, ge2, ph2, rfl⟩ := hP
    refine ⟨_, rfl, a, dx, _, rfl, R2.at_, rfl, a, f, sl, dx, ts, s2, rfl, R2, hp.tl, fun p H3 hp3 s3 e3 => ?_⟩
    have R3 := R2.same s3
    refine ⟨p, _, _, _, rfl, rfl, SqT.of e3, atI_nat (j := 1) rfl, _, _, rfl, .inr (T.S_OPERATORS.sqT (by decide) H3), rfl, flat_strs _, _, rfl, ?_⟩
    rw [inV_strs]
    have eh : decide (textAt ts s2 ∈ (["+", "-", "*", "&", "=", "<", "at"] : List Str)) = decide (textAt ts s2 ∈ opsW) := rfl
    rw [eh]
    have e0 : ∀ b c : Bool, (if false = true then b else c) = c := fun _ _ => rfl
    rw [e0]
    dsimp only
    by_cases ho : textAt ts s2 ∈ opsW
    · rw [if_pos (decide_eq_true ho)]
      have hlt := op_lt' ho
      have hst := step_phi hlt
      refine ⟨_, fun _ _ h => h, _, rfl, a, dx, _, rfl, R3.at_, rfl, a, f, sl, dx, ts, s2, rfl, R3, fun H4 R4 fr4 => ?_⟩
      have hp4 : Pre ts (step s2) n := hp.on hst.1 (by omega) (by omega)
      refine ⟨_, rfl, _, rfl, _, rfl, a, dx, _, rfl, R4.at_, rfl, a, f, sl, dx, ts, step s2, rfl, R4, hp4, trivial, fun v5 H5 d5 s5 rd5 tv5 R5 fr5 => ?_⟩
      have g5 := rd5.phi trivial hp4.le
      refine ⟨by show 4 ≤ sizeLine; decide, fun p2 hp6 => ?_⟩
      have s6 := same_new (o := .tup [.str "op", .int (s2.at_ : Int), v, v5]) hp6
      have tvv := tv.keep fun p vs h => s6 p _ (fr5.tup R4 _ _ (fr4.tup R3 _ _ (s3 p _ h)))
      refine ⟨ts.length - s5.at_, by omega, _, _, s5, _, by omega, fun d' s' h => hc d' s' (.opsMore ho rd5 h), .tup upd_same (.cons (.str _) (.cons (.int _) (.cons tvv (.cons (tv5.keep fun p vs => s6 p _) .nil)))), R5.same s6, (((fr2.trans (Fr.of s3)).trans fr4).trans fr5).trans (Fr.of s6), g5.1, by omega, by omega, rfl⟩
    · rw [if_neg (by rw [decide_eq_false ho]; decide)]
      exact ⟨_, rfl, q _ _ _ _ (hc d s2 (.opsEnd ho)) (tv.keep fun p vs => s3 p _) R3 (fr2.trans (Fr.of s3))⟩
theorem parts_step (T : Facts K mg w) {n : Nat} (R_Reader_read_part : FnG P w K mg base (3 * n + 7) T.f_Reader_read_part T.d_Reader_read_part ["self"] (sp_rd T.C_Reader n .part anyC)) :
    FnG P w K mg base (3 * n + 7 + 1) T.f_Reader_read_parts T.d_Reader_read_parts ["self", "end"] (sp_parts T.C_Reader n) := by
  refine fnG_of T.F_Reader_read_parts sc_Reader_read_parts (fun vs H Q E h => ?_) (fun cdv A outer s H vs Q hG hr h => ?_)
  · obtain ⟨_, _, _, _, _, _, _, rfl, _⟩ := h; rfl
  · obtain ⟨a, f, sl, dx, ts, st, e, rfl, he, R, hp, q⟩ := h
    have RR_Reader_read_part := hr
    refine ⟨_, (pss_cons (ps_set (i := 2) sc_Reader_read_parts.nd rfl (.inl rfl) (pe_lst (pa_cons (pe_methG0 (pv 0) T.Cl_Reader T.M_Reader_read_part R_Reader_read_part hG RR_Reader_read_part T.b_Reader_read_part) pa_nil)))
        (pss_cons (ps_while PassesOwn.never (pt_val (pe_methG (pv 0) T.Cl_Reader T.M_Reader_stands (ok_Reader_stands T) hG (hr.mono (by omega)) T.b_Reader_stands (pa_cons pe_str pa_nil))) (pss_cons (ps_expr (pe_methG0 (pv 0) T.Cl_Reader T.M_Reader_step (ok_Reader_step T) hG (hr.mono (by omega)) T.b_Reader_step))
        (pss_one (ps_expr (pe_bm PySem.F.plainAttrs_list PySem.F.slot_list_append PySem.F.type_list_append mt_append (pv 2) (pa_cons (pe_methG0 (pv 0) T.Cl_Reader T.M_Reader_read_part R_Reader_read_part hG RR_Reader_read_part T.b_Reader_read_part) pa_nil))))))
        (pss_cons (ps_expr (pe_methG (pv 0) T.Cl_Reader T.M_Reader_read_sign (ok_Reader_read_sign T) hG (hr.mono (by omega)) T.b_Reader_read_sign (pa_cons (pv 1) pa_nil)))
        (pss_one (ps_ret (pe_callTy call_tuple_of (by rfl) T.n_tuple (by decide +kernel) (pa_cons (pv 2) pa_nil))))))), ?_⟩
    have hgr : grow .part = 1 := rfl
    have hgm : ∀ ds, grow (.more ds) = 0 := fun _ => rfl
    have hph := hp.phi
    have hbig : (1000 : Nat) < sizeLine := by decide
    refine ⟨_, rfl, a, dx, _, rfl, R.at_, rfl, a, f, sl, dx, ts, st, rfl, R, hp, trivial, fun v0 H1 d0 s1 rd0 tv0 R1 fr1 => ?_⟩
    have g1 := rd0.phi trivial hp.le
    refine ⟨by show 1 ≤ sizeLine; decide, fun l hl => ?_⟩
    have s2 := same_new (o := .lst [v0]) hl
    have el : (upd H1 l (.lst [v0])) l = some (.lst [v0]) := upd_same
    have R2 := R1.same s2
    have tv2 := tv0.keep fun p vs => s2 p _
    have fr2 := fr1.trans (Fr.of s2)
    have nla : l ≠ a := fun z => by rw [z, R1.at_] at hl; cases hl
    have nls : l ≠ sl := fun z => by
      obtain ⟨as, e2, _⟩ := R1.stops
      rw [z, e2] at hl; cases hl
    have nlf : l ≠ f := fun z => by
      obtain ⟨as, e2, _⟩ := R1.found
      rw [z, e2] at hl; cases hl
    have hlH : H l = none := by
      cases hh : H l with
      | none => rfl
      | some o => rw [fr1 l o nla nls hh] at hl; cases hl
    generalize upd H1 l (.lst [v0]) = H2 at s2 el R2 tv2 fr2 ⊢
    clear s2 hl R1 tv0 fr1
    refine ⟨fun m σ' H' => ∃ (vs : List V) (ds : List PyData) (s3 : RS), m + s3.at_ = ts.length ∧ (∀ ds' s', Rd ts (.more ds) s3 ds' s' → Rd ts (.more [d0]) s1 ds' s') ∧ TrA H' vs ds ∧ vs.length ≤ 1 + s3.at_ ∧ H' l = some (.lst vs) ∧ IsR T.C_Reader f sl dx ts H' a s3 ∧ Fr a sl H H' ∧ s3.at_ ≤ ts.length ∧ s1.at_ ≤ s3.at_ ∧ Tr.phi ts s3 ≤ Tr.phi ts st + 1 ∧ σ' = [some (.ref a), some (.str e), some (.ref l)], ⟨ts.length - s1.at_, [v0], [d0], s1, by omega, fun _ _ h => h, .cons tv2 .nil, by show 1 ≤ _; omega, el, R2, fr2, g1.1, Nat.le_refl _, by omega, rfl⟩, fun m σ' H' hP => ?_⟩
    obtain ⟨vs, ds, s3, hm, hc, ta, lv, el3, R3, fr3, le3, ge3, ph3, rfl⟩ := hP
    refine ⟨_, rfl, a, dx, _, rfl, R3.at_, rfl, a, f, sl, dx, ts, s3, ",", rfl, R3, hp.tl, fun H4 s4 => ⟨_, rfl, ?_⟩⟩
    have R4 := R3.same s4
    dsimp only
    by_cases hcm : textAt ts s3 = ","
    · rw [if_pos (decide_eq_true hcm)]
      have hlt := text_lt (ts := ts) (s := s3) (by rw [hcm]; decide +kernel)
      have hst := step_phi hlt
      refine ⟨_, fun _ _ h => h, _, rfl, a, dx, _, rfl, R4.at_, rfl, a, f, sl, dx, ts, s3, rfl, R4, fun H5 R5 fr5 => ?_⟩
      have hp5 : Pre ts (step s3) n := hp.on hst.1 (by omega) (by omega)
      have el5 := fr5 _ _ nla nls (s4 _ _ el3)
      refine ⟨_, rfl, .inl ⟨rfl, _, SqL.of el5⟩, _, rfl, a, dx, _, rfl, R5.at_, rfl, a, f, sl, dx, ts, step s3, rfl, R5, hp5, trivial, fun v6 H6 d6 s6 rd6 tv6 R6 fr6 => ?_⟩
      have g6 := rd6.phi trivial hp5.le
      have el6 := fr6 _ _ nla nls el5
      have tl1 := hp.tl
      refine ⟨l, _, _, rfl, rfl, el6, by omega, ?_⟩
      have kt : ∀ p xs, H6 p = some (.tup xs) → (upd H6 l (.lst (vs ++ [v6]))) p = some (.tup xs) := fun p xs h => (upd_ne fun z => by rw [z, el6] at h; cases h).trans h
      have tall := ta.keep fun p xs h => kt p xs (fr6.tup R5 _ _ (fr5.tup R4 _ _ (s4 p _ h)))
      have R7 : IsR T.C_Reader f sl dx ts (upd H6 l (.lst (vs ++ [v6]))) a s6 := by
        obtain ⟨as, ef, hpf⟩ := R6.found
        obtain ⟨bs, es, hps⟩ := R6.stops
        exact ⟨(upd_ne nla.symm).trans R6.at_, ⟨as, (upd_ne nlf.symm).trans ef, pkeep (fun p t h => kt p _ h) hpf⟩, ⟨bs, (upd_ne nls.symm).trans es, pkeep (fun p t h => kt p _ h) hps⟩, R6.nf⟩
      have fr7 : Fr a sl H (upd H6 l (.lst (vs ++ [v6]))) := fun b o h1 h2 h => by
        rw [upd_ne (ne_of_none h hlH)]
        exact (((fr3.trans (Fr.of s4)).trans fr5).trans fr6) b o h1 h2 h
      refine ⟨ts.length - s6.at_, by omega, vs ++ [v6], ds ++ [d6], s6, by omega, fun ds' s' h => hc ds' s' (.moreMore hcm rd6 h), tall.snoc (tv6.keep kt), ?_, upd_same, R7, fr7, g6.1, by omega, by omega, rfl⟩
      rw [List.length_append, List.length_singleton]; omega
    · rw [if_neg (by rw [decide_eq_false hcm]; decide)]
      have hrd := hc ds s3 (.moreEnd hcm)
      refine ⟨_, rfl, a, dx, _, rfl, R4.at_, rfl, _, rfl, a, f, sl, dx, ts, s3, e, rfl, R4, hp.tl, stops_le (ts := ts) (m := 100000) (by omega), fun H5 R5 fr5 => ?_⟩
      have el5 := fr5 _ _ nla nls (s4 _ _ el3)
      refine ⟨_, rfl, l, _, rfl, .inl ⟨SqL.of el5, fun p hp6 => ?_⟩⟩
      have s6 := same_new (o := .tup vs) hp6
      exact q _ _ ds _ (.parts rd0 hrd) (.tup upd_same (ta.keep fun p xs h => s6 p _ (fr5.tup R4 _ _ (s4 p _ h)))) (R5.same s6) (((fr3.trans (Fr.of s4)).trans fr5).trans (Fr.of s6))
end K12

set_option maxHeartbeats 4000000
namespace K12
open PySem PySem.Spec PyProof.Rows L2 Gx Tk Tr
variable {P : Program} {w : World} {K : PySem.W.Frag} {mg : Str → Option Value} {base : Heap}
theorem eqS (x y : Str) : decide (V.str x = V.str y) = decide (x = y) := decide_eq_decide.mpr ⟨fun h => V.str.inj h, fun h => congrArg V.str h⟩
theorem single_step (T : Facts K mg w) {n : Nat} (R_Reader_read_named : FnG P w K mg base (3 * n + 5) T.f_Reader_read_named T.d_Reader_read_named ["self"] (sp_rd T.C_Reader n .single fun ts s => kd ts s = .name))
    (R_Reader_read_round : FnG P w K mg base (3 * n + 5) T.f_Reader_read_round T.d_Reader_read_round ["self"] (sp_rd T.C_Reader n .single fun ts s => kd ts s = .rd))
    (R_Reader_read_if : FnG P w K mg base (3 * n + 5) T.f_Reader_read_if T.d_Reader_read_if ["self"] (sp_rd T.C_Reader n .single fun ts s => kd ts s = .iff))
    (R_Reader_read_parts : FnG P w K mg base (3 * n + 5) T.f_Reader_read_parts T.d_Reader_read_parts ["self", "end"] (sp_parts' T.C_Reader n)) :
    FnG P w K mg base (3 * n + 5 + 1) T.f_Reader_read_single T.d_Reader_read_single ["self"] (sp_rd T.C_Reader n .single anyC) := by
  refine fnG_of T.F_Reader_read_single sc_Reader_read_single (fun vs H Q E h => ?_) (fun cdv A outer s H vs Q hG hr h => ?_)
  · obtain ⟨_, _, _, _, _, _, rfl, _⟩ := h; rfl
  · obtain ⟨a, f, sl, dx, ts, st, rfl, R, hp, _, q⟩ := h
    have RR_Reader_read_named := hr
    have RR_Reader_read_round := hr
    have RR_Reader_read_if := hr
    have RR_Reader_read_parts := hr
    refine ⟨_, (pss_cons (ps_asg (pe_methG0 (pv 0) T.Cl_Reader T.M_Reader_here (ok_Reader_here T) hG (hr.mono (by omega)) T.b_Reader_here) (pg_tup rfl (pgs_cons (pg_name (i := 1) sc_Reader_read_single.nd rfl (.inl rfl)) (pgs_cons (pg_name (i := 2) sc_Reader_read_single.nd rfl (.inl rfl)) pgs_nil))))
        (pss_cons (ps_if (PW.pt (pw_or (pt_cmpR op_in_seq (pv 1) (pe_tup (pa_cons pe_str (pa_cons pe_str pa_nil))) rfl) (pw_or1 (pt_cmpR op_in_seq (pv 2) (pe_glob (v := .ref T.C_FLAGS) rfl T.gC_FLAGS rfl) rfl)))) (pss_one (ps_ret (pe_tup (pa_cons pe_str (pa_cons (pe_methG0 (pv 0) T.Cl_Reader T.M_Reader_step (ok_Reader_step T) hG (hr.mono (by omega)) T.b_Reader_step) pa_nil))))) pss_nil)
        (pss_cons (ps_if (pt_cmpR op_eq (pv 1) pe_str (nomark _)) (pss_one (ps_ret (pe_methG0 (pv 0) T.Cl_Reader T.M_Reader_read_named R_Reader_read_named hG RR_Reader_read_named T.b_Reader_read_named))) pss_nil)
        (pss_cons (ps_if (pt_cmpR op_eq (pv 2) pe_str (nomark _)) (pss_one (ps_ret (pe_tup (pa_cons pe_str (pa_cons (pe_methG0 (pv 0) T.Cl_Reader T.M_Reader_step (ok_Reader_step T) hG (hr.mono (by omega)) T.b_Reader_step) (pa_cons (pe_methG (pv 0) T.Cl_Reader T.M_Reader_read_parts R_Reader_read_parts hG RR_Reader_read_parts T.b_Reader_read_parts (pa_cons pe_str pa_nil)) pa_nil)))))) pss_nil)
        (pss_cons (ps_if (pt_cmpR op_eq (pv 2) pe_str (nomark _)) (pss_one (ps_ret (pe_methG0 (pv 0) T.Cl_Reader T.M_Reader_read_round R_Reader_read_round hG RR_Reader_read_round T.b_Reader_read_round))) pss_nil)
        (pss_cons (ps_if (pt_cmpR op_eq (pv 2) pe_str (nomark _)) (pss_one (ps_ret (pe_methG0 (pv 0) T.Cl_Reader T.M_Reader_read_if R_Reader_read_if hG RR_Reader_read_if T.b_Reader_read_if))) pss_nil)
        (pss_cons (ps_expr (pe_methG (pv 0) T.Cl_Reader T.M_Reader_stop (ok_Reader_stop T) hG (hr.mono (by omega)) T.b_Reader_stop (pa_cons pe_str (pa_cons pe_str pa_nil))))
        (pss_one (ps_ret (pe_tup (pa_cons pe_str (pa_cons (pe_fld (pv 0) rfl) pa_nil)))))))))))), ?_⟩
    have e0 : ∀ b c : Bool, (if false = true then b else c) = c := fun _ _ => rfl
    refine ⟨_, rfl, a, dx, _, rfl, R.at_, rfl, a, f, sl, dx, ts, st, rfl, R, hp.tl, fun p1 H1 hp1 s1 e1 => ?_⟩
    have R1 := R.same s1
    refine ⟨p1, _, rfl, SqT.of e1, rfl, _, _, rfl, _, _, rfl, rfl, ?_⟩
    refine ⟨_, rfl, by show 2 ≤ sizeLine; decide, fun p2 hp2 => ?_⟩
    have s2 := s1.trans (same_new (o := .tup [.str "number", .str "word"]) hp2)
    have R2 := R.same s2
    have e2 : (upd H1 p2 (.tup [.str "number", .str "word"])) p2 = some (.tup ((["number", "word"] : List Str).map V.str)) := upd_same
    generalize upd H1 p2 (.tup [.str "number", .str "word"]) = H2 at s2 R2 e2 ⊢
    refine ⟨p2, _, rfl, .inr (SqT.of e2), rfl, flat_strs _, _, rfl, ?_⟩
    rw [inV_strs, e0]
    have lone : ∀ Hx, Same H Hx → kd ts st = .lone → ∀ Hy, IsR T.C_Reader f sl dx ts Hy a (step st) → Fr a sl Hx Hy → ∀ p, Hy p = none → Q (.ref p) (upd Hy p (.tup [.str "lone", .int (st.at_ : Int)])) := fun Hx sx hk Hy Ry fy p hp =>
      q _ _ _ _ (.lone hk) (.tup upd_same (.cons (.str _) (.cons (.int _) .nil))) (Ry.same (same_new hp)) (((Fr.of sx).trans fy).trans (Fr.of (same_new hp)))
    dsimp only
    by_cases hn : sortAt ts st ∈ (["number", "word"] : List Str)
    · rw [if_pos (decide_eq_true hn), if_pos rfl]
      have hk : kd ts st = .lone := by
        unfold kd
        rw [if_pos]
        rcases List.mem_cons.mp hn with h | h
        · exact .inl h
        · exact .inr (.inl (List.mem_singleton.mp h))
      exact ⟨_, rfl, a, dx, _, rfl, R2.at_, rfl, a, f, sl, dx, ts, st, rfl, R2, fun Hy Ry fy => ⟨by show 2 ≤ sizeLine; decide, fun p hp => lone _ s2 hk Hy Ry fy p hp⟩⟩
    rw [if_neg (by rw [decide_eq_false hn]; decide)]
    have hn1 : sortAt ts st ≠ "number" := fun e => hn (by rw [e]; exact List.mem_cons_self)
    have hn2 : sortAt ts st ≠ "word" := fun e => hn (by rw [e]; exact List.mem_cons_of_mem _ List.mem_cons_self)
    refine ⟨_, rfl, _, _, rfl, .inr (T.S_FLAGS.sqT (by decide) _), rfl, flat_strs _, _, rfl, ?_⟩
    rw [inV_strs, e0]
    dsimp only
    by_cases hf : textAt ts st ∈ (["yes", "no"] : List Str)
    · rw [if_pos (decide_eq_true hf)]
      have hk : kd ts st = .lone := by
        unfold kd
        rw [if_pos]
        rcases List.mem_cons.mp hf with h | h
        · exact .inr (.inr (.inl h))
        · exact .inr (.inr (.inr (List.mem_singleton.mp h)))
      exact ⟨_, rfl, a, dx, _, rfl, R2.at_, rfl, a, f, sl, dx, ts, st, rfl, R2, fun Hy Ry fy => ⟨by show 2 ≤ sizeLine; decide, fun p hp => lone _ s2 hk Hy Ry fy p hp⟩⟩
    rw [if_neg (by rw [decide_eq_false hf]; decide)]
    have hf1 : textAt ts st ≠ "yes" := fun e => hf (by rw [e]; exact List.mem_cons_self)
    have hf2 : textAt ts st ≠ "no" := fun e => hf (by rw [e]; exact List.mem_cons_of_mem _ List.mem_cons_self)
    have hlo : ¬ (sortAt ts st = "number" ∨ sortAt ts st = "word" ∨ textAt ts st = "yes" ∨ textAt ts st = "no") := fun h => by
      rcases h with h | h | h | h
      · exact hn1 h
      · exact hn2 h
      · exact hf1 h
      · exact hf2 h
    refine ⟨_, rfl, rfl, _, rfl, ?_⟩
    rw [eqS]
    dsimp only
    by_cases hN : sortAt ts st = "name"
    · rw [if_pos (decide_eq_true hN)]
      have hk : kd ts st = .name := by unfold kd; rw [if_neg hlo, if_pos hN]
      exact ⟨_, rfl, a, dx, _, rfl, R2.at_, rfl, a, f, sl, dx, ts, st, rfl, R2, hp, hk, fun v H' d s' rd tv R' fr => q v H' d s' rd tv R' ((Fr.of s2).trans fr)⟩
    rw [if_neg (by rw [decide_eq_false hN]; decide)]
    refine ⟨_, rfl, rfl, _, rfl, ?_⟩
    rw [eqS]
    dsimp only
    by_cases hS : textAt ts st = "["
    · rw [if_pos (decide_eq_true hS)]
      have hk : kd ts st = .sq := by unfold kd; rw [if_neg hlo, if_neg hN, if_pos hS]
      have hlt := kd_lt (ts := ts) (s := st) (by rw [hk]; decide)
      obtain ⟨k, rfl⟩ : ∃ k, n = k + 1 := ⟨n - 1, by have := hp.rem; omega⟩
      have hp3 := hp.step hlt
      refine ⟨_, rfl, a, dx, _, rfl, R2.at_, rfl, a, f, sl, dx, ts, st, rfl, R2, fun H3 R3 f3 => ?_⟩
      refine ⟨_, rfl, a, dx, _, rfl, R3.at_, rfl, k, rfl, a, f, sl, dx, ts, _, "]", rfl, by decide +kernel, R3, hp3, fun v H4 ds s4 rd4 tv4 R4 fr4 => ?_⟩
      refine ⟨by show 3 ≤ sizeLine; decide, fun p hp5 => ?_⟩
      have s5 := same_new (o := .tup [.str "list", .int (st.at_ : Int), v]) hp5
      exact q _ _ _ _ (.sq hk rd4) (.tup upd_same (.cons (.str _) (.cons (.int _) (.cons (tv4.keep fun p vs => s5 p _) .nil)))) (R4.same s5) ((((Fr.of s2).trans f3).trans fr4).trans (Fr.of s5))
    rw [if_neg (by rw [decide_eq_false hS]; decide)]
    refine ⟨_, rfl, rfl, _, rfl, ?_⟩
    rw [eqS]
    dsimp only
    by_cases hR : textAt ts st = "("
    · rw [if_pos (decide_eq_true hR)]
      have hk : kd ts st = .rd := by unfold kd; rw [if_neg hlo, if_neg hN, if_neg hS, if_pos hR]
      exact ⟨_, rfl, a, dx, _, rfl, R2.at_, rfl, a, f, sl, dx, ts, st, rfl, R2, hp, hk, fun v H' d s' rd tv R' fr => q v H' d s' rd tv R' ((Fr.of s2).trans fr)⟩
    rw [if_neg (by rw [decide_eq_false hR]; decide)]
    refine ⟨_, rfl, rfl, _, rfl, ?_⟩
    rw [eqS]
    dsimp only
    by_cases hI : textAt ts st = "if"
    · rw [if_pos (decide_eq_true hI)]
      have hk : kd ts st = .iff := by unfold kd; rw [if_neg hlo, if_neg hN, if_neg hS, if_neg hR, if_pos hI]
      exact ⟨_, rfl, a, dx, _, rfl, R2.at_, rfl, a, f, sl, dx, ts, st, rfl, R2, hp, hk, fun v H' d s' rd tv R' fr => q v H' d s' rd tv R' ((Fr.of s2).trans fr)⟩
    rw [if_neg (by rw [decide_eq_false hI]; decide)]
    have hk : kd ts st = .hole := by unfold kd; rw [if_neg hlo, if_neg hN, if_neg hS, if_neg hR, if_neg hI]
    refine ⟨_, rfl, a, dx, _, rfl, R2.at_, rfl, a, f, sl, dx, ts, st, "part", "", rfl, R2, Nat.le_trans hp.stops (by decide), fun H3 R3 f3 => ?_⟩
    have ea : H3 a = some (.ins T.C_Reader dx (rF f st.at_ sl)) := R3.at_
    refine ⟨_, rfl, a, _, dx, _, _, rfl, ea, T.Cl_Reader, T.NA_Reader_at, rF_at .., by show 2 ≤ sizeLine; decide, fun p hp5 => ?_⟩
    have s5 := same_new (o := .tup [.str "hole", .int (st.at_ : Int)]) hp5
    exact q _ _ _ _ (.hole hk) (.tup upd_same (.cons (.str _) (.cons (.int _) .nil))) (R3.same s5) (((Fr.of s2).trans f3).trans (Fr.of s5))
theorem FnG.vac {f : Addr} {fd : FuncData} {ps : List Str} {sp : Sp} {k : Nat} (h : ∀ vs H Q E, ¬ sp vs H Q E) : FnG P w K mg base k f fd ps sp := ⟨fun vs H Q E q => absurd q (h vs H Q E), fun A outer s H args us vs Q _ _ _ _ _ q => absurd q (h vs H Q E0)⟩
/-- the parts of a row, however many tokens stand there -/
theorem reads (T : Facts K mg w) : ∀ n : Nat, FnG P w K mg base (3 * n + 6) T.f_Reader_read_single T.d_Reader_read_single ["self"] (sp_rd T.C_Reader n .single anyC) ∧
    FnG P w K mg base (3 * n + 7) T.f_Reader_read_part T.d_Reader_read_part ["self"] (sp_rd T.C_Reader n .part anyC) ∧ FnG P w K mg base (3 * n + 8) T.f_Reader_read_parts T.d_Reader_read_parts ["self", "end"] (sp_parts T.C_Reader n)
  | 0 => by
    have no : ∀ {c : List Tkn → RS → Prop}, (∀ ts s, c ts s → kd ts s ≠ .hole) → ∀ vs H Q E, ¬ sp_rd T.C_Reader 0 .single c vs H Q E := fun hc vs H Q E ⟨_, _, _, _, ts, s, _, _, hp, hk, _⟩ => by
      have := kd_lt (hc ts s hk)
      have := hp.rem
      omega
    have h1 := single_step (P := P) (base := base) T (n := 0) (FnG.vac (no fun ts s h => by rw [h]; decide)) (FnG.vac (no fun ts s h => by rw [h]; decide)) (FnG.vac (no fun ts s h => by rw [h]; decide)) (FnG.vac fun vs H Q E ⟨k, h, _⟩ => by omega)
    have h2 := part_step T h1
    exact ⟨h1, h2, parts_step T h2⟩
  | m + 1 => by
    obtain ⟨i1, i2, i3⟩ := reads T m
    have hP : ∀ {j : Nat}, (m = 0 ∨ ∃ k, m = k + 1) → FnG P w K mg base (3 * m + 7) T.f_Reader_read_parts T.d_Reader_read_parts ["self", "end"] (sp_parts' T.C_Reader m) := fun h => by
      rcases h with rfl | ⟨k, rfl⟩
      · exact FnG.vac fun vs H Q E ⟨k, h, _⟩ => by omega
      · exact ((reads T k).2.2.mono (by omega)).weak fun vs H Q E ⟨k', h, hs⟩ => by
          obtain rfl : k' = k := by omega
          exact hs
    have hm : m = 0 ∨ ∃ k, m = k + 1 := by
      cases m with
      | zero => exact .inl rfl
      | succ k => exact .inr ⟨k, rfl⟩
    have hN := named_step T (hP (j := 0) hm)
    have hR := round_step T i2
    have hI := if_step T i2
    have hP1 : FnG P w K mg base (3 * m + 7 + 1) T.f_Reader_read_parts T.d_Reader_read_parts ["self", "end"] (sp_parts' T.C_Reader (m + 1)) := i3.weak fun vs H Q E ⟨k', h, hs⟩ => by
      obtain rfl : k' = m := by omega
      exact hs
    have e1 : 3 * (m + 1) + 5 = 3 * m + 7 + 1 := by omega
    have h1 := single_step (P := P) (base := base) T (n := m + 1) (by rw [e1]; exact hN) (by rw [e1]; exact hR) (by rw [e1]; exact hI) (by rw [e1]; exact hP1)
    have h2 := part_step T h1
    exact ⟨h1, h2, parts_step T h2⟩
end K12

set_option maxHeartbeats 4000000
namespace K12
open PySem PySem.Spec PyProof.Rows L2 Gx Tk Tr
variable {P : Program} {w : World} {K : PySem.W.Frag} {mg : Str → Option Value} {base : Heap}
theorem ok_Reader_read_part (T : Facts K mg w) : FnG P w K mg base 187 T.f_Reader_read_part T.d_Reader_read_part ["self"] (sp_rd T.C_Reader 60 .part anyC) := (reads T 60).2.1
theorem ok_Reader_read_kind (T : Facts K mg w) : FnG P w K mg base 2 T.f_Reader_read_kind T.d_Reader_read_kind ["self"] (sp_want T.C_Reader "told" isK) := by
  refine fnG_of T.F_Reader_read_kind sc_Reader_read_kind (fun vs H Q E h => ?_) (fun cdv A outer s H vs Q hG hr h => ?_)
  · obtain ⟨_, _, _, _, _, _, rfl, _⟩ := h; rfl
  · obtain ⟨a, f, sl, dx, ts, st, rfl, R, hl, hss, q⟩ := h
    refine ⟨_, (pss_cons (ps_if (pt_cmpR op_in_seq (pe_ix ix_tup (pe_methG0 (pv 0) T.Cl_Reader T.M_Reader_here (ok_Reader_here T) hG (hr.mono (by decide)) T.b_Reader_here) pe_int (fun _ _ => rfl)) (pe_glob (v := .ref T.C_KINDS) rfl T.gC_KINDS rfl) rfl) (pss_one (ps_ret (pe_methG0 (pv 0) T.Cl_Reader T.M_Reader_step (ok_Reader_step T) hG (hr.mono (by decide)) T.b_Reader_step))) pss_nil)
        (pss_cons (ps_expr (pe_methG (pv 0) T.Cl_Reader T.M_Reader_stop (ok_Reader_stop T) hG (hr.mono (by decide)) T.b_Reader_stop (pa_cons pe_str (pa_cons pe_str pa_nil))))
        (pss_one (ps_ret pe_non)))), ?_⟩
    have e0 : ∀ b c : Bool, (if false = true then b else c) = c := fun _ _ => rfl
    refine ⟨_, rfl, a, dx, _, rfl, R.at_, rfl, a, f, sl, dx, ts, st, rfl, R, hl, fun p H1 hp s1 e1 => ?_⟩
    have R1 := R.same s1
    refine ⟨p, _, _, _, rfl, rfl, SqT.of e1, atI_nat (j := 1) rfl, _, _, rfl, .inr (T.S_KINDS.sqT (by decide) _), rfl, flat_strs _, _, rfl, ?_⟩
    rw [inV_strs, e0]
    have eh : decide (textAt ts st ∈ (["num", "word", "flag", "nums", "words", "flags"] : List Str)) = isK ts st := rfl
    rw [eh]
    dsimp only
    cases h : isK ts st with
    | true =>
      rw [h] at q
      rw [if_pos rfl]
      exact ⟨_, rfl, a, dx, _, rfl, R1.at_, rfl, a, f, sl, dx, ts, st, rfl, R1, fun H2 R2 fr => q _ _ (.int _) (fun _ => .int _) R2 ((Fr.of s1).trans fr)⟩
    | false =>
      rw [h] at q
      rw [if_neg (by decide)]
      exact ⟨_, rfl, a, dx, _, rfl, R1.at_, rfl, a, f, sl, dx, ts, st, "told", "", rfl, R1, hss, fun H2 R2 fr => q _ _ .non (fun _ => .non) R2 ((Fr.of s1).trans fr)⟩
def sp_param (C : Addr) : Sp := fun vs H Q _ => ∃ (a f sl dx : Addr) (ts : List Tkn) (s : RS), vs = [.ref a] ∧ IsR C f sl dx ts H a s ∧ ts.length ≤ 1000 ∧ s.at_ ≤ ts.length ∧ Tr.phi ts s ≤ 99000 ∧
  ∀ p H', TrV H' (.ref p) (paramD ts s) → IsR C f sl dx ts H' a (paramS ts s) → Fr a sl H H' → Q (.ref p) H'
theorem ok_Reader_read_param (T : Facts K mg w) : FnG P w K mg base 3 T.f_Reader_read_param T.d_Reader_read_param ["self"] (sp_param T.C_Reader) := by
  refine fnG_of T.F_Reader_read_param sc_Reader_read_param (fun vs H Q E h => ?_) (fun cdv A outer s H vs Q hG hr h => ?_)
  · obtain ⟨_, _, _, _, _, _, rfl, _⟩ := h; rfl
  · obtain ⟨a, f, sl, dx, ts, st, rfl, R, hl, hle, hph, q⟩ := h
    refine ⟨_, (pss_cons (ps_set (i := 1) sc_Reader_read_param.nd rfl (.inl rfl) (pe_methG0 (pv 0) T.Cl_Reader T.M_Reader_read_name (ok_Reader_read_name T) hG (hr.mono (by decide)) T.b_Reader_read_name))
        (pss_one (ps_ret (pe_tup (pa_cons (pv 1) (pa_cons (pe_methG0 (pv 0) T.Cl_Reader T.M_Reader_read_kind (ok_Reader_read_kind T) hG (hr.mono (by decide)) T.b_Reader_read_kind) pa_nil)))))), ?_⟩
    have g1 := nameS_phi hle
    refine ⟨_, rfl, a, dx, _, rfl, R.at_, rfl, a, f, sl, dx, ts, st, rfl, R, hl, stops_le (ts := ts) (m := 100000) (by omega), fun v1 H1 _ tv1 R1 fr1 => ?_⟩
    have R1 : IsR T.C_Reader f sl dx ts H1 a (nameS ts st) := R1
    refine ⟨_, rfl, _, rfl, a, dx, _, rfl, R1.at_, rfl, a, f, sl, dx, ts, _, rfl, R1, hl, stops_le (ts := ts) (m := 100000) (by omega), fun v2 H2 _ tv2 R2 fr2 => ?_⟩
    refine ⟨by show 2 ≤ sizeLine; decide, fun p hp => ?_⟩
    have s3 := same_new (o := .tup [v1, v2]) hp
    exact q p _ (.tup upd_same (.cons (tv1 _) (.cons (tv2 _) .nil))) (IsR.same R2 s3) ((fr1.trans fr2).trans (Fr.of s3))
/-- a row's reader: what it tells of the row that begins with that word -/
def sp_row (C : Addr) (wd : Str) : Sp := fun vs H Q _ => ∃ (a f sl dx : Addr) (ts : List Tkn) (s : RS), vs = [.ref a] ∧ IsR C f sl dx ts H a s ∧ ts.length ≤ 60 ∧ s.at_ ≤ ts.length ∧ Tr.phi ts s ≤ 1000 ∧
  ∀ v H' d s', Rw ts wd s d s' → Tr.phi ts s' ≤ 10000 → TrV H' v d → IsR C f sl dx ts H' a s' → Fr a sl H H' → Q v H'
theorem ok_read_take (T : Facts K mg w) : FnG P w K mg base 3 T.f_read_take T.d_read_take ["reader"] (sp_row T.C_Reader "take") := by
  refine fnG_of T.F_read_take sc_read_take (fun vs H Q E h => ?_) (fun cdv A outer s H vs Q hG hr h => ?_)
  · obtain ⟨_, _, _, _, _, _, rfl, _⟩ := h; rfl
  · obtain ⟨a, f, sl, dx, ts, st, rfl, R, hl, hle, hph, q⟩ := h
    refine ⟨_, (pss_one (ps_ret (pe_tup (pa_cons pe_str (pa_cons (pe_methG0 (pv 0) T.Cl_Reader T.M_Reader_read_name (ok_Reader_read_name T) hG (hr.mono (by decide)) T.b_Reader_read_name) pa_nil))))), ?_⟩
    have g1 := nameS_phi hle
    refine ⟨_, rfl, a, dx, _, rfl, R.at_, rfl, a, f, sl, dx, ts, st, rfl, R, by omega, stops_le (ts := ts) (m := 100000) (by omega), fun v1 H1 _ tv1 R1 fr1 => ?_⟩
    refine ⟨by show 2 ≤ sizeLine; decide, fun p hp => ?_⟩
    have s3 := same_new (o := .tup [.str "take", v1]) hp
    exact q _ _ _ _ .take (by omega) (.tup upd_same (.cons (.str _) (.cons (tv1 _) .nil))) (IsR.same R1 s3) (fr1.trans (Fr.of s3))
theorem ok_read_let (T : Facts K mg w) : FnG P w K mg base 188 T.f_read_let T.d_read_let ["reader"] (sp_row T.C_Reader "let") := by
  refine fnG_of (k := 187) T.F_read_let sc_read_let (fun vs H Q E h => ?_) (fun cdv A outer s H vs Q hG hr h => ?_)
  · obtain ⟨_, _, _, _, _, _, rfl, _⟩ := h; rfl
  · obtain ⟨a, f, sl, dx, ts, st, rfl, R, hl, hle, hph, q⟩ := h
    refine ⟨_, (pss_cons (ps_set (i := 1) sc_read_let.nd rfl (.inl rfl) (pe_methG0 (pv 0) T.Cl_Reader T.M_Reader_read_name (ok_Reader_read_name T) hG (hr.mono (by decide)) T.b_Reader_read_name))
        (pss_cons (ps_expr (pe_methG (pv 0) T.Cl_Reader T.M_Reader_read_sign (ok_Reader_read_sign T) hG (hr.mono (by decide)) T.b_Reader_read_sign (pa_cons pe_str pa_nil)))
        (pss_one (ps_ret (pe_tup (pa_cons pe_str (pa_cons (pv 1) (pa_cons (pe_methG0 (pv 0) T.Cl_Reader T.M_Reader_read_part (ok_Reader_read_part T) hG (hr.mono (by decide)) T.b_Reader_read_part) pa_nil)))))))), ?_⟩
    have g1 := nameS_phi hle
    have g2 := sign_phi ts (e := "=") (by decide +kernel) _ g1.1
    have hgr : grow .part = 1 := rfl
    refine ⟨_, rfl, a, dx, _, rfl, R.at_, rfl, a, f, sl, dx, ts, st, rfl, R, by omega, stops_le (ts := ts) (m := 100000) (by omega), fun v1 H1 _ tv1 R1 fr1 => ?_⟩
    have R1 : IsR T.C_Reader f sl dx ts H1 a (nameS ts st) := R1
    refine ⟨_, rfl, a, dx, _, rfl, R1.at_, rfl, a, f, sl, dx, ts, _, "=", rfl, R1, by omega, stops_le (ts := ts) (m := 100000) (by omega), fun H2 R2 fr2 => ?_⟩
    refine ⟨_, rfl, _, rfl, a, dx, _, rfl, R2.at_, rfl, a, f, sl, dx, ts, _, rfl, R2, ⟨by omega, g2.1, by omega, by omega⟩, trivial, fun v3 H3 d3 s3 rd3 tv3 R3 fr3 => ?_⟩
    have g3 := rd3.phi trivial g2.1
    refine ⟨by show 3 ≤ sizeLine; decide, fun p hp => ?_⟩
    have s4 := same_new (o := .tup [.str "let", v1, v3]) hp
    exact q _ _ _ _ (.lets rd3) (by omega) (.tup upd_same (.cons (.str _) (.cons (tv1 _) (.cons (tv3.keep fun p vs => s4 p _) .nil)))) (R3.same s4) (((fr1.trans fr2).trans fr3).trans (Fr.of s4))
end K12

set_option maxHeartbeats 4000000
namespace K12
open PySem PySem.Spec PyProof.Rows L2 Gx Tk Tr
variable {P : Program} {w : World} {K : PySem.W.Frag} {mg : Str → Option Value} {base : Heap}
theorem ok_read_def (T : Facts K mg w) : FnG P w K mg base 188 T.f_read_def T.d_read_def ["reader"] (sp_row T.C_Reader "def") := by
  refine fnG_of (k := 187) T.F_read_def sc_read_def (fun vs H Q E h => ?_) (fun cdv A outer s H vs Q hG hr h => ?_)
  · obtain ⟨_, _, _, _, _, _, rfl, _⟩ := h; rfl
  · obtain ⟨a, f, sl, dx, ts, st, rfl, R, hl0, hle, hph, q⟩ := h
    refine ⟨_, (pss_cons (ps_set (i := 1) sc_read_def.nd rfl (.inl rfl) (pe_methG0 (pv 0) T.Cl_Reader T.M_Reader_read_name (ok_Reader_read_name T) hG (hr.mono (by decide)) T.b_Reader_read_name))
        (pss_cons (ps_expr (pe_methG (pv 0) T.Cl_Reader T.M_Reader_read_sign (ok_Reader_read_sign T) hG (hr.mono (by decide)) T.b_Reader_read_sign (pa_cons pe_str pa_nil)))
        (pss_cons (ps_set (i := 2) sc_read_def.nd rfl (.inl rfl) (pe_lst (pa_cons (pe_methG0 (pv 0) T.Cl_Reader T.M_Reader_read_param (ok_Reader_read_param T) hG (hr.mono (by decide)) T.b_Reader_read_param) pa_nil)))
        (pss_cons (ps_while PassesOwn.never (pt_val (pe_methG (pv 0) T.Cl_Reader T.M_Reader_stands (ok_Reader_stands T) hG (hr.mono (by decide)) T.b_Reader_stands (pa_cons pe_str pa_nil))) (pss_cons (ps_expr (pe_methG0 (pv 0) T.Cl_Reader T.M_Reader_step (ok_Reader_step T) hG (hr.mono (by decide)) T.b_Reader_step))
        (pss_one (ps_expr (pe_bm PySem.F.plainAttrs_list PySem.F.slot_list_append PySem.F.type_list_append mt_append (pv 2) (pa_cons (pe_methG0 (pv 0) T.Cl_Reader T.M_Reader_read_param (ok_Reader_read_param T) hG (hr.mono (by decide)) T.b_Reader_read_param) pa_nil))))))
        (pss_cons (ps_expr (pe_methG (pv 0) T.Cl_Reader T.M_Reader_read_sign (ok_Reader_read_sign T) hG (hr.mono (by decide)) T.b_Reader_read_sign (pa_cons pe_str pa_nil)))
        (pss_cons (ps_expr (pe_methG (pv 0) T.Cl_Reader T.M_Reader_read_sign (ok_Reader_read_sign T) hG (hr.mono (by decide)) T.b_Reader_read_sign (pa_cons pe_str pa_nil)))
        (pss_one (ps_ret (pe_tup (pa_cons pe_str (pa_cons (pv 1) (pa_cons (pe_callTy call_tuple_of (by rfl) T.n_tuple (by decide +kernel) (pa_cons (pv 2) pa_nil)) (pa_cons (pe_methG0 (pv 0) T.Cl_Reader T.M_Reader_read_part (ok_Reader_read_part T) hG (hr.mono (by decide)) T.b_Reader_read_part) pa_nil))))))))))))), ?_⟩
    have hbig : (1000 : Nat) < sizeLine := by decide
    have g1 := nameS_phi hle
    have g2 := sign_phi ts (e := "(") (by decide +kernel) _ g1.1
    have gp := paramS_phi g2.1
    have hgr : grow .part = 1 := rfl
    refine ⟨_, rfl, a, dx, _, rfl, R.at_, rfl, a, f, sl, dx, ts, st, rfl, R, by omega, stops_le (ts := ts) (m := 100000) (by omega), fun v1 Hn _ tvn Rn frn => ?_⟩
    have Rn : IsR T.C_Reader f sl dx ts Hn a (nameS ts st) := Rn
    refine ⟨_, rfl, a, dx, _, rfl, Rn.at_, rfl, a, f, sl, dx, ts, _, "(", rfl, Rn, by omega, stops_le (ts := ts) (m := 100000) (by omega), fun Hs Rs frs => ?_⟩
    refine ⟨_, rfl, a, dx, _, rfl, Rs.at_, rfl, a, f, sl, dx, ts, _, rfl, Rs, by omega, g2.1, by omega, fun p0 H1 tv0 R1 fr0 => ?_⟩
    have fr1 := (frn.trans frs).trans fr0
    clear frn frs fr0 Rn Rs
    refine ⟨by show 1 ≤ sizeLine; decide, fun l hl => ?_⟩
    have s2 := same_new (o := .lst [.ref p0]) hl
    have el : (upd H1 l (.lst [.ref p0])) l = some (.lst [.ref p0]) := upd_same
    have R2 := R1.same s2
    have tv2 := tv0.keep fun p vs => s2 p _
    have fr2 := fr1.trans (Fr.of s2)
    have nla : l ≠ a := fun z => by rw [z, R1.at_] at hl; cases hl
    have nls : l ≠ sl := fun z => by
      obtain ⟨as, e2, _⟩ := R1.stops
      rw [z, e2] at hl; cases hl
    have nlf : l ≠ f := fun z => by
      obtain ⟨as, e2, _⟩ := R1.found
      rw [z, e2] at hl; cases hl
    have hlH : H l = none := by
      cases hh : H l with
      | none => rfl
      | some o => rw [fr1 l o nla nls hh] at hl; cases hl
    generalize upd H1 l (.lst [.ref p0]) = H2 at s2 el R2 tv2 fr2 ⊢
    clear s2 hl R1 tv0 fr1
    obtain ⟨sg, esg⟩ : ∃ sg, sg = sign ts "(" (nameS ts st) := ⟨_, rfl⟩
    rw [← esg] at g2 gp R2 tv2
    refine ⟨fun m σ' H' => ∃ (vs : List V) (ds : List PyData) (s3 : RS), m + s3.at_ = ts.length ∧ (∀ ds' s', Pm ts ds s3 ds' s' → Pm ts [paramD ts sg] (paramS ts sg) ds' s') ∧ TrA H' vs ds ∧ vs.length ≤ 1 + s3.at_ ∧ H' l = some (.lst vs) ∧ IsR T.C_Reader f sl dx ts H' a s3 ∧ Fr a sl H H' ∧ s3.at_ ≤ ts.length ∧ Tr.phi ts s3 ≤ 2000 ∧ σ' = [some (.ref a), some v1, some (.ref l)], ⟨ts.length - (paramS ts sg).at_, [.ref p0], [paramD ts sg], paramS ts sg, by omega, fun _ _ h => h, .cons tv2 .nil, by show 1 ≤ _; omega, el, R2, fr2, gp.1, by omega, rfl⟩, fun m σ' H' hP => ?_⟩
    obtain ⟨vs, ds, s3, hm, hc, ta, lv, el3, R3, fr3, le3, ph3, rfl⟩ := hP
    refine ⟨_, rfl, a, dx, _, rfl, R3.at_, rfl, a, f, sl, dx, ts, s3, ",", rfl, R3, by omega, fun H4 s4 => ⟨_, rfl, ?_⟩⟩
    have R4 := R3.same s4
    dsimp only
    by_cases hcm : textAt ts s3 = ","
    · rw [if_pos (decide_eq_true hcm)]
      have hlt := text_lt (ts := ts) (s := s3) (by rw [hcm]; decide +kernel)
      have hst := step_phi hlt
      have gp6 := paramS_phi hst.1
      refine ⟨_, fun _ _ h => h, _, rfl, a, dx, _, rfl, R4.at_, rfl, a, f, sl, dx, ts, s3, rfl, R4, fun H5 R5 fr5 => ?_⟩
      have el5 := fr5 _ _ nla nls (s4 _ _ el3)
      refine ⟨_, rfl, .inl ⟨rfl, _, SqL.of el5⟩, _, rfl, a, dx, _, rfl, R5.at_, rfl, a, f, sl, dx, ts, step s3, rfl, R5, by omega, hst.1, by omega, fun v6 H6 tv6 R6 fr6 => ?_⟩
      have el6 := fr6 _ _ nla nls el5
      refine ⟨l, _, _, rfl, rfl, el6, by omega, ?_⟩
      have kt : ∀ p xs, H6 p = some (.tup xs) → (upd H6 l (.lst (vs ++ [.ref v6]))) p = some (.tup xs) := fun p xs h => (upd_ne fun z => by rw [z, el6] at h; cases h).trans h
      have tall := ta.keep fun p xs h => kt p xs (fr6.tup R5 _ _ (fr5.tup R4 _ _ (s4 p _ h)))
      have R7 : IsR T.C_Reader f sl dx ts (upd H6 l (.lst (vs ++ [.ref v6]))) a (paramS ts (step s3)) := by
        obtain ⟨as, ef, hpf⟩ := R6.found
        obtain ⟨bs, es, hps⟩ := R6.stops
        exact ⟨(upd_ne nla.symm).trans R6.at_, ⟨as, (upd_ne nlf.symm).trans ef, pkeep (fun p t h => kt p _ h) hpf⟩, ⟨bs, (upd_ne nls.symm).trans es, pkeep (fun p t h => kt p _ h) hps⟩, R6.nf⟩
      have fr7 : Fr a sl H (upd H6 l (.lst (vs ++ [.ref v6]))) := fun b o h1 h2 h => by
        rw [upd_ne (ne_of_none h hlH)]
        exact (((fr3.trans (Fr.of s4)).trans fr5).trans fr6) b o h1 h2 h
      refine ⟨ts.length - (paramS ts (step s3)).at_, by omega, vs ++ [.ref v6], ds ++ [paramD ts (step s3)], paramS ts (step s3), by omega, fun ds' s' h => hc ds' s' (.more hcm h), tall.snoc (tv6.keep kt), ?_, upd_same, R7, fr7, gp6.1, by omega, rfl⟩
      rw [List.length_append, List.length_singleton]; omega
    · rw [if_neg (by rw [decide_eq_false hcm]; decide)]
      have hpm := hc ds s3 (.done hcm)
      have g5 := sign_phi ts (e := ")") (by decide +kernel) s3 le3
      have g6 := sign_phi ts (e := "=") (by decide +kernel) _ g5.1
      refine ⟨_, rfl, a, dx, _, rfl, R4.at_, rfl, a, f, sl, dx, ts, s3, ")", rfl, R4, by omega, stops_le (ts := ts) (m := 100000) (by omega), fun H5 R5 fr5 => ?_⟩
      refine ⟨_, rfl, a, dx, _, rfl, R5.at_, rfl, a, f, sl, dx, ts, _, "=", rfl, R5, by omega, stops_le (ts := ts) (m := 100000) (by omega), fun H6 R6 fr6 => ?_⟩
      have el6 := fr6 _ _ nla nls (fr5 _ _ nla nls (s4 _ _ el3))
      refine ⟨_, rfl, _, rfl, l, _, rfl, .inl ⟨SqL.of el6, fun pt hpt => ?_⟩⟩
      have s7 := same_new (o := .tup vs) hpt
      have ept : (upd H6 pt (.tup vs)) pt = some (.tup vs) := upd_same
      have R7 := R6.same s7
      generalize upd H6 pt (.tup vs) = H7 at s7 ept R7 ⊢
      refine ⟨_, rfl, a, dx, _, rfl, R7.at_, rfl, a, f, sl, dx, ts, _, rfl, R7, ⟨by omega, g6.1, by omega, by omega⟩, trivial, fun v8 H8 d8 s8 rd8 tv8 R8 fr8 => ?_⟩
      have g8 := rd8.phi trivial g6.1
      refine ⟨by show 4 ≤ sizeLine; decide, fun p hp => ?_⟩
      have s9 := same_new (o := .tup [.str "def", v1, .ref pt, v8]) hp
      have tds : TrV (upd H8 p (.tup [.str "def", v1, .ref pt, v8])) (.ref pt) (.tuple ds) := .tup (s9 _ _ (fr8.tup R7 _ _ ept)) (ta.keep fun p xs h => s9 p _ (fr8.tup R7 _ _ (s7 p _ (fr6.tup R5 _ _ (fr5.tup R4 _ _ (s4 p _ h))))))
      rw [esg] at hpm
      exact q _ _ _ _ (.defs hpm rd8) (by omega) (.tup upd_same (.cons (.str _) (.cons (tvn _) (.cons tds (.cons (tv8.keep fun p vs => s9 p _) .nil))))) (R8.same s9) ((((((fr3.trans (Fr.of s4)).trans fr5).trans fr6).trans (Fr.of s7)).trans fr8).trans (Fr.of s9))
end K12

set_option maxHeartbeats 4000000
namespace K12
open PySem PySem.Spec PyProof.Rows L2 Gx Tk Tr
variable {P : Program} {w : World} {K : PySem.W.Frag} {mg : Str → Option Value} {base : Heap}
def sp_init (C : Addr) : Sp := fun vs H Q _ => ∃ (a f dx : Addr) (ts : List Tkn), vs = [.ref a, .ref f] ∧ H a = some (.ins C dx []) ∧ TokL H f ts ∧ ∀ sl H', H sl = none → IsR C f sl dx ts H' a ⟨0, []⟩ → (∀ b o, b ≠ a → H b = some o → H' b = some o) → Q .non H'
theorem ok_Reader___init__ (T : Facts K mg w) : FnG P w K mg base 1 T.f_Reader___init__ T.d_Reader___init__ ["self", "found"] (sp_init T.C_Reader) := by
  refine fnG_of T.F_Reader___init__ sc_Reader___init__ (fun vs H Q E h => ?_) (fun cdv A outer s H vs Q hG hr h => ?_)
  · obtain ⟨_, _, _, _, rfl, _⟩ := h; rfl
  · obtain ⟨a, f, dx, ts, rfl, ea, tl, q⟩ := h
    refine ⟨_, (pss_cons (ps_fld (pv 0) (pv 1) rfl)
        (pss_cons (ps_fld (pv 0) pe_int rfl)
        (pss_one (ps_fld (pv 0) (pe_lst pa_nil) rfl)))), ?_⟩
    obtain ⟨as, ef, hp⟩ := tl
    refine ⟨_, rfl, _, rfl, a, _, dx, _, rfl, ea, T.Cl_Reader, T.NA_Reader_found, by show 0 < 1000; decide, ?_⟩
    refine ⟨_, rfl, a, _, dx, _, rfl, upd_same, T.Cl_Reader, T.NA_Reader_at, by show 1 < 1000; decide, ?_⟩
    rw [upd_upd]
    refine ⟨by show 0 ≤ sizeLine; decide, fun sl hsl => ?_⟩
    have nsa : sl ≠ a := fun z => by rw [z, upd_same] at hsl; cases hsl
    have hslH : H sl = none := by rw [upd_ne nsa] at hsl; exact hsl
    refine ⟨_, rfl, a, _, dx, _, rfl, (upd_ne nsa.symm).trans upd_same, T.Cl_Reader, T.NA_Reader_stops, by show 2 < 1000; decide, ?_⟩
    have ne : ∀ b o, H b = some o → (∀ C dx fs, o ≠ .ins C dx fs) → b ≠ a := fun b o e n z => by
      rw [z, ea] at e; injection e with e; exact n _ _ _ e.symm
    have fr : ∀ b o, b ≠ a → H b = some o → (upd (upd (upd H a (.ins T.C_Reader dx (putF "at" (.int 0) (putF "found" (.ref f) [])))) sl (.lst [])) a (.ins T.C_Reader dx (putF "stops" (.ref sl) (putF "at" (.int 0) (putF "found" (.ref f) []))))) b = some o := fun b o hb h => by
      rw [upd_ne hb, upd_ne (ne_of_none h hslH), upd_ne hb]; exact h
    refine q sl _ hslH ⟨upd_same, ⟨as, fr _ _ (ne _ _ ef (by intro _ _ _ z; cases z)) ef, pkeep (fun p t h => fr _ _ (ne _ _ h (by intro _ _ _ z; cases z)) h) hp⟩, ⟨[], (upd_ne nsa).trans upd_same, .nil⟩, ne_of_none ef hslH⟩ fr
def sp_read : Sp := fun vs H Q _ => ∃ (f : Addr) (ts : List Tkn), vs = [.ref f] ∧ TokL H f ts ∧ ts.length ≤ 60 ∧ ∀ p sl v d ss H', H sl = none → Whole ts d ss → H' p = some (.tup [v, .ref sl]) → TrV H' v d → StopL H' sl ss → Same H H' → Q (.ref p) H'
theorem ok_read (T : Facts K mg w) : FnG P w K mg base 189 T.f_read T.d_read ["found"] sp_read := by
  refine fnG_of (k := 188) T.F_read sc_read (fun vs H Q E h => ?_) (fun cdv A outer s H vs Q hG hr h => ?_)
  · obtain ⟨_, _, rfl, _⟩ := h; rfl
  · obtain ⟨f, ts, rfl, tl, hl, q⟩ := h
    let DA : Addr → Prop := fun g => g = T.f_read_take ∨ g = T.f_read_let ∨ g = T.f_read_def
    let RA : Addr → Sp := fun g vs H Q E => (g = T.f_read_take ∧ sp_row T.C_Reader "take" vs H Q E) ∨ (g = T.f_read_let ∧ sp_row T.C_Reader "let" vs H Q E) ∨ (g = T.f_read_def ∧ sp_row T.C_Reader "def" vs H Q E)
    have FA : ∀ g vs H Q, DA g → RA g vs H Q E0 → ∃ k fd ps sp, FnG P w K mg base k g fd ps sp ∧ Room k (A.deeper (envOfC "read" (defScope s_read) s.heap.objs.size T.f_read cdv)) ∧ Binds K fd ps [] ∧ sp vs H Q E0 := fun g vs H Q _ h => by
      rcases h with ⟨rfl, h⟩ | ⟨rfl, h⟩ | ⟨rfl, h⟩
      · exact ⟨_, _, _, _, ok_read_take T, hr.mono (by decide), T.b_read_take, h⟩
      · exact ⟨_, _, _, _, ok_read_let T, hr, T.b_read_let, h⟩
      · exact ⟨_, _, _, _, ok_read_def T, hr, T.b_read_def, h⟩
    have KA : ∀ g, DA g → PySem.W.keepIn K (.ref g) = true := fun g h => by
      rcases h with rfl | rfl | rfl
      · exact T.F_read_take.kp
      · exact T.F_read_let.kp
      · exact T.F_read_def.kp
    refine ⟨_, (pss_cons (ps_if (pt_not (pt_truth (pv 0) (by intro _; rfl))) (pss_one (ps_ret (pe_tup (pa_cons (pe_tup (pa_cons pe_str pa_nil)) (pa_cons (pe_lst pa_nil) pa_nil))))) pss_nil)
        (pss_cons (ps_set (i := 1) sc_read.nd rfl (.inl rfl) (pe_kget (pe_glob (v := .ref T.C_ROWS) rfl T.gC_ROWS rfl) (pe_ix ix_tup (pe_ix ix_list (pv 0) pe_int (fun _ _ => rfl)) pe_int (fun _ _ => rfl)) ⟨rfl, rfl, rfl, rfl⟩))
        (pss_cons (ps_if (pt_cmpR op_isN (pv 1) pe_non (nomark _)) (pss_one (ps_ret (pe_tup (pa_cons (pe_tup (pa_cons pe_str pa_nil)) (pa_cons (pe_lst (pa_cons (pe_tup (pa_cons pe_str (pa_cons pe_int (pa_cons pe_str pa_nil)))) pa_nil)) pa_nil))))) pss_nil)
        (pss_cons (ps_set (i := 2) sc_read.nd rfl (.inl rfl) (pe_makeG T.Mk_Reader (ok_Reader___init__ T) hG (hr.mono (by decide)) (by rfl) T.gC_Reader T.b_Reader___init__ (pa_cons (pv 0) pa_nil)))
        (pss_cons (ps_expr (pe_methG0 (pv 2) T.Cl_Reader T.M_Reader_step (ok_Reader_step T) hG (hr.mono (by decide)) T.b_Reader_step))
        (pss_cons (ps_set (i := 3) sc_read.nd rfl (.inl rfl) (pe_goA (i := 1) (D := DA) (R := RA) FA hG KA (by rfl) (.inl rfl) (pa_cons (pv 2) pa_nil)))
        (pss_cons (ps_if (pt_cmpR op_lt (pe_fld (pv 2) rfl) (pe_callB call_len_seq (by rfl) T.n_len PySem.boot_len (pa_cons (pv 0) pa_nil)) (nomark _)) (pss_one (ps_expr (pe_methG (pv 2) T.Cl_Reader T.M_Reader_stop (ok_Reader_stop T) hG (hr.mono (by decide)) T.b_Reader_stop (pa_cons pe_str (pa_cons pe_str pa_nil))))) pss_nil)
        (pss_one (ps_ret (pe_tup (pa_cons (pv 3) (pa_cons (pe_fld (pv 2) rfl) pa_nil)))))))))))), ?_⟩
    obtain ⟨as, ef, hp⟩ := tl
    have hal := Tk.paired_len hp
    cases ts with
    | nil =>
      have eas : as = [] := List.length_eq_zero_iff.mp hal
      subst eas
      refine ⟨_, rfl, false, ?_, ?_⟩
      · exact .inl ⟨_, SqL.of ef, rfl⟩
      dsimp only
      rw [if_pos (by decide)]
      refine ⟨by show 1 ≤ sizeLine; decide, fun p1 hp1 => ?_⟩
      have s1 := same_new (o := .tup [.str "bare"]) hp1
      have e1 : (upd H p1 (.tup [.str "bare"])) p1 = some (.tup [.str "bare"]) := upd_same
      generalize upd H p1 (.tup [.str "bare"]) = H1 at s1 e1 ⊢
      refine ⟨by show 0 ≤ sizeLine; decide, fun p2 hp2 => ?_⟩
      have s2 := same_new (o := .lst []) hp2
      have e2 : (upd H1 p2 (.lst [])) p2 = some (.lst []) := upd_same
      generalize upd H1 p2 (.lst []) = H2 at s2 e2 ⊢
      refine ⟨by show 2 ≤ sizeLine; decide, fun p3 hp3 => ?_⟩
      have s3 := same_new (o := .tup [.ref p1, .ref p2]) hp3
      exact q p3 p2 _ _ _ _ (s1.free hp2) (.bare rfl) upd_same (.tup (s3 _ _ (s2 _ _ e1)) (.cons (.str _) .nil)) ⟨[], s3 _ _ e2, .nil⟩ ((s1.trans s2).trans s3)
    | cons t0 ts1 =>
      refine ⟨_, rfl, true, ?_, ?_⟩
      · refine .inl ⟨_, SqL.of ef, ?_⟩
        cases as with
        | nil => cases hal
        | cons _ _ => rfl
      dsimp only
      rw [if_neg (by decide)]
      obtain ⟨b0, hb0⟩ : ∃ b0, as[0]? = some b0 := ⟨_, List.getElem?_eq_getElem (by rw [hal]; exact Nat.succ_pos _)⟩
      obtain ⟨t, ht, hta⟩ := Tk.paired_get hp hb0
      obtain rfl : t0 = t := by simpa using ht
      have ew : word0 (t0 :: ts1) = t0.2.1 := rfl
      refine ⟨_, _, rfl, T.D_ROWS, _, rfl, f, _, _, _, rfl, rfl, SqL.of ef, atI_nat (j := 0) (by rw [List.getElem?_map, hb0]; rfl), b0, _, _, _, rfl, rfl, SqT.of hta, atI_nat (j := 1) rfl, ?_⟩
      obtain ⟨wd, ewd⟩ : ∃ wd, t0.2.1 = wd := ⟨_, rfl⟩
      rw [ewd] at ew ⊢
      by_cases hw : wd ∈ rowW
      · obtain ⟨g, hg, hr1, hr2⟩ : ∃ g, DA g ∧ RelV (.ref g) (([(("take" : Str), Value.ref T.f_read_take), ("let", .ref T.f_read_let), ("def", .ref T.f_read_def)].lookup wd).getD .none) ∧ ∀ vs H Q, sp_row T.C_Reader wd vs H Q E0 → RA g vs H Q E0 := by
          have h3 : wd = "take" ∨ wd = "let" ∨ wd = "def" := by
            rcases List.mem_cons.mp hw with h | h
            · exact .inl h
            rcases List.mem_cons.mp h with h | h
            · exact .inr (.inl h)
            · exact .inr (.inr (List.mem_singleton.mp h))
          rcases h3 with rfl | rfl | rfl
          · exact ⟨T.f_read_take, .inl rfl, rfl, fun vs H Q h => .inl ⟨rfl, h⟩⟩
          · exact ⟨T.f_read_let, .inr (.inl rfl), rfl, fun vs H Q h => .inr (.inl ⟨rfl, h⟩)⟩
          · exact ⟨T.f_read_def, .inr (.inr rfl), rfl, fun vs H Q h => .inr (.inr ⟨rfl, h⟩)⟩
        refine ⟨wd, .ref g, rfl, hr1, ?_⟩
        refine ⟨_, rfl, rfl, _, rfl, ?_⟩
        dsimp only
        rw [if_neg (by simp)]
        refine ⟨_, rfl, fun a dx ha hdx hne => ?_⟩
        have s1 : Same H (upd (upd H dx (.own a)) a (.ins T.C_Reader dx [])) := fun b o h => by
          rw [upd_ne (ne_of_none h ha), upd_ne (ne_of_none h hdx)]; exact h
        have tl1 : TokL H f (t0 :: ts1) := ⟨as, ef, hp⟩
        refine ⟨a, f, dx, _, rfl, upd_same, tl1.same s1, fun sl H2 hsl R2 fr2 => ⟨rfl, ?_⟩⟩
        have hslH : H sl = none := by
          cases hh : H sl with
          | none => rfl
          | some o => rw [s1 _ _ hh] at hsl; cases hsl
        have sm2 : Same H H2 := fun b o h => fr2 b o (ne_of_none h ha) (s1 b o h)
        have hlt0 : (⟨0, []⟩ : RS).at_ < (t0 :: ts1).length := Nat.succ_pos _
        have hst := step_phi hlt0
        have hph0 : Tr.phi (t0 :: ts1) ⟨0, []⟩ ≤ 480 := by
          show 0 + 8 * ((t0 :: ts1).length - 0) ≤ 480
          omega
        refine ⟨_, rfl, a, dx, _, rfl, R2.at_, rfl, a, f, sl, dx, _, _, rfl, R2, fun H3 R3 fr3 => ?_⟩
        refine ⟨g, rfl, hg, _, rfl, hr2 _ _ _ ⟨a, f, sl, dx, _, _, rfl, R3, hl, hst.1, by omega, fun v H4 d s4 rw4 ph4 tv4 R4 fr4 => ?_⟩⟩
        have fr34 := fr3.trans fr4
        have sm4 : Same H H4 := fun b o h => fr34 b o (ne_of_none h ha) (ne_of_none h hslH) (sm2 b o h)
        have ea4 : H4 a = some (.ins T.C_Reader dx (rF f s4.at_ sl)) := R4.at_
        obtain ⟨as4, ef4, hp4⟩ := R4.found
        have hal4 := Tk.paired_len hp4
        refine ⟨_, rfl, a, _, dx, _, _, rfl, ea4, T.Cl_Reader, T.NA_Reader_at, rF_at .., ?_⟩
        refine ⟨_, rfl, f, _, rfl, .inl (SqL.of ef4), _, _, rfl, rfl, _, rfl, ?_⟩
        dsimp only
        rw [List.length_map, hal4]
        by_cases hx : s4.at_ < (t0 :: ts1).length
        · rw [if_pos (decide_eq_true (by omega))]
          refine ⟨_, rfl, a, dx, _, rfl, R4.at_, rfl, a, f, sl, dx, _, _, "extra", "", rfl, R4, stops_le (ts := t0 :: ts1) (m := 100000) (by omega), fun H5 R5 fr5 => ?_⟩
          have ea5 : H5 a = some (.ins T.C_Reader dx (rF f (stop "extra" "" s4).at_ sl)) := R5.at_
          refine ⟨_, rfl, _, rfl, a, _, dx, _, _, rfl, ea5, T.Cl_Reader, T.NA_Reader_stops, rF_stops .., by show 2 ≤ sizeLine; decide, fun p hp6 => ?_⟩
          have s6 := same_new (o := .tup [v, .ref sl]) hp6
          have hwh : Whole (t0 :: ts1) d (stop "extra" "" s4).stops := by
            have := Whole.row (ts := t0 :: ts1) (d := d) (s := s4) (by rw [ew]; exact hw) (by rw [ew]; exact rw4)
            rw [if_pos hx] at this
            exact this
          obtain ⟨bs, es, hbs⟩ := (IsR.same R5 s6).stops
          exact q p sl v d _ _ hslH hwh upd_same (tv4.keep fun p vs h => s6 p _ (fr5.tup R4 p vs h)) ⟨bs, es, hbs⟩ (fun b o h => s6 b o (fr5 b o (ne_of_none h ha) (ne_of_none h hslH) (sm4 b o h)))
        · rw [if_neg (by rw [decide_eq_false (by omega)]; decide)]
          refine ⟨_, rfl, _, rfl, a, _, dx, _, _, rfl, ea4, T.Cl_Reader, T.NA_Reader_stops, rF_stops .., by show 2 ≤ sizeLine; decide, fun p hp6 => ?_⟩
          have s6 := same_new (o := .tup [v, .ref sl]) hp6
          have hwh : Whole (t0 :: ts1) d s4.stops := by
            have := Whole.row (ts := t0 :: ts1) (d := d) (s := s4) (by rw [ew]; exact hw) (by rw [ew]; exact rw4)
            rw [if_neg hx] at this
            exact this
          obtain ⟨bs, es, hbs⟩ := (IsR.same R4 s6).stops
          exact q p sl v d _ _ hslH hwh upd_same (tv4.keep fun p vs h => s6 p _ h) ⟨bs, es, hbs⟩ (fun b o h => s6 b o (sm4 b o h))
      · have hr1 : RelV .non (([(("take" : Str), Value.ref T.f_read_take), ("let", .ref T.f_read_let), ("def", .ref T.f_read_def)].lookup wd).getD .none) := by
          have h1 : (wd == ("take" : Str)) = false := by rw [beq_eq_false_iff_ne]; exact fun e => hw (by rw [e]; exact List.mem_cons_self)
          have h2 : (wd == ("let" : Str)) = false := by rw [beq_eq_false_iff_ne]; exact fun e => hw (by rw [e]; exact List.mem_cons_of_mem _ List.mem_cons_self)
          have h3 : (wd == ("def" : Str)) = false := by rw [beq_eq_false_iff_ne]; exact fun e => hw (by rw [e]; exact List.mem_cons_of_mem _ (List.mem_cons_of_mem _ List.mem_cons_self))
          rw [List.lookup_cons, h1]
          dsimp only
          rw [List.lookup_cons, h2]
          dsimp only
          rw [List.lookup_cons, h3]
          rfl
        refine ⟨wd, .non, rfl, hr1, ?_⟩
        refine ⟨_, rfl, rfl, _, rfl, ?_⟩
        dsimp only
        rw [if_pos (by simp)]
        refine ⟨by show 1 ≤ sizeLine; decide, fun p1 hp1 => ?_⟩
        have s1 := same_new (o := .tup [.str "odd"]) hp1
        have e1 : (upd H p1 (.tup [.str "odd"])) p1 = some (.tup [.str "odd"]) := upd_same
        generalize upd H p1 (.tup [.str "odd"]) = H1 at s1 e1 ⊢
        refine ⟨by show 3 ≤ sizeLine; decide, fun p2 hp2 => ?_⟩
        have s2 := same_new (o := .tup [.str "start", .int 0, .str ""]) hp2
        have e2 : (upd H1 p2 (.tup [.str "start", .int 0, .str ""])) p2 = some (.tup [.str "start", .int 0, .str ""]) := upd_same
        generalize upd H1 p2 (.tup [.str "start", .int 0, .str ""]) = H2 at s2 e2 ⊢
        refine ⟨by show 1 ≤ sizeLine; decide, fun p3 hp3 => ?_⟩
        have s3 := same_new (o := .lst [.ref p2]) hp3
        have e3 : (upd H2 p3 (.lst [.ref p2])) p3 = some (.lst [.ref p2]) := upd_same
        generalize upd H2 p3 (.lst [.ref p2]) = H3 at s3 e3 ⊢
        refine ⟨by show 2 ≤ sizeLine; decide, fun p4 hp4 => ?_⟩
        have s4 := same_new (o := .tup [.ref p1, .ref p3]) hp4
        exact q p4 p3 _ _ _ _ ((s1.trans s2).free hp3) (.odd (List.cons_ne_nil _ _) (by rw [ew]; exact hw)) upd_same (.tup (s4 _ _ (s3 _ _ (s2 _ _ e1))) (.cons (.str _) .nil)) ⟨[p2], s4 _ _ e3, .cons (s4 _ _ (s3 _ _ e2)) .nil⟩ (((s1.trans s2).trans s3).trans s4)
end K12

set_option maxHeartbeats 4000000
namespace K12
open PySem PySem.Spec PyProof.Rows L2 Gx Tk Tr
variable {P : Program} {w : World} {K : PySem.W.Frag} {mg : Str → Option Value} {base : Heap}
def sp_stops : Sp := fun vs H Q _ => ∃ x : Str, vs = [.str x] ∧ x.length ≤ 60 ∧ ∀ sl d ss H', H sl = none → Whole (toks x.cps.toList 0) d ss → StopL H' sl ss → Same H H' → Q (.ref sl) H'
theorem ok_stops (T : Facts K mg w) : FnG P w K mg base 190 T.f_stops T.d_stops ["row"] sp_stops := by
  refine fnG_of (k := 189) T.F_stops sc_stops (fun vs H Q E h => ?_) (fun cdv A outer s H vs Q hG hr h => ?_)
  · obtain ⟨_, rfl, _⟩ := h; rfl
  · obtain ⟨x, rfl, hx, q⟩ := h
    refine ⟨_, (pss_one (ps_ret (pe_ix ix_tup (pe_go (ok_read T) hG (hr.mono (by decide)) (by rfl) T.g_read T.F_read.kp T.b_read (pa_cons (pe_go (ok_tokens T) hG (hr.mono (by decide)) (by rfl) T.g_tokens T.F_tokens.kp T.b_tokens (pa_cons (pv 0) pa_nil)) pa_nil)) pe_int (fun _ _ => rfl)))), ?_⟩
    have hR : x.cps.toList.length = x.length := Array.length_toList
    have hm := toks_many _ x.cps.toList 0 (Nat.le_refl _)
    refine ⟨_, rfl, x, rfl, by omega, fun p H1 hp s1 tl => ?_⟩
    refine ⟨p, _, rfl, tl, by omega, fun p2 sl v d ss H2 fsl wh e2 tv sL s2 => ?_⟩
    exact ⟨p2, _, _, _, rfl, rfl, SqT.of e2, atI_nat (j := 1) rfl, q sl d ss H2 (s1.free fsl) wh sL (s1.trans s2)⟩
end K12

set_option maxHeartbeats 4000000
/-! Tv: a reader that is a dict of tokens, at, stops. -/
namespace Tr
open PySem PySem.Spec PyProof.Rows L2 Gx Tk
def wD (f : Addr) (n : Nat) (sl : Addr) : List (Key × V) := [(.inr "tokens", .ref f), (.inr "at", .int (n : Int)), (.inr "stops", .ref sl)]
theorem get_toks {H : Hp} {a f sl : Addr} {n : Nat} (e : H a = some (.dK (wD f n sl))) : DGet H a (.str "tokens") (some (.ref f)) := DGet.k (k := .inr "tokens") e
theorem get_at {H : Hp} {a f sl : Addr} {n : Nat} (e : H a = some (.dK (wD f n sl))) : DGet H a (.str "at") (some (.int (n : Int))) := DGet.k (k := .inr "at") e
theorem get_stops {H : Hp} {a f sl : Addr} {n : Nat} (e : H a = some (.dK (wD f n sl))) : DGet H a (.str "stops") (some (.ref sl)) := DGet.k (k := .inr "stops") e
theorem put_at {H : Hp} {a f sl : Addr} {n m : Nat} (e : H a = some (.dK (wD f n sl))) : DPut H a (.str "at") (.int (m : Int)) (upd H a (.dK (wD f m sl))) := .inl ⟨_, .inr "at", e, rfl, by show 3 < sizeLine; decide, rfl⟩
structure IsW (f sl : Addr) (ts : List Tkn) (H : Hp) (a : Addr) (s : RS) : Prop where
  at_ : H a = some (.dK (wD f s.at_ sl))
  found : TokL H f ts
  stops : StopL H sl s.stops
  nf : f ≠ sl
theorem IsW.same {f sl : Addr} {ts : List Tkn} {H H' : Hp} {a : Addr} {s : RS} (h : IsW f sl ts H a s) (x : Same H H') : IsW f sl ts H' a s := by
  obtain ⟨as, e, q⟩ := h.stops
  exact ⟨x _ _ h.at_, h.found.same x, ⟨as, x _ _ e, pkeep (fun p t => x _ _) q⟩, h.nf⟩
theorem Fr.tupW {a sl f : Addr} {ts : List Tkn} {s : RS} {H H' : Hp} (x : Fr a sl H H') (r : IsW f sl ts H a s) : ∀ p vs, H p = some (.tup vs) → H' p = some (.tup vs) := fun p vs e => by
  obtain ⟨as, e2, _⟩ := r.stops
  exact x p _ (fun z => by rw [z, r.at_] at e; cases e) (fun z => by rw [z, e2] at e; cases e) e
/-- texts that tell the sort -/
def Good (ts : List Tkn) : Prop := ∀ t ∈ ts, (t.2.1 ∈ loneW → t.1 = "sign") ∧ (t.2.1 ∈ heldW → t.1 = "held")
def fst1 (x : Str) : Nat := x.cps.toList.headD 0
theorem lone_fst : ∀ x ∈ loneW, isLet (fst1 x) = false ∧ isFig (fst1 x) = false ∧ fst1 x ≠ 34 ∧ isLone (fst1 x) = true := by
  have h : loneW.all (fun x => !isLet (fst1 x) && (!isFig (fst1 x) && (fst1 x != 34 && isLone (fst1 x)))) = true := by decide +kernel
  intro x hx
  have := List.all_eq_true.mp h x hx
  simp only [Bool.and_eq_true, Bool.not_eq_true', bne_iff_ne, ne_eq] at this
  exact this
theorem held_fst : ∀ x ∈ heldW, isLet (fst1 x) = true := by
  have h : heldW.all (fun x => isLet (fst1 x)) = true := by decide +kernel
  exact fun x hx => List.all_eq_true.mp h x hx
theorem let_fig {c : Nat} (h : isLet c = true) : isFig c = false ∧ c ≠ 34 ∧ isLone c = false := by
  unfold isLet at h
  rw [Bool.and_eq_true, decide_eq_true_eq, decide_eq_true_eq] at h
  refine ⟨?_, by omega, ?_⟩
  · unfold isFig
    rw [Bool.and_eq_false_iff]
    exact .inr (decide_eq_false (by omega))
  · unfold isLone
    refine decide_eq_false fun z => ?_
    simp only [List.mem_cons, List.not_mem_nil, or_false] at z
    omega
theorem good_at (c : Nat) (r : List Nat) : (SX.S (tokAt (c :: r)).2 ∈ loneW → (tokAt (c :: r)).1 = "sign") ∧ (SX.S (tokAt (c :: r)).2 ∈ heldW → (tokAt (c :: r)).1 = "held") := by
  have hf : fst1 (SX.S (tokAt (c :: r)).2) = c := by
    have t := tokAt_len c r
    unfold fst1
    show (tokAt (c :: r)).2.headD 0 = c
    rw [← t.2.2]
    obtain ⟨n, hn⟩ : ∃ n, (tokAt (c :: r)).2.length = n + 1 := ⟨(tokAt (c :: r)).2.length - 1, by omega⟩
    rw [hn, List.take_succ_cons]; rfl
  refine ⟨fun h => ?_, fun h => ?_⟩
  · have q := lone_fst _ h
    rw [hf] at q
    rw [tokAt_cons, if_neg (by rw [q.1]; decide), if_neg (by rw [q.2.1]; decide), if_neg q.2.2.1, if_pos q.2.2.2]
  · have q := held_fst _ h
    rw [hf] at q
    rw [tokAt_cons, if_pos q] at h ⊢
    unfold lsort
    rw [if_pos h]
theorem good_toks : ∀ (n : Nat) (l : List Nat) (k : Nat), l.length ≤ n → Good (toks l k)
  | n, [], k, _ => fun t ht => absurd ht List.not_mem_nil
  | 0, c :: r, _, hn => by simp at hn
  | n + 1, c :: r, k, hn => by
    have hr : r.length ≤ n := by rw [List.length_cons] at hn; omega
    by_cases e32 : c = 32
    · subst e32
      rw [toks_blank]
      exact good_toks n r _ hr
    · have tl := tokAt_len c r
      rw [toks_cons e32]
      intro t ht
      rcases List.mem_cons.mp ht with rfl | ht
      · exact good_at c r
      · exact good_toks n _ _ (by rw [List.length_drop, List.length_cons]; omega) t ht
theorem sort_sign {ts : List Tkn} {s : RS} (g : Good ts) (h : textAt ts s ∈ loneW) : sortAt ts s = "sign" := by
  unfold textAt at h
  unfold sortAt
  cases e : ts[s.at_]? with
  | none => rw [e] at h; exact absurd h (by decide +kernel)
  | some t => rw [e] at h; exact (g t (List.mem_of_getElem? e)).1 h
theorem sort_held {ts : List Tkn} {s : RS} (g : Good ts) (h : textAt ts s ∈ heldW) : sortAt ts s = "held" := by
  unfold textAt at h
  unfold sortAt
  cases e : ts[s.at_]? with
  | none => rw [e] at h; exact absurd h (by decide +kernel)
  | some t => rw [e] at h; exact (g t (List.mem_of_getElem? e)).2 h
end Tr

set_option maxHeartbeats 4000000
/-! Ev: readings of written rows, reckoned; rows that differ by names and numbers alone. -/
namespace Tr
open PySem PySem.Spec PyProof.Rows L2 Gx Tk
def rdF (ts : List Tkn) : Nat → Md → RS → Option (List PyData × RS)
  | 0, _, _ => none
  | n + 1, .single, s =>
    match kd ts s with
    | .lone => some ([.tuple [.str "lone", dN s.at_]], step s)
    | .name => if textAt ts (step s) = "(" then (match rdF ts n (.parts ")") (step (step s)) with | some (ds, s1) => some ([.tuple [.str "call", dN s.at_, .tuple ds]], s1) | none => none) else some ([.tuple [.str "name", dN s.at_]], step s)
    | .sq => (match rdF ts n (.parts "]") (step s) with | some (ds, s1) => some ([.tuple [.str "list", dN s.at_, .tuple ds]], s1) | none => none)
    | .rd => (match rdF ts n .part (step s) with | some ([d], s1) => some ([.tuple [.str "round", dN s.at_, d]], sign ts ")" s1) | _ => none)
    | .iff => (match rdF ts n .part (step s) with
      | some ([a], s1) => (match rdF ts n .part (sign ts "then" s1) with
        | some ([b], s2) => (match rdF ts n .part (sign ts "else" s2) with
          | some ([c], s3) => some ([.tuple [.str "if", dN s.at_, a, b, c]], s3)
          | _ => none)
        | _ => none)
      | _ => none)
    | .hole => some ([.tuple [.str "hole", dN s.at_]], stop "part" "" s)
  | n + 1, .part, s => (match rdF ts n .single s with | some ([d], s1) => (match rdF ts n (.ops d) s1 with | some ([d'], s2) => some ([d'], s2) | _ => none) | _ => none)
  | n + 1, .ops d, s => if textAt ts s ∈ opsW then (match rdF ts n .single (step s) with | some ([d2], s1) => (match rdF ts n (.ops (.tuple [.str "op", dN s.at_, d, d2])) s1 with | some ([d'], s2) => some ([d'], s2) | _ => none) | _ => none) else some ([d], s)
  | n + 1, .parts e, s => (match rdF ts n .part s with | some ([d], s1) => (match rdF ts n (.more [d]) s1 with | some (ds, s2) => some (ds, sign ts e s2) | none => none) | _ => none)
  | n + 1, .more ds, s => if textAt ts s = "," then (match rdF ts n .part (step s) with | some ([d], s1) => rdF ts n (.more (ds ++ [d])) s1 | _ => none) else some (ds, s)
theorem rdF_ok (ts : List Tkn) : ∀ (n : Nat) (m : Md) (s : RS) (r : List PyData) (s1 : RS), rdF ts n m s = some (r, s1) → Rd ts m s r s1
  | 0, _, _, _, _, h => nomatch h
  | n + 1, .single, s, r, s1, h => by
    unfold rdF at h
    split at h
    · rename_i k; cases h; exact .lone k
    · rename_i k
      split at h
      · rename_i t
        split at h
        · rename_i ds s1' e
          cases h
          exact .call k t (rdF_ok ts n _ _ _ _ e)
        · cases h
      · rename_i t; cases h; exact .name k t
    · rename_i k
      split at h
      · rename_i ds s1' e
        cases h
        exact .sq k (rdF_ok ts n _ _ _ _ e)
      · cases h
    · rename_i k
      split at h
      · rename_i d s1' e
        cases h
        exact .rd k (rdF_ok ts n _ _ _ _ e)
      · cases h
    · rename_i k
      split at h
      · rename_i a s1' e
        split at h
        · rename_i b s2' e2
          split at h
          · rename_i c s3' e3
            cases h
            exact .iff k (rdF_ok ts n _ _ _ _ e) (rdF_ok ts n _ _ _ _ e2) (rdF_ok ts n _ _ _ _ e3)
          · cases h
        · cases h
      · cases h
    · rename_i k; cases h; exact .hole k
  | n + 1, .part, s, r, s1, h => by
    unfold rdF at h
    split at h
    · rename_i d s1' e
      split at h
      · rename_i d' s2' e2
        cases h
        exact .part (rdF_ok ts n _ _ _ _ e) (rdF_ok ts n _ _ _ _ e2)
      · cases h
    · cases h
  | n + 1, .ops d, s, r, s1, h => by
    unfold rdF at h
    split at h
    · rename_i t
      split at h
      · rename_i d2 s1' e
        split at h
        · rename_i d' s2' e2
          cases h
          exact .opsMore t (rdF_ok ts n _ _ _ _ e) (rdF_ok ts n _ _ _ _ e2)
        · cases h
      · cases h
    · rename_i t; cases h; exact .opsEnd t
  | n + 1, .parts e0, s, r, s1, h => by
    unfold rdF at h
    split at h
    · rename_i d s1' e
      split at h
      · rename_i ds s2' e2
        cases h
        exact .parts (rdF_ok ts n _ _ _ _ e) (rdF_ok ts n _ _ _ _ e2)
      · cases h
    · cases h
  | n + 1, .more ds, s, r, s1, h => by
    unfold rdF at h
    split at h
    · rename_i t
      split at h
      · rename_i d s1' e
        exact .moreMore t (rdF_ok ts n _ _ _ _ e) (rdF_ok ts n _ _ _ _ h)
      · cases h
    · rename_i t; cases h; exact .moreEnd t
def pmF (ts : List Tkn) : Nat → List PyData → RS → Option (List PyData × RS)
  | 0, _, _ => none
  | n + 1, ds, s => if textAt ts s = "," then pmF ts n (ds ++ [paramD ts (step s)]) (paramS ts (step s)) else some (ds, s)
theorem pmF_ok (ts : List Tkn) : ∀ (n : Nat) (ds : List PyData) (s : RS) (r : List PyData) (s1 : RS), pmF ts n ds s = some (r, s1) → Pm ts ds s r s1
  | 0, _, _, _, _, h => nomatch h
  | n + 1, ds, s, r, s1, h => by
    unfold pmF at h
    split at h
    · rename_i t; exact .more t (pmF_ok ts n _ _ _ _ h)
    · rename_i t; cases h; exact .done t
def fuel (ts : List Tkn) : Nat := 12 * ts.length + 40
def rwF (ts : List Tkn) (wd : Str) (s : RS) : Option (PyData × RS) :=
  if wd = "take" then some (.tuple [.str "take", wantD (isN ts s) s], nameS ts s)
  else if wd = "let" then (match rdF ts (fuel ts) .part (sign ts "=" (nameS ts s)) with | some ([d], s1) => some (.tuple [.str "let", wantD (isN ts s) s, d], s1) | _ => none)
  else if wd = "def" then (match pmF ts (fuel ts) [paramD ts (sign ts "(" (nameS ts s))] (paramS ts (sign ts "(" (nameS ts s))) with
    | some (ds, s1) => (match rdF ts (fuel ts) .part (sign ts "=" (sign ts ")" s1)) with | some ([d], s2) => some (.tuple [.str "def", wantD (isN ts s) s, .tuple ds, d], s2) | _ => none)
    | none => none)
  else none
theorem rwF_ok {ts : List Tkn} {wd : Str} {s : RS} {d : PyData} {s1 : RS} (h : rwF ts wd s = some (d, s1)) : Rw ts wd s d s1 := by
  unfold rwF at h
  split at h
  · rename_i e; subst e; cases h; exact .take
  · split at h
    · rename_i e; subst e
      split at h
      · rename_i d' s1' e
        cases h
        exact .lets (rdF_ok _ _ _ _ _ _ e)
      · cases h
    · split at h
      · rename_i e; subst e
        split at h
        · rename_i ds s1' e
          split at h
          · rename_i d' s2' e2
            cases h
            exact .defs (pmF_ok _ _ _ _ _ _ e) (rdF_ok _ _ _ _ _ _ e2)
          · cases h
        · cases h
      · cases h
def wholeF (ts : List Tkn) : Option (PyData × List (Str × Nat × Str)) :=
  if ts = [] then some (.tuple [.str "bare"], [])
  else if word0 ts ∈ rowW then (match rwF ts (word0 ts) (step ⟨0, []⟩) with | some (d, s) => some (d, if s.at_ < ts.length then (stop "extra" "" s).stops else s.stops) | none => none)
  else some (.tuple [.str "odd"], [("start", 0, "")])
theorem wholeF_ok {ts : List Tkn} {d : PyData} {ss : List (Str × Nat × Str)} (h : wholeF ts = some (d, ss)) : Whole ts d ss := by
  unfold wholeF at h
  split at h
  · rename_i e; cases h; exact .bare e
  · rename_i n
    split at h
    · rename_i w
      split at h
      · rename_i d' s e
        cases h
        exact .row w (rwF_ok e)
      · cases h
    · rename_i w; cases h; exact .odd n w
mutual
def dq : PyData → PyData → Bool
  | .none, b => (match b with | .none => true | _ => false)
  | .int i, b => (match b with | .int j => decide (i = j) | _ => false)
  | .str x, b => (match b with | .str y => decide (x = y) | _ => false)
  | .tuple a, b => (match b with | .tuple c => dqL a c | _ => false)
  | _, _ => false
def dqL : List PyData → List PyData → Bool
  | [], b => b.isEmpty
  | a :: as, b => (match b with | b :: bs => dq a b && dqL as bs | [] => false)
end
mutual
theorem dq_eq : ∀ a b : PyData, dq a b = true → a = b
  | .none, b, h => by unfold dq at h; split at h <;> first | rfl | cases h
  | .int i, b, h => by
    unfold dq at h
    split at h
    · rw [of_decide_eq_true h]
    · cases h
  | .str x, b, h => by
    unfold dq at h
    split at h
    · rw [of_decide_eq_true h]
    · cases h
  | .tuple a, b, h => by
    unfold dq at h
    split at h
    · rw [dqL_eq a _ h]
    · cases h
  | .bool _, b, h => by unfold dq at h; cases h
  | .list _, b, h => by unfold dq at h; cases h
  | .dict _, b, h => by unfold dq at h; cases h
theorem dqL_eq : ∀ a b : List PyData, dqL a b = true → a = b
  | [], b, h => by
    unfold dqL at h
    exact (List.isEmpty_iff.mp h).symm
  | a :: as, b, h => by
    unfold dqL at h
    split at h
    · rw [Bool.and_eq_true] at h
      rw [dq_eq a _ h.1, dqL_eq as _ h.2]
    · cases h
end
def wholeB (ts : List Tkn) (d : PyData) (ss : List (Str × Nat × Str)) : Bool := match wholeF ts with | some (d', ss') => dq d' d && decide (ss' = ss) | none => false
theorem wholeB_ok {ts : List Tkn} {d : PyData} {ss : List (Str × Nat × Str)} (h : wholeB ts d ss = true) : Whole ts d ss := by
  unfold wholeB at h
  split at h
  · rename_i d' ss' e
    rw [Bool.and_eq_true] at h
    rw [← dq_eq _ _ h.1, ← of_decide_eq_true h.2]
    exact wholeF_ok e
  · cases h
example : wholeB (toks ("let a = if yes then f(1, b) else [2, x at 3" : Str).cps.toList 0) (.tuple [.str "let", dN 1, .tuple [.str "if", dN 3, .tuple [.str "lone", dN 4], .tuple [.str "call", dN 6, .tuple [.tuple [.str "lone", dN 8], .tuple [.str "name", dN 10]]], .tuple [.str "list", dN 13, .tuple [.tuple [.str "lone", dN 14], .tuple [.str "op", dN 17, .tuple [.str "name", dN 16], .tuple [.str "lone", dN 18]]]]]]) [("sign", 19, "]")] = true := by decide +kernel
end Tr

set_option maxHeartbeats 4000000
/-! Al: tokens that are read alike. -/
namespace Tr
open PySem PySem.Spec PyProof.Rows L2 Gx Tk
def spW : List Str := loneW ++ heldW
structure Alike (ts ts' : List Tkn) : Prop where
  len : ts.length = ts'.length
  eq : ∀ (i : Nat) (t t' : Tkn), ts[i]? = some t → ts'[i]? = some t' → t.1 = t'.1 ∧ ∀ w ∈ spW, (t.2.1 = w ↔ t'.2.1 = w)
def kt (t : Tkn) : Str × Str := (t.1, t.2.1)
theorem Alike.of_map {ts ts' : List Tkn} (h : ts.map kt = ts'.map kt) : Alike ts ts' := by
  refine ⟨by simpa using congrArg List.length h, fun i t t' e e' => ?_⟩
  have h2 := congrArg (fun l => l[i]?) h
  simp only [List.getElem?_map, e, e', Option.map_some, Option.some.injEq] at h2
  unfold kt at h2
  injection h2 with h3 h4
  exact ⟨h3, fun w _ => by rw [h4]⟩
theorem Alike.symm {ts ts' : List Tkn} (h : Alike ts ts') : Alike ts' ts := ⟨h.len.symm, fun i t t' e e' => ⟨(h.eq i t' t e' e).1.symm, fun w hw => ((h.eq i t' t e' e).2 w hw).symm⟩⟩
theorem spW_ne : ∀ w ∈ spW, w ≠ "" := by
  have h : spW.all (fun w => decide (w ≠ "")) = true := by decide +kernel
  exact fun w hw => of_decide_eq_true (List.all_eq_true.mp h w hw)
section
variable {ts ts' : List Tkn} (h : Alike ts ts')
include h
theorem Alike.sort (s : RS) : sortAt ts s = sortAt ts' s := by
  unfold sortAt
  rcases Nat.lt_or_ge s.at_ ts.length with q | q
  · have q' : s.at_ < ts'.length := by rw [← h.len]; exact q
    rw [List.getElem?_eq_getElem q, List.getElem?_eq_getElem q']
    exact (h.eq _ _ _ (List.getElem?_eq_getElem q) (List.getElem?_eq_getElem q')).1
  · have q' : ts'.length ≤ s.at_ := by rw [← h.len]; exact q
    rw [List.getElem?_eq_none q, List.getElem?_eq_none q']
theorem Alike.text (s : RS) {w : Str} (hw : w ∈ spW) : textAt ts s = w ↔ textAt ts' s = w := by
  unfold textAt
  rcases Nat.lt_or_ge s.at_ ts.length with q | q
  · have q' : s.at_ < ts'.length := by rw [← h.len]; exact q
    rw [List.getElem?_eq_getElem q, List.getElem?_eq_getElem q']
    exact (h.eq _ _ _ (List.getElem?_eq_getElem q) (List.getElem?_eq_getElem q')).2 w hw
  · have q' : ts'.length ≤ s.at_ := by rw [← h.len]; exact q
    rw [List.getElem?_eq_none q, List.getElem?_eq_none q']
theorem Alike.texts (s : RS) {ws : List Str} (hw : ∀ w ∈ ws, w ∈ spW) : textAt ts s ∈ ws ↔ textAt ts' s ∈ ws :=
  ⟨fun k => by rw [(h.text s (hw _ k)).mp rfl]; exact k, fun k => by rw [(h.text s (hw _ k)).mpr rfl]; exact k⟩
theorem Alike.sign {e : Str} (he : e ∈ spW) (s : RS) : Tr.sign ts e s = Tr.sign ts' e s := by
  unfold Tr.sign
  by_cases q : textAt ts s = e
  · rw [if_pos q, if_pos ((h.text s he).mp q)]
  · rw [if_neg q, if_neg fun z => q ((h.text s he).mpr z)]
theorem Alike.kd (s : RS) : Tr.kd ts s = Tr.kd ts' s := by
  have t := fun w hw => propext (h.text s (w := w) hw)
  unfold Tr.kd
  have t1 := t "yes" (by decide +kernel)
  have t2 := t "no" (by decide +kernel)
  have t3 := t "[" (by decide +kernel)
  have t4 := t "(" (by decide +kernel)
  have t5 := t "if" (by decide +kernel)
  simp only [h.sort s, t1, t2, t3, t4, t5]
end
theorem opsW_sp : ∀ w ∈ opsW, w ∈ spW := by
  have h : opsW.all (fun w => decide (w ∈ spW)) = true := by decide +kernel
  exact fun w hw => of_decide_eq_true (List.all_eq_true.mp h w hw)
theorem kindW_sp : ∀ w ∈ kindW, w ∈ spW := by
  have h : kindW.all (fun w => decide (w ∈ spW)) = true := by decide +kernel
  exact fun w hw => of_decide_eq_true (List.all_eq_true.mp h w hw)
theorem rowW_sp : ∀ w ∈ rowW, w ∈ spW := by
  have h : rowW.all (fun w => decide (w ∈ spW)) = true := by decide +kernel
  exact fun w hw => of_decide_eq_true (List.all_eq_true.mp h w hw)
def MdP : Md → Prop
  | .parts e => e ∈ spW
  | _ => True
theorem Rd.alike {ts ts' : List Tkn} (a : Alike ts ts') {m : Md} {s : RS} {r : List PyData} {s1 : RS} (h : Rd ts m s r s1) : MdP m → Rd ts' m s r s1 := by
  have p1 : ("(" : Str) ∈ spW := by decide +kernel
  have p2 : (")" : Str) ∈ spW := by decide +kernel
  have p3 : ("]" : Str) ∈ spW := by decide +kernel
  have p4 : ("," : Str) ∈ spW := by decide +kernel
  have p5 : ("then" : Str) ∈ spW := by decide +kernel
  have p6 : ("else" : Str) ∈ spW := by decide +kernel
  induction h with
  | lone k => exact fun _ => .lone ((a.kd _).symm.trans k)
  | name k t => exact fun _ => .name ((a.kd _).symm.trans k) fun z => t ((a.text _ p1).mpr z)
  | call k t _ ih => exact fun _ => .call ((a.kd _).symm.trans k) ((a.text _ p1).mp t) (ih p2)
  | sq k _ ih => exact fun _ => .sq ((a.kd _).symm.trans k) (ih p3)
  | rd k _ ih => intro _; rw [a.sign p2]; exact .rd ((a.kd _).symm.trans k) (ih trivial)
  | @iff s _ _ _ s1 s2 _ k _ _ _ i1 i2 i3 =>
    intro _
    have j2 := i2 trivial
    have j3 := i3 trivial
    rw [a.sign p5] at j2
    rw [a.sign p6] at j3
    exact .iff ((a.kd _).symm.trans k) (i1 trivial) j2 j3
  | hole k => exact fun _ => .hole ((a.kd _).symm.trans k)
  | part _ _ i1 i2 => exact fun _ => .part (i1 trivial) (i2 trivial)
  | opsEnd t => exact fun _ => .opsEnd fun z => t ((a.texts _ opsW_sp).mpr z)
  | opsMore t _ _ i1 i2 => exact fun _ => .opsMore ((a.texts _ opsW_sp).mp t) (i1 trivial) (i2 trivial)
  | @parts s e d s1 ds s2 _ _ i1 i2 =>
    intro he
    have := Rd.parts (e := e) (i1 trivial) (i2 trivial)
    rw [a.sign he]; exact this
  | moreEnd t => exact fun _ => .moreEnd fun z => t ((a.text _ p4).mpr z)
  | moreMore t _ _ i1 i2 => exact fun _ => .moreMore ((a.text _ p4).mp t) (i1 trivial) (i2 trivial)
section
variable {ts ts' : List Tkn} (a : Alike ts ts')
include a
theorem Alike.isN (s : RS) : Tr.isN ts s = Tr.isN ts' s := by unfold Tr.isN; rw [a.sort]
theorem Alike.isK (s : RS) : Tr.isK ts s = Tr.isK ts' s := by unfold Tr.isK; exact decide_eq_decide.mpr (a.texts s kindW_sp)
theorem Alike.nameS (s : RS) : Tr.nameS ts s = Tr.nameS ts' s := by unfold Tr.nameS; rw [a.isN]
theorem Alike.kindS (s : RS) : Tr.kindS ts s = Tr.kindS ts' s := by unfold Tr.kindS; rw [a.isK]
theorem Alike.paramD (s : RS) : Tr.paramD ts s = Tr.paramD ts' s := by unfold Tr.paramD; rw [a.isN, a.nameS, a.isK]
theorem Alike.paramS (s : RS) : Tr.paramS ts s = Tr.paramS ts' s := by unfold Tr.paramS; rw [a.nameS, a.kindS]
theorem Pm.alike {ds : List PyData} {s : RS} {r : List PyData} {s1 : RS} (h : Pm ts ds s r s1) : Pm ts' ds s r s1 := by
  have p4 : ("," : Str) ∈ spW := by decide +kernel
  induction h with
  | done t => exact .done fun z => t ((a.text _ p4).mpr z)
  | more t _ ih =>
    rw [a.paramD, a.paramS] at ih
    exact .more ((a.text _ p4).mp t) ih
theorem Rw.alike {wd : Str} {s : RS} {d : PyData} {s1 : RS} (h : Rw ts wd s d s1) : Rw ts' wd s d s1 := by
  have p1 : ("(" : Str) ∈ spW := by decide +kernel
  have p2 : (")" : Str) ∈ spW := by decide +kernel
  have p3 : ("=" : Str) ∈ spW := by decide +kernel
  cases h with
  | take => rw [a.isN, a.nameS]; exact .take
  | lets x =>
    have x := x.alike a trivial
    rw [a.nameS, a.sign p3] at x
    rw [a.isN]; exact .lets x
  | defs x y =>
    have x := Pm.alike a x
    have y := y.alike a trivial
    rw [a.nameS, a.sign p1, a.paramD, a.paramS] at x
    rw [a.sign p2, a.sign p3] at y
    rw [a.isN]; exact .defs x y
theorem Whole.alike {d : PyData} {ss : List (Str × Nat × Str)} (h : Whole ts d ss) : Whole ts' d ss := by
  have hn : ts = [] ↔ ts' = [] := by rw [← List.length_eq_zero_iff, ← List.length_eq_zero_iff, a.len]
  have hw : word0 ts ∈ rowW ↔ word0 ts' ∈ rowW := a.texts _ rowW_sp
  cases h with
  | bare e => exact .bare (hn.mp e)
  | odd n x => exact .odd (fun z => n (hn.mpr z)) fun z => x (hw.mpr z)
  | @row _ s w r =>
    have e : word0 ts = word0 ts' := ((a.text _ (rowW_sp _ w)).mp rfl).symm
    have := Rw.alike a r
    rw [e] at this w
    rw [a.len]
    exact .row w this
end
end Tr

set_option maxHeartbeats 4000000
/-! Te: rows written with names and numbers left open, and their tokens. -/
namespace Tr
open PySem PySem.Spec PyProof.Rows L2 Gx Tk
structure NameL (l : List Nat) : Prop where
  all : l.all isLet = true
  lo : 1 ≤ l.length
  hi : l.length ≤ 8
  nh : SX.S l ∉ heldW
structure NumL (l : List Nat) : Prop where
  all : l.all isFig = true
  lo : 1 ≤ l.length
  hi : l.length ≤ 6
/-- a row's signs: written ones, the name i, the number i -/
inductive Sgn | ch (c : Nat) | nm (i : Nat) | nu (i : Nat)
inductive Ak | fx (s x : Str) | nm (i : Nat) | nu (i : Nat)
def ex1 (n u : Nat → List Nat) : Sgn → List Nat
  | .ch c => [c]
  | .nm i => n i
  | .nu i => u i
def exl (n u : Nat → List Nat) (l : List Sgn) : List Nat := l.flatMap (ex1 n u)
def inst (n u : Nat → List Nat) : Ak → Str × Str
  | .fx s x => (s, x)
  | .nm i => ("name", SX.S (n i))
  | .nu i => ("number", SX.S (u i))
def pre : List Sgn → List Nat
  | .ch c :: r => c :: pre r
  | _ => []
def post : List Sgn → List Sgn
  | .ch _ :: r => post r
  | l => l
def ends (p : Nat → Bool) : List Sgn → Bool
  | [] => true
  | .ch c :: _ => !p c
  | _ => false
def itk : Nat → List Sgn → Option (List Ak)
  | 0, _ => none
  | _ + 1, [] => some []
  | k + 1, .nm i :: r => if ends isLet r then (itk k r).map (.nm i :: ·) else none
  | k + 1, .nu i :: r => if ends isFig r then (itk k r).map (.nu i :: ·) else none
  | k + 1, .ch c :: r => if c = 32 then itk k r else
    if ((tokAt (c :: pre r)).2.length < (pre r).length + 1 && (c != 34 || decide (34 ∈ pre r))) || ends (fun _ => true) (post r) || (!isLet c && (!isFig c && c != 34)) then
      (itk k (r.drop ((tokAt (c :: pre r)).2.length - 1))).map (.fx (tokAt (c :: pre r)).1 (SX.S (tokAt (c :: pre r)).2) :: ·)
    else none
theorem exl_cons (n u : Nat → List Nat) (i : Sgn) (l : List Sgn) : exl n u (i :: l) = ex1 n u i ++ exl n u l := rfl
theorem exl_pre (n u : Nat → List Nat) : ∀ l : List Sgn, exl n u l = pre l ++ exl n u (post l)
  | [] => rfl
  | .ch c :: r => by
    rw [exl_cons, exl_pre n u r]; rfl
  | .nm i :: r => rfl
  | .nu i :: r => rfl
theorem exl_drop (n u : Nat → List Nat) : ∀ (k : Nat) (l : List Sgn), k ≤ (pre l).length → exl n u (l.drop k) = (exl n u l).drop k
  | 0, l, _ => by rw [List.drop_zero, List.drop_zero]
  | k + 1, .ch c :: r, h => by
    rw [exl_cons]
    show exl n u (r.drop k) = (c :: exl n u r).drop (k + 1)
    rw [List.drop_succ_cons]
    exact exl_drop n u k r (by have : (pre (Sgn.ch c :: r)).length = (pre r).length + 1 := rfl; omega)
  | k + 1, [], h => by simp [pre] at h
  | k + 1, .nm i :: r, h => by simp [pre] at h
  | k + 1, .nu i :: r, h => by simp [pre] at h
theorem tw_stop {p : Nat → Bool} {l r : List Nat} (h : (l.takeWhile p).length < l.length) : (l ++ r).takeWhile p = l.takeWhile p := by
  rw [List.takeWhile_append, if_neg (by omega)]
theorem tw_full {p : Nat → Bool} {l r : List Nat} (h : l.all p = true) (hr : ∀ c ∈ r.head?, p c = false) : (l ++ r).takeWhile p = l := by
  have e : l.takeWhile p = l := by
    clear hr
    induction l with
    | nil => rfl
    | cons a l ih =>
      rw [List.all_cons, Bool.and_eq_true] at h
      rw [List.takeWhile_cons, if_pos h.1, ih h.2]
  rw [List.takeWhile_append, if_pos (by rw [e])]
  cases r with
  | nil => simp
  | cons c r => rw [List.takeWhile_cons, if_neg (by rw [hr c rfl]; decide), List.append_nil]
theorem tokAt_app (c : Nat) (l r : List Nat) (h : ((tokAt (c :: l)).2.length < l.length + 1 ∧ (c = 34 → 34 ∈ l)) ∨ r = [] ∨ (isLet c = false ∧ isFig c = false ∧ c ≠ 34)) : tokAt (c :: (l ++ r)) = tokAt (c :: l) := by
  rcases h with ⟨h, hq⟩ | h | h
  · rw [tokAt_cons] at h
    rw [tokAt_cons, tokAt_cons]
    split
    · rename_i hc
      rw [if_pos hc] at h
      have h : ((c :: l).takeWhile isLet).length < (c :: l).length := h
      have := tw_stop (r := r) h
      rw [List.cons_append] at this
      rw [this]
    · rename_i hc
      rw [if_neg hc] at h
      split
      · rename_i hf
        rw [if_pos hf] at h
        have h : ((c :: l).takeWhile isFig).length < (c :: l).length := by
          split at h <;> exact h
        have := tw_stop (r := r) h
        rw [List.cons_append] at this
        rw [this]
      · rename_i hf
        split
        · rename_i h34
          have hm := hq h34
          rw [if_pos (List.mem_append_left _ hm), if_pos hm]
          have : (l.takeWhile (· != 34)).length < l.length := by
            rcases Nat.lt_or_ge (l.takeWhile (· != 34)).length l.length with h | h
            · exact h
            · have e : l.takeWhile (· != 34) = l := (List.takeWhile_prefix _).eq_of_length_le h
              have := List.all_takeWhile (l := l) (p := (· != 34))
              rw [e, List.all_eq_true] at this
              have := this 34 hm
              simp at this
          rw [tw_stop this]
        · rfl
  · rw [h, List.append_nil]
  · have h1 : ¬ isLet c = true := by rw [h.1]; decide
    have h2 : ¬ isFig c = true := by rw [h.2.1]; decide
    simp only [tokAt_cons, h.1, h.2.1, h.2.2, if_false, Bool.false_eq_true]
theorem ends_head {n u : Nat → List Nat} {p : Nat → Bool} : ∀ {r : List Sgn}, ends p r = true → ∀ c ∈ (exl n u r).head?, p c = false
  | [], _, c, hc => by simp [exl] at hc
  | .ch a :: r, h, c, hc => by
    unfold ends at h
    rw [exl_cons] at hc
    have hc : c ∈ (a :: exl n u r).head? := hc
    rw [List.head?_cons, Option.mem_some_iff] at hc
    rw [← hc]
    simpa using h
  | .nm i :: r, h, _, _ => by cases h
  | .nu i :: r, h, _, _ => by cases h
theorem let32 {c : Nat} (h : isLet c = true) : c ≠ 32 := by
  unfold isLet at h
  rw [Bool.and_eq_true, decide_eq_true_eq, decide_eq_true_eq] at h
  omega
theorem fig32 {c : Nat} (h : isFig c = true) : c ≠ 32 ∧ isLet c = false := by
  unfold isFig at h
  rw [Bool.and_eq_true, decide_eq_true_eq, decide_eq_true_eq] at h
  refine ⟨by omega, ?_⟩
  unfold isLet
  rw [Bool.and_eq_false_iff]
  exact .inl (decide_eq_false (by omega))
theorem toks_run {l r : List Nat} {p : Nat → Bool} {s : Str} (hl : l ≠ []) (h32 : ∀ c ∈ l, c ≠ 32) (h : tokAt (l ++ r) = (s, l)) (k : Nat) : toks (l ++ r) k = (s, SX.S l, k) :: toks r (k + l.length) := by
  cases l with
  | nil => exact absurd rfl hl
  | cons c l =>
    rw [List.cons_append] at h ⊢
    rw [toks_cons (h32 c List.mem_cons_self), h]
    dsimp only
    rw [List.length_cons, List.drop_succ_cons, List.drop_left']
    rfl
theorem name_tok {l r : List Nat} (h : NameL l) (hr : ∀ c ∈ r.head?, isLet c = false) : tokAt (l ++ r) = (("name" : Str), l) := by
  cases l with
  | nil => exact absurd h.lo (by decide)
  | cons c l =>
    have ha := h.all
    rw [List.all_cons, Bool.and_eq_true] at ha
    have e := tw_full h.all hr
    rw [List.cons_append] at e ⊢
    rw [tokAt_cons, if_pos ha.1, e]
    unfold lsort
    rw [if_neg h.nh, if_pos h.hi]
theorem num_tok {l r : List Nat} (h : NumL l) (hr : ∀ c ∈ r.head?, isFig c = false) : tokAt (l ++ r) = (("number" : Str), l) := by
  cases l with
  | nil => exact absurd h.lo (by decide)
  | cons c l =>
    have ha := h.all
    rw [List.all_cons, Bool.and_eq_true] at ha
    have e := tw_full h.all hr
    rw [List.cons_append] at e ⊢
    rw [tokAt_cons, if_neg (by rw [(fig32 ha.1).2]; decide), if_pos ha.1, e, if_pos h.hi]
theorem itk_ok {n u : Nat → List Nat} (hn : ∀ i, NameL (n i)) (hu : ∀ i, NumL (u i)) : ∀ (f : Nat) (l : List Sgn) (ats : List Ak) (k : Nat), itk f l = some ats → (toks (exl n u l) k).map kt = ats.map (inst n u)
  | 0, _, _, _, h => nomatch h
  | f + 1, [], ats, k, h => by
    unfold itk at h; cases h; rfl
  | f + 1, .nm i :: r, ats, k, h => by
    unfold itk at h
    split at h
    · rename_i he
      obtain ⟨as, e, rfl⟩ := Option.map_eq_some_iff.mp h
      have hN := hn i
      rw [exl_cons]
      show (toks (n i ++ exl n u r) k).map kt = _
      rw [toks_run (p := isLet) (s := "name") (fun z => by have := hN.lo; rw [z] at this; exact absurd this (by decide)) (fun c hc => let32 (List.all_eq_true.mp hN.all c hc)) (name_tok hN (ends_head he)), List.map_cons, itk_ok hn hu f r as _ e]
      rfl
    · cases h
  | f + 1, .nu i :: r, ats, k, h => by
    unfold itk at h
    split at h
    · rename_i he
      obtain ⟨as, e, rfl⟩ := Option.map_eq_some_iff.mp h
      have hN := hu i
      rw [exl_cons]
      show (toks (u i ++ exl n u r) k).map kt = _
      rw [toks_run (p := isFig) (s := "number") (fun z => by have := hN.lo; rw [z] at this; exact absurd this (by decide)) (fun c hc => (fig32 (List.all_eq_true.mp hN.all c hc)).1) (num_tok hN (ends_head he)), List.map_cons, itk_ok hn hu f r as _ e]
      rfl
    · cases h
  | f + 1, .ch c :: r, ats, k, h => by
    unfold itk at h
    rw [exl_cons]
    show (toks (c :: exl n u r) k).map kt = _
    split at h
    · rename_i e32
      subst e32
      rw [toks_blank]
      exact itk_ok hn hu f r ats _ h
    · rename_i e32
      split at h
      · rename_i hc
        obtain ⟨as, e, rfl⟩ := Option.map_eq_some_iff.mp h
        have ht := tokAt_len c (pre r)
        have ha : tokAt (c :: exl n u r) = tokAt (c :: pre r) := by
          rw [exl_pre n u r]
          refine tokAt_app c _ _ ?_
          simp only [Bool.or_eq_true, Bool.and_eq_true, Bool.not_eq_true', bne_iff_ne, ne_eq, decide_eq_true_eq] at hc
          rcases hc with (h | h) | h
          · exact .inl ⟨h.1, fun z => h.2.resolve_left (fun q => q z)⟩
          · refine .inr (.inl ?_)
            cases hp : post r with
            | nil => rfl
            | cons a b => rw [hp] at h; cases a <;> simp [ends] at h
          · exact .inr (.inr h)
        rw [toks_cons e32, ha, List.map_cons]
        obtain ⟨m, hm⟩ : ∃ m, (tokAt (c :: pre r)).2.length = m + 1 := ⟨(tokAt (c :: pre r)).2.length - 1, by omega⟩
        rw [hm] at e ⊢
        rw [Nat.add_sub_cancel] at e
        rw [List.drop_succ_cons]
        have hd := exl_drop n u m r (by omega)
        rw [← hd, itk_ok hn hu f _ as _ e]
        rfl
      · cases h
/-- texts that aren't signs or held words -/
theorem name_sp {l : List Nat} (h : NameL l) : ∀ w ∈ spW, SX.S l ≠ w := by
  intro w hw e
  rcases List.mem_append.mp hw with hw | hw
  · have q := lone_fst w hw
    rw [← e] at q
    have hl := h.lo
    have ha := h.all
    cases l with
    | nil => exact absurd hl (by decide)
    | cons c l =>
      rw [List.all_cons, Bool.and_eq_true] at ha
      have : isLet c = false := q.1
      rw [this] at ha
      exact absurd ha.1 (by decide)
  · exact h.nh (e ▸ hw)
theorem num_sp {l : List Nat} (h : NumL l) : ∀ w ∈ spW, SX.S l ≠ w := by
  intro w hw e
  have hl := h.lo
  have ha := h.all
  cases l with
  | nil => exact absurd hl (by decide)
  | cons c l =>
    rw [List.all_cons, Bool.and_eq_true] at ha
    rcases List.mem_append.mp hw with hw | hw
    · have q := (lone_fst w hw).2.1
      rw [← e] at q
      have : isFig c = false := q
      rw [this] at ha
      exact absurd ha.1 (by decide)
    · have q := held_fst w hw
      rw [← e] at q
      have : isLet c = true := q
      rw [(fig32 ha.1).2] at this
      cases this
theorem alike_inst {n u n' u' : Nat → List Nat} (hn : ∀ i, NameL (n i)) (hu : ∀ i, NumL (u i)) (hn' : ∀ i, NameL (n' i)) (hu' : ∀ i, NumL (u' i)) {ats : List Ak} {ts ts' : List Tkn} (h : ts.map kt = ats.map (inst n u)) (h' : ts'.map kt = ats.map (inst n' u')) : Alike ts ts' := by
  refine ⟨?_, fun i t t' e e' => ?_⟩
  · have h1 := congrArg List.length h
    have h2 := congrArg List.length h'
    simp only [List.length_map] at h1 h2
    rw [h1, h2]
  · have h1 := congrArg (fun l => l[i]?) h
    have h2 := congrArg (fun l => l[i]?) h'
    simp only [List.getElem?_map, e, e', Option.map_some] at h1 h2
    cases ha : ats[i]? with
    | none => rw [ha] at h1; cases h1
    | some a =>
      rw [ha] at h1 h2
      simp only [Option.map_some, Option.some.injEq] at h1 h2
      unfold kt at h1 h2
      cases a with
      | fx s x =>
        injection h1 with h3 h4
        injection h2 with h5 h6
        exact ⟨h3.trans h5.symm, fun w _ => by rw [h4, h6]⟩
      | nm j =>
        injection h1 with h3 h4
        injection h2 with h5 h6
        exact ⟨h3.trans h5.symm, fun w hw => by rw [h4, h6]; exact ⟨fun z => absurd z (name_sp (hn j) w hw), fun z => absurd z (name_sp (hn' j) w hw)⟩⟩
      | nu j =>
        injection h1 with h3 h4
        injection h2 with h5 h6
        exact ⟨h3.trans h5.symm, fun w hw => by rw [h4, h6]; exact ⟨fun z => absurd z (num_sp (hu j) w hw), fun z => absurd z (num_sp (hu' j) w hw)⟩⟩
theorem q_name : NameL [113] := ⟨by decide, by decide, by decide, by decide +kernel⟩
theorem q_num : NumL [55] := ⟨by decide, by decide, by decide⟩
/-- a row with names and numbers left open reads as it does with q and 7 -/
def itB (l : List Sgn) (d : PyData) (ss : List (Str × Nat × Str)) : Bool := (itk (l.length + 1) l).isSome && wholeB (toks (exl (fun _ => [113]) (fun _ => [55]) l) 0) d ss
theorem itB_ok {l : List Sgn} {d : PyData} {ss : List (Str × Nat × Str)} (h : itB l d ss = true) {n u : Nat → List Nat} (hn : ∀ i, NameL (n i)) (hu : ∀ i, NumL (u i)) : Whole (toks (exl n u l) 0) d ss := by
  unfold itB at h
  rw [Bool.and_eq_true] at h
  obtain ⟨ats, e⟩ := Option.isSome_iff_exists.mp h.1
  exact Whole.alike (alike_inst (fun _ => q_name) (fun _ => q_num) hn hu (itk_ok (fun _ => q_name) (fun _ => q_num) _ _ _ 0 e) (itk_ok hn hu _ _ _ 0 e)) (wholeB_ok h.2)
/-- signs of a text -/
def wr (x : Str) : List Sgn := x.cps.toList.map .ch
theorem exl_app (n u : Nat → List Nat) (a b : List Sgn) : exl n u (a ++ b) = exl n u a ++ exl n u b := List.flatMap_append
theorem exl_wr (n u : Nat → List Nat) (x : Str) : exl n u (wr x) = x.cps.toList := by
  unfold exl wr
  rw [List.flatMap_map]
  exact List.flatMap_singleton' _
example : itB (wr "let " ++ [.nm 0] ++ wr "=" ++ [.nm 0] ++ wr "(") (.tuple [.str "let", dN 1, .tuple [.str "call", dN 3, .tuple [.tuple [.str "hole", dN 5]]]]) [("part", 5, ""), ("sign", 5, ")")] = true := by decide +kernel
end Tr

set_option maxHeartbeats 4000000
/-! Rx: things that a law bends: small numbers and texts, at times in a tuple or list of one, three or four of them together; they stay while the box is drawn from; repr of them. -/
namespace Gx
open PySem PySem.Spec PyProof.Rows L2
/-- the heap without the box -/
def off (b : Addr) (H : Hp) : Hp := fun a => if a = b then none else H a
theorem off_same {b : Addr} {H : Hp} : Same (off b H) H := fun a o h => by
  unfold off at h
  by_cases e : a = b
  · rw [if_pos e] at h; cases h
  · rw [if_neg e] at h; exact h
theorem off_at {b a : Addr} {H : Hp} {o : HO} (n : a ≠ b) (h : H a = some o) : off b H a = some o := by
  unfold off; rw [if_neg n]; exact h
theorem Drawn.off {b : Addr} {H H' : Hp} (d : Drawn b H H') : Same (off b H) (off b H') := fun a o h => by
  by_cases e : a = b
  · unfold Gx.off at h; rw [if_pos e] at h; cases h
  · exact off_at e (d.2 a o e (off_same a o h))
theorem same_off {b : Addr} {H H' : Hp} (s : Same H H') : Same (off b H) (off b H') := fun a o h => by
  by_cases e : a = b
  · unfold Gx.off at h; rw [if_pos e] at h; cases h
  · exact off_at e (s a o (off_same a o h))
/-- a number, a text, a truth, nothing -/
def Bs (B M : Nat) (d : PyData) : Prop := d = .none ∨ (∃ b, d = .bool b) ∨ (∃ i : Int, d = .int i ∧ i.natAbs ≤ B) ∨ ∃ z : Str, d = .str z ∧ z.length ≤ M ∧ ∀ c ∈ z.cps.toList, c < 1114112
/-- such a thing, or one of them in a tuple or a list -/
def PD (B M : Nat) (d : PyData) : Prop := Bs B M d ∨ ∃ e, Bs B M e ∧ (d = .tuple [e] ∨ d = .list [e])
/-- a tuple or a list of at most four of these -/
def MD (B M : Nat) (d : PyData) : Prop := ∃ ds, (d = .tuple ds ∨ d = .list ds) ∧ ds.length ≤ 4 ∧ ∀ e ∈ ds, PD B M e
theorem Bs.mono {B M B' M' : Nat} {d : PyData} (hB : B ≤ B') (hM : M ≤ M') (h : Bs B M d) : Bs B' M' d := by
  rcases h with h | h | ⟨i, h, hi⟩ | ⟨z, h, hz, hc⟩
  · exact .inl h
  · exact .inr (.inl h)
  · exact .inr (.inr (.inl ⟨i, h, by omega⟩))
  · exact .inr (.inr (.inr ⟨z, h, by omega, hc⟩))
theorem PD.mono {B M B' M' : Nat} {d : PyData} (hB : B ≤ B') (hM : M ≤ M') (h : PD B M d) : PD B' M' d := by
  rcases h with h | ⟨e, h, k⟩
  · exact .inl (h.mono hB hM)
  · exact .inr ⟨e, h.mono hB hM, k⟩
theorem ofs_lt (x : String) : ∀ c ∈ (Str.ofString x).cps.toList, c < 1114112 := by
  intro c hc
  rw [Str.ofString_eq_toList] at hc
  obtain ⟨k, _, rfl⟩ := List.mem_map.mp hc
  have := k.valid
  unfold UInt32.isValidChar Nat.isValidChar at this
  show k.val.toNat < _
  omega
/-- what repr of it asks -/
def Rp (n p : Nat) (d : PyData) : Prop := d.showable = true ∧ d.hasDict = false ∧ d.depth ≤ p ∧ d.shown.length ≤ n
theorem log_small {n : Nat} (h : n ≤ 1000000000) : n.log2 < 64 := by
  by_cases h0 : n = 0
  · subst h0; decide
  · exact (Nat.log2_lt h0).mpr (by omega)
theorem bs_rp {B M : Nat} {d : PyData} (hB : B ≤ 1000000000) (h : Bs B M d) : Rp (10 * M + 100) 0 d := by
  rcases h with rfl | ⟨b, rfl⟩ | ⟨i, rfl, hi⟩ | ⟨z, rfl, hz, hc⟩
  · exact ⟨rfl, rfl, Nat.le_refl _, by show (4 : Nat) ≤ _; omega⟩
  · refine ⟨rfl, rfl, Nat.le_refl _, ?_⟩
    cases b
    · show (5 : Nat) ≤ _; omega
    · show (4 : Nat) ≤ _; omega
  · have h64 := log_small (n := i.natAbs) (by omega)
    refine ⟨?_, rfl, Nat.le_refl _, ?_⟩
    · rw [PyData.showable]; exact decide_eq_true (by omega)
    · rw [PyData.shown]
      have h4 := int_text_length_le (a := i) (k := 64) (by decide) h64
      show (Str.ofString (toString i)).length ≤ _
      rw [PySem.ofString_length]
      omega
  · refine ⟨rfl, rfl, Nat.le_refl _, ?_⟩
    rw [PyData.shown]
    have := StrLaws.reprText_len z fun c h => Nat.lt_trans (hc c h) (by decide)
    omega
theorem all_rp {n p : Nat} : ∀ {ds : List PyData}, (∀ e ∈ ds, Rp n p e) → PyData.showableAll ds = true ∧ PyData.hasDictAll ds = false ∧ PyData.depthAll ds ≤ p ∧ ((PyData.shownAll ds).map (·.length)).sum ≤ n * ds.length ∧ (PyData.shownAll ds).length = ds.length
  | [], _ => ⟨rfl, rfl, Nat.zero_le _, Nat.le_refl _, rfl⟩
  | d :: ds, h => by
    obtain ⟨h1, h2, h3, h4, h5⟩ := all_rp (ds := ds) fun e he => h e (List.mem_cons_of_mem _ he)
    obtain ⟨k1, k2, k3, k4⟩ := h d (List.mem_cons_self ..)
    refine ⟨?_, ?_, ?_, ?_, ?_⟩
    · rw [PyData.showableAll, k1, h1]; rfl
    · rw [PyData.hasDictAll, k2, h2]; rfl
    · rw [PyData.depthAll]; omega
    · rw [PyData.shownAll, List.map_cons, List.sum_cons, List.length_cons, Nat.mul_add, Nat.mul_one]; omega
    · rw [PyData.shownAll, List.length_cons, h5, List.length_cons]
theorem seq_rp {n p : Nat} {ds : List PyData} (h : ∀ e ∈ ds, Rp n p e) (hl : ds.length ≤ 10) {d : PyData} (hd : d = .tuple ds ∨ d = .list ds) : Rp (n * ds.length + 23) (p + 1) d := by
  obtain ⟨h1, h2, h3, h4, h5⟩ := all_rp h
  rcases hd with rfl | rfl
  · refine ⟨by rw [PyData.showable]; exact h1, by rw [PyData.hasDict]; exact h2, by rw [PyData.depth]; omega, ?_⟩
    rw [PyData.shown]
    have := tupleText_len_le (PyData.shownAll ds)
    omega
  · refine ⟨by rw [PyData.showable]; exact h1, by rw [PyData.hasDict]; exact h2, by rw [PyData.depth]; omega, ?_⟩
    rw [PyData.shown]
    have := listText_len_le (PyData.shownAll ds)
    omega
theorem Rp.mono {n p n' p' : Nat} {d : PyData} (h : Rp n p d) (hn : n ≤ n') (hp : p ≤ p') : Rp n' p' d := ⟨h.1, h.2.1, Nat.le_trans h.2.2.1 hp, Nat.le_trans h.2.2.2 hn⟩
theorem pd_rp {B M : Nat} {d : PyData} (hB : B ≤ 1000000000) (h : PD B M d) : Rp (10 * M + 123) 1 d := by
  rcases h with h | ⟨e, h, k⟩
  · exact (bs_rp hB h).mono (by omega) (by omega)
  · have := seq_rp (ds := [e]) (fun x hx => by rw [List.mem_singleton.mp hx]; exact bs_rp hB h) (by show 1 ≤ 10; decide) k
    exact this.mono (by rw [List.length_singleton]; omega) (Nat.le_refl _)
theorem md_rp {B M : Nat} {d : PyData} (hB : B ≤ 1000000000) (hM : M ≤ 100000) (h : MD B M d) : Rp 5000000 2 d := by
  obtain ⟨ds, hd, hl, h⟩ := h
  have := seq_rp (fun e he => pd_rp hB (h e he)) (by omega) hd
  refine this.mono ?_ (Nat.le_refl _)
  have h2 := Nat.mul_le_mul_left (10 * M + 123) hl
  omega
end Gx

set_option maxHeartbeats 4000000
/-! Wd: lists of short texts that the draws of a state give. -/
namespace Gx
open PySem PySem.Spec PyProof.Rows L2
/-- [e for k in range(n)], e drawn -/
theorem lc_Dr {te : TE} {j : Nat} {vs : List Nat} {σ : L2.St} {H : Hp} {Q : VK} {ta : TA} {st c : Addr} (b m N : Nat) (Pn : Nat → Prop) (R : V → Prop) (hst : ∃ b, IsSt H st c b) (hPn : ∀ n, Pn n → n ≤ m) (hm : m ≤ 1000) (hb : b + m * N ≤ cap)
    (h0 : ∀ R' : List V → Hp → Prop, (∀ H1 (n : Nat), Pn n → Dr st c b H H1 → R' [.int (n : Int)] H1) → ta σ H R')
    (hs : ∀ (k : Int) b' H', 0 ≤ k → k < (m : Int) → Dr st c b' H H' → b' + N ≤ cap → ∀ Qv : VK, (∀ v H'', R v → Dr st c (b' + N) H' H'' → Qv v H'') → te ((wipe σ vs).set j (some (.int k))) H' Qv)
    (hd : ∀ D xs H', H D = none → (D ≠ st ∧ D ≠ c) → Pn xs.length → (∀ x ∈ xs, R x) → H' D = some (.lst xs) → Dr st c (b + m * N) H H' → Q (.ref D) H') (hw : ∀ x, wipe ((wipe σ vs).set j (some x)) vs = wipe σ vs := by intro x; rfl) :
    tLc (iRng1 ta) (gName j) tYes te vs σ H Q := by
  refine h0 _ fun H1 n hpn d1 => ?_
  have hn := hPn n hpn
  refine ⟨((n : Nat) : Int), rfl, by omega, by omega, fun D hD => ?_⟩
  have hDn := d1.nb hD
  have hDf := d1.free hD
  rw [Int.toNat_natCast]
  refine lc_it walk_range (fun i H2 => ∃ xs : List V, xs.length = i ∧ (∀ x ∈ xs, R x) ∧ H2 D = some (.lst xs) ∧ Dr st c (b + i * N) H H2) ⟨[], rfl, (fun _ h => absurd h List.not_mem_nil), upd_same, by rw [Nat.zero_mul, Nat.add_zero]; exact d1.new hD⟩ (fun _ _ _ _ => trivial) (fun i v H2 H3 hi hP hy => ?_) (fun H2 hP => ?_)
  · obtain ⟨xs, e1, e2, e3, d2⟩ := hP
    obtain ⟨rfl, rfl⟩ := hy
    refine ⟨hw _, ?_⟩
    unfold tYes
    dsimp only
    rw [if_pos rfl]
    have hNm : (i + 1) * N ≤ m * N := Nat.mul_le_mul_right N (by omega)
    rw [Nat.add_mul, Nat.one_mul] at hNm
    refine hs _ (b + i * N) _ (by omega) (by omega) d2 (by omega) _ fun y H4 hy d3 => ?_
    have e4 := d3.2 _ _ hDn.1 hDn.2 e3
    refine ⟨_, e4, ?_, xs ++ [y], by rw [List.length_append, e1]; rfl, ?_, upd_same, ?_⟩
    · have : (1000 : Nat) < sizeLine := by decide
      omega
    · intro z hz
      rcases List.mem_append.mp hz with hz | hz
      · exact e2 z hz
      · rw [List.mem_singleton.mp hz]; exact hy
    · rw [show (i + 1) * N = i * N + N by rw [Nat.add_mul, Nat.one_mul], ← Nat.add_assoc]
      exact (d2.trans d3).at hDf hDn _
  · obtain ⟨xs, e1, e2, e3, d2⟩ := hP
    exact hd D xs H2 hDf hDn (by rw [e1]; exact hpn) e2 e3 (d2.mono (Nat.add_le_add_left (Nat.mul_le_mul_right N (by omega)) b))
theorem joinL_length (S : List Nat) : ∀ ps : List (List Nat), (TL.joinL S ps).length ≤ (ps.map (·.length)).sum + ps.length * S.length
  | [] => Nat.zero_le _
  | [p] => by simp [TL.joinL]
  | p :: q :: r => by
    have ih := joinL_length S (q :: r)
    show (p ++ (S ++ TL.joinL S (q :: r))).length ≤ _
    rw [List.length_append, List.length_append, List.map_cons, List.sum_cons, List.length_cons, Nat.add_mul, Nat.one_mul]
    omega
theorem join_len (y : Str) (ys : List Str) : (Txt.join y ys).length ≤ (ys.map (·.length)).sum + ys.length * y.length := by
  rw [TL.join_eq]
  have h1 : (Str.join y ys).length = (TL.tl (Str.join y ys)).length := (Array.length_toList).symm
  have h2 := joinL_length (TL.tl y) (ys.map TL.tl)
  have h3 : (TL.tl y).length = y.length := Array.length_toList
  have h4 : (ys.map TL.tl).map (·.length) = ys.map (·.length) := by
    rw [List.map_map]
    exact List.map_congr_left fun z _ => Array.length_toList
  rw [h1, TL.tl_join]
  rw [List.length_map, h3, h4] at h2
  exact h2
theorem sum_le (B : Nat) : ∀ ys : List Str, (∀ y ∈ ys, y.length ≤ B) → (ys.map (·.length)).sum ≤ ys.length * B
  | [], _ => Nat.zero_le _
  | y :: ys, h => by
    have ih := sum_le B ys fun z hz => h z (List.mem_cons_of_mem _ hz)
    have h1 := h y List.mem_cons_self
    rw [List.map_cons, List.sum_cons, List.length_cons, Nat.add_mul, Nat.one_mul]
    omega
/-- values that are texts, as texts -/
theorem strs_of {P : Str → Prop} : ∀ {xs : List V}, (∀ x ∈ xs, ∃ y, x = .str y ∧ P y) → ∃ ys : List Str, xs = ys.map V.str ∧ ∀ y ∈ ys, P y
  | [], _ => ⟨[], rfl, fun _ h => absurd h List.not_mem_nil⟩
  | x :: xs, h => by
    obtain ⟨y, rfl, hy⟩ := h x List.mem_cons_self
    obtain ⟨ys, rfl, hys⟩ := strs_of fun z hz => h z (List.mem_cons_of_mem _ hz)
    refine ⟨y :: ys, rfl, fun z hz => ?_⟩
    rcases List.mem_cons.mp hz with rfl | hz
    · exact hy
    · exact hys z hz
theorem sign_at {x : Str} {v : Int} (h0 : 0 ≤ v) (h1 : v < (x.length : Int)) : ∃ ch, atI x.cps.toList v = some ch := by
  have hl : x.cps.toList.length = x.length := Array.length_toList
  have := atI_nat (xs := x.cps.toList) (j := v.toNat) (List.getElem?_eq_getElem (by omega))
  rw [show ((v.toNat : Nat) : Int) = v by omega] at this
  exact ⟨_, this⟩
theorem item_at {α : Type} {xs : List α} {v : Int} (h0 : 0 ≤ v) (h1 : v < (xs.length : Int)) : ∃ x, atI xs v = some x ∧ x ∈ xs := by
  have h2 : v.toNat < xs.length := by omega
  have := atI_nat (xs := xs) (j := v.toNat) (List.getElem?_eq_getElem h2)
  rw [show ((v.toNat : Nat) : Int) = v by omega] at this
  exact ⟨_, this, List.getElem_mem h2⟩
theorem seq_viaR {t rest : TS} {D : Ends} {σ : L2.St} {H : Hp} (P : L2.St → Hp → Prop) (h1 : ∀ nx' : L2.St → Hp → Prop, (∀ σ' H', P σ' H' → nx' σ' H') → t { D with nx := nx' } σ H) (k : ∀ σ' H', P σ' H' → rest D σ' H') : tSeq t rest D σ H := h1 _ k
/-- a short text -/
def Ws (n : Nat) (x : Str) : Prop := 1 ≤ x.length ∧ x.length ≤ n
theorem Ws.mono {n m : Nat} {x : Str} (h : Ws n x) (hn : n ≤ m) : Ws m x := ⟨h.1, Nat.le_trans h.2 hn⟩
/-- a list of short texts at p -/
def WsL (n : Nat) (ws : List Str) : Prop := ∀ x ∈ ws, Ws n x
theorem WsL.app {n : Nat} {a b : List Str} (h : WsL n a) (h' : WsL n b) : WsL n (a ++ b) := fun x hx => by
  rcases List.mem_append.mp hx with hx | hx
  · exact h x hx
  · exact h' x hx
/-- names that stand at nm -/
def Nms (H : Hp) (st c nm : Addr) (ns : List Str) : Prop := H nm = some (.lst (ns.map V.str)) ∧ (nm ≠ st ∧ nm ≠ c) ∧ ns ≠ [] ∧ ns.length ≤ 100 ∧ WsL 8 ns
theorem Nms.dr {H H' : Hp} {st c nm : Addr} {ns : List Str} {b : Nat} (h : Nms H st c nm ns) (d : Dr st c b H H') : Nms H' st c nm ns := ⟨d.2 _ _ h.2.1.1 h.2.1.2 h.1, h.2⟩
theorem Nms.new {H : Hp} {st c nm p : Addr} {ns : List Str} {o : HO} (h : Nms H st c nm ns) (hp : H p = none) : Nms (upd H p o) st c nm ns := ⟨by rw [upd_ne (ne_of_none h.1 hp)]; exact h.1, h.2⟩
/-- a def that tells so many words, from so many draws, for a depth -/
def spW (N : Nat) (n : Int) : Sp := fun vs H Q _ => ∃ (st c nm : Addr) (b : Nat) (ns : List Str) (deep : Int), vs = [.ref st, .ref nm, .int deep] ∧ IsSt H st c b ∧ b + N ≤ cap ∧ Nms H st c nm ns ∧ deep ≤ n ∧
  ∀ p ws H', H p = none → (p ≠ st ∧ p ≠ c) → Dr st c (b + N) H H' → H' p = some (.lst (ws.map V.str)) → ws.length ≤ N → WsL 8 ws → Q (.ref p) H'
theorem rcat {p q : Addr} {H : Hp} {Q : VK} {a b : List Str} (e1 : H p = some (.lst (a.map V.str))) (e2 : H q = some (.lst (b.map V.str))) (hl : a.length + b.length ≤ 1000000)
    (k : ∀ r H', H r = none → Same H H' → H' r = some (.lst ((a ++ b).map V.str)) → Q (.ref r) H') : rCat (.ref p) (.ref q) H Q := by
  have h5 : (1000000 : Nat) ≤ sizeLine := by decide
  exact ⟨p, q, _, _, rfl, rfl, e1, e2, by rw [List.length_map, List.length_map]; omega, fun r hr => k r _ hr (same_new hr) (by rw [upd_same, List.map_append])⟩
theorem digits_len {v : Int} (h0 : 0 ≤ v) (h1 : v < 1000000) : Ws 8 (toString v : String) := by
  have h2 := PySem.int_text_length_le10 (a := v) (k := 6) (by decide) (by omega)
  have h3 : ((toString v : String) : Str).length = (toString v).length := PySem.ofString_length _
  refine ⟨?_, by rw [h3]; omega⟩
  rw [h3]
  obtain ⟨m, rfl⟩ := Int.eq_ofNat_of_zero_le h0
  exact Nat.length_repr_pos
theorem times_len (x : Str) (n : Nat) : (timesS x n).length = n * x.length := by
  show ((List.replicate n x.cps.toList).flatten.toArray).size = _
  rw [List.size_toArray, List.length_flatten]
  simp [Str.length]
theorem last_at {x : Str} (h : x ≠ SX.S []) : ∃ ch, atI x.cps.toList (-1) = some ch := by
  have hl : x.cps.toList ≠ [] := fun e => h (TL.ext_tl e)
  refine ⟨x.cps.toList.getLast hl, ?_⟩
  have e := List.dropLast_concat_getLast hl
  have := atI_last x.cps.toList.dropLast (x.cps.toList.getLast hl)
  rw [e] at this
  exact this
end Gx

set_option maxHeartbeats 4000000
/-! Nmx: NAMEs as they are drawn. -/
namespace Gx
open PySem PySem.Spec PyProof.Rows L2 Tk Tr
/-- x is a NAME -/
def NmS (x : Str) : Prop := NameL x.cps.toList
theorem NmS.eq (x : Str) : x = SX.S x.cps.toList := TL.ext_tl rfl
theorem NmS.ws {x : Str} (h : NmS x) : Ws 8 x := by
  have e : x.cps.toList.length = x.length := Array.length_toList
  have h1 := h.lo
  have h2 := h.hi
  exact ⟨by omega, by omega⟩
theorem nh_last : ∀ x ∈ heldW, x.cps.toList.getLast? ≠ some 113 ∧ x.cps.toList.getLast? ≠ some 122 ∧ x.cps.toList.head? ≠ some 120 ∧ x.cps.toList.length ≠ 1 := by
  have h : heldW.all (fun x => decide (x.cps.toList.getLast? ≠ some 113 ∧ x.cps.toList.getLast? ≠ some 122 ∧ x.cps.toList.head? ≠ some 120 ∧ x.cps.toList.length ≠ 1)) = true := by decide +kernel
  exact fun x hx => of_decide_eq_true (List.all_eq_true.mp h x hx)
theorem nm_of {l : List Nat} (ha : l.all isLet = true) (h1 : 1 ≤ l.length) (h8 : l.length ≤ 8) (h : l.getLast? = some 113 ∨ l.getLast? = some 122 ∨ l.head? = some 120 ∨ l.length = 1) : NameL l := by
  refine ⟨ha, h1, h8, fun z => ?_⟩
  have q := nh_last _ z
  have e : (SX.S l).cps.toList = l := rfl
  rw [e] at q
  rcases h with h | h | h | h
  · exact q.1 h
  · exact q.2.1 h
  · exact q.2.2.1 h
  · exact q.2.2.2 h
theorem joinL0 : ∀ ls : List (List Nat), TL.joinL [] ls = ls.flatten
  | [] => rfl
  | [p] => by show p = _; simp
  | p :: q :: r => by
    show p ++ ([] ++ TL.joinL [] (q :: r)) = _
    rw [joinL0 (q :: r)]; rfl
theorem join_all {p : Nat → Bool} {ys : List Str} (h : ∀ y ∈ ys, y.cps.toList.all p = true) : (Txt.join "" ys).cps.toList.all p = true := by
  have e : (Txt.join "" ys).cps.toList = (ys.map TL.tl).flatten := by
    rw [TL.join_eq]
    show TL.tl _ = _
    rw [TL.tl_join]
    exact joinL0 _
  rw [e, List.all_flatten, List.all_map]
  exact List.all_eq_true.mpr h
theorem az_let : ("abcdefghijklmnopqrstuvwxyz" : Str).cps.toList.all isLet = true := by decide +kernel
/-- NAMEs in a list -/
def NmL (ns : List Str) : Prop := ∀ x ∈ ns, NmS x
theorem NmL.ws {ns : List Str} (h : NmL ns) : WsL 8 ns := fun x hx => (h x hx).ws
theorem NmL.app {a b : List Str} (ha : NmL a) (hb : NmL b) : NmL (a ++ b) := fun x hx => by
  rcases List.mem_append.mp hx with h | h
  · exact ha x h
  · exact hb x h
theorem some_nm : NmL (["le", "de", "i", "el", "ta", "ye", "iff", "lets", "deff", "nu", "wor", "fla", "att", "thens"] : List Str) := by
  have h : (["le", "de", "i", "el", "ta", "ye", "iff", "lets", "deff", "nu", "wor", "fla", "att", "thens"] : List Str).all (fun x => decide (x.cps.toList.all isLet = true ∧ 1 ≤ x.cps.toList.length ∧ x.cps.toList.length ≤ 8 ∧ SX.S x.cps.toList ∉ heldW)) = true := by decide +kernel
  intro x hx
  have q := of_decide_eq_true (List.all_eq_true.mp h x hx)
  exact ⟨q.1, q.2.1, q.2.2.1, q.2.2.2⟩
/-- a head, a letter, a tail -/
def NmP (hd t : Str) : Prop := ∀ ch : Nat, isLet ch = true → NmS (hd ++ ({ cps := #[ch] } : Str) ++ t)
theorem cat3 (hd t : Str) (ch : Nat) : (hd ++ ({ cps := #[ch] } : Str) ++ t).cps.toList = hd.cps.toList ++ [ch] ++ t.cps.toList := by
  show TL.tl _ = _
  rw [TL.tl_append, TL.tl_append]
theorem nmp {hd t : Str} (h1 : hd.cps.toList.all isLet = true) (h2 : t.cps.toList.all isLet = true) (h8 : hd.cps.toList.length + t.cps.toList.length ≤ 7) (h : t.cps.toList.getLast? = some 113 ∨ t.cps.toList.getLast? = some 122 ∨ (hd.cps.toList.head? = some 120) ∨ (hd.cps.toList.length = 0 ∧ t.cps.toList.length = 0)) : NmP hd t := fun ch hc => by
  unfold NmS
  rw [cat3]
  have hl : (hd.cps.toList ++ [ch] ++ t.cps.toList).length = hd.cps.toList.length + 1 + t.cps.toList.length := by rw [List.length_append, List.length_append]; rfl
  refine nm_of ?_ (by omega) (by omega) ?_
  · rw [List.all_append, List.all_append, h1, h2, List.all_cons, hc]; rfl
  · rcases h with h | h | h | h
    · exact .inl (by rw [List.getLast?_append, h]; rfl)
    · exact .inr (.inl (by rw [List.getLast?_append, h]; rfl))
    · refine .inr (.inr (.inl ?_))
      rw [List.append_assoc, List.head?_append, h]; rfl
    · exact .inr (.inr (.inr (by omega)))
end Gx

set_option maxHeartbeats 4000000
/-! Gw: rows as they are drawn, word by word. -/
namespace Gx
open PySem PySem.Spec PyProof.Rows L2 Tk Tr
/-- signs of right and bent rows -/
def okq (c : Nat) : Bool := decide (32 ≤ c) && (decide (c < 127) && (c != 39 && c != 92))
def Okq (x : Str) : Prop := x.cps.toList.all okq = true
/-- a lone part's word -/
def LoW (x : Str) : Prop := x ∈ (["0", "7", "000", "999999", "\"\"", "\"a b\"", "\"let (\"", "yes", "no"] : List Str) ∨ NumL x.cps.toList
mutual
inductive Gs : List Str → Prop
  | lone {x : Str} : LoW x → Gs [x]
  | name {x : Str} : NmS x → Gs [x]
  | call {x : Str} {ws : List Str} : NmS x → Gc ws → Gs (([x, "("] ++ ws) ++ ([")"] : List Str))
  | sq {ws : List Str} : Gc ws → Gs (((["["] : List Str) ++ ws) ++ (["]"] : List Str))
  | rd {ws : List Str} : Gp ws → Gs (((["("] : List Str) ++ ws) ++ ([")"] : List Str))
  | iff {a b c : List Str} : Gp a → Gp b → Gp c → Gs (((((["if"] : List Str) ++ a) ++ (["then"] : List Str)) ++ b ++ (["else"] : List Str)) ++ c)
inductive Gp : List Str → Prop
  | base {ws : List Str} : Gs ws → Gp ws
  | more {ws ws' : List Str} {op : Str} : Gp ws → op ∈ opsW → Gs ws' → Gp ((ws ++ [op]) ++ ws')
inductive Gc : List Str → Prop
  | base {ws : List Str} : Gp ws → Gc ws
  | more {ws ws' : List Str} : Gc ws → Gp ws' → Gc ((ws ++ ([","] : List Str)) ++ ws')
end
inductive GdF : Nat → List Str → Prop
  | zero {x : Str} : NmS x → GdF 0 ["def", x, "("]
  | one {ws : List Str} {p k : Str} : GdF 0 ws → NmS p → k ∈ kindW → GdF 1 ((ws ++ []) ++ [p, k])
  | more {n : Nat} {ws : List Str} {p k : Str} : GdF (n + 1) ws → NmS p → k ∈ kindW → GdF (n + 2) ((ws ++ ([","] : List Str)) ++ [p, k])
inductive Gr : List Str → Prop
  | take {x : Str} : NmS x → Gr ["take", x]
  | lets {x : Str} {ws : List Str} : NmS x → Gp ws → Gr ((["let", x, "="] : List Str) ++ ws)
  | defs {n : Nat} {ws ws' : List Str} : GdF (n + 1) ws → Gp ws' → Gr ((ws ++ ([")", "="] : List Str)) ++ ws')
/-- a word that is one token by itself -/
structure Wo (x : Str) : Prop where
  len : Ws 8 x
  okq : Okq x
  tok : (tokAt x.cps.toList).2 = x.cps.toList
  odd : (tokAt x.cps.toList).1 ≠ "odd"
  h32 : x.cps.toList.headD 0 ≠ 32
def WoL (ws : List Str) : Prop := ∀ x ∈ ws, Wo x
theorem WoL.app {a b : List Str} (ha : WoL a) (hb : WoL b) : WoL (a ++ b) := fun x hx => by
  rcases List.mem_append.mp hx with h | h
  · exact ha x h
  · exact hb x h
theorem WoL.ws {ws : List Str} (h : WoL ws) : WsL 8 ws := fun x hx => (h x hx).len
def woB (x : Str) : Bool := decide (1 ≤ x.length ∧ x.length ≤ 8 ∧ x.cps.toList.all okq = true ∧ (tokAt x.cps.toList).2 = x.cps.toList ∧ (tokAt x.cps.toList).1 ≠ "odd" ∧ x.cps.toList.headD 0 ≠ 32)
theorem wo_all {ws : List Str} (h : ws.all woB = true) : WoL ws := fun x hx => by
  have q := of_decide_eq_true (List.all_eq_true.mp h x hx)
  exact ⟨⟨q.1, q.2.1⟩, q.2.2.1, q.2.2.2.1, q.2.2.2.2.1, q.2.2.2.2.2⟩
theorem okq_let {c : Nat} (h : isLet c = true) : okq c = true := by
  unfold isLet at h
  rw [Bool.and_eq_true, decide_eq_true_eq, decide_eq_true_eq] at h
  unfold okq
  simp only [Bool.and_eq_true, decide_eq_true_eq, bne_iff_ne, ne_eq]
  omega
theorem okq_fig {c : Nat} (h : isFig c = true) : okq c = true := by
  unfold isFig at h
  rw [Bool.and_eq_true, decide_eq_true_eq, decide_eq_true_eq] at h
  unfold okq
  simp only [Bool.and_eq_true, decide_eq_true_eq, bne_iff_ne, ne_eq]
  omega
theorem all_imp {p q : Nat → Bool} {l : List Nat} (h : l.all p = true) (k : ∀ c, p c = true → q c = true) : l.all q = true := List.all_eq_true.mpr fun c hc => k c (List.all_eq_true.mp h c hc)
theorem head_of {l : List Nat} {p : Nat → Bool} (h : l.all p = true) (h1 : 1 ≤ l.length) : p (l.headD 0) = true := by
  cases l with
  | nil => exact absurd h1 (by decide)
  | cons c l => rw [List.all_cons, Bool.and_eq_true] at h; exact h.1
theorem NmS.wo {x : Str} (h : NmS x) : Wo x := by
  have t := name_tok (r := []) h (fun _ hc => by cases hc)
  rw [List.append_nil] at t
  refine ⟨h.ws, all_imp h.all fun _ => okq_let, by rw [t], by rw [t]; exact (by decide +kernel : ("name" : Str) ≠ "odd"), let32 (head_of h.all h.lo)⟩
theorem num_wo {x : Str} (h : NumL x.cps.toList) : Wo x := by
  have t := num_tok (r := []) h (fun _ hc => by cases hc)
  rw [List.append_nil] at t
  have e : x.cps.toList.length = x.length := Array.length_toList
  have h1 := h.lo
  have h2 := h.hi
  refine ⟨⟨by omega, by omega⟩, all_imp h.all fun _ => okq_fig, by rw [t], by rw [t]; exact (by decide +kernel : ("number" : Str) ≠ "odd"), (fig32 (head_of h.all h.lo)).1⟩
theorem LoW.wo {x : Str} (h : LoW x) : Wo x := by
  rcases h with h | h
  · exact wo_all (ws := ["0", "7", "000", "999999", "\"\"", "\"a b\"", "\"let (\"", "yes", "no"]) (by decide +kernel) x h
  · exact num_wo h
theorem wo1 {x : Str} (h : Wo x) : WoL [x] := fun y hy => by rw [List.mem_singleton.mp hy]; exact h
theorem wo2 {x y : Str} (h : Wo x) (h' : Wo y) : WoL [x, y] := fun z hz => by
  rcases List.mem_cons.mp hz with rfl | hz
  · exact h
  · exact wo1 h' z hz
theorem ops_wo : WoL opsW := wo_all (by decide +kernel)
theorem kinds_wo : WoL kindW := wo_all (by decide +kernel)
mutual
theorem Gs.wo : ∀ {ws : List Str}, Gs ws → WoL ws
  | _, .lone h => wo1 h.wo
  | _, .name h => wo1 h.wo
  | _, .call h g => ((wo2 h.wo (wo_all (ws := ["("]) (by decide +kernel) _ List.mem_cons_self)).app (Gc.wo g)).app (wo_all (by decide +kernel))
  | _, .sq g => (WoL.app (wo_all (by decide +kernel)) (Gc.wo g)).app (wo_all (by decide +kernel))
  | _, .rd g => (WoL.app (wo_all (by decide +kernel)) (Gp.wo g)).app (wo_all (by decide +kernel))
  | _, .iff a b c => ((((WoL.app (wo_all (by decide +kernel)) (Gp.wo a)).app (wo_all (by decide +kernel))).app (Gp.wo b)).app (wo_all (by decide +kernel))).app (Gp.wo c)
theorem Gp.wo : ∀ {ws : List Str}, Gp ws → WoL ws
  | _, .base g => Gs.wo g
  | _, .more g h g' => ((Gp.wo g).app (wo1 (ops_wo _ h))).app (Gs.wo g')
theorem Gc.wo : ∀ {ws : List Str}, Gc ws → WoL ws
  | _, .base g => Gp.wo g
  | _, .more g g' => ((Gc.wo g).app (wo_all (by decide +kernel))).app (Gp.wo g')
end
theorem GdF.wo {n : Nat} {ws : List Str} (h : GdF n ws) : WoL ws := by
  induction h with
  | zero h => exact (wo_all (ws := ["def"]) (by decide +kernel)).app (wo2 h.wo (wo_all (ws := ["("]) (by decide +kernel) _ List.mem_cons_self))
  | one _ h k ih => rw [List.append_nil]; exact ih.app (wo2 h.wo (kinds_wo _ k))
  | more _ h k ih => exact (ih.app (wo_all (by decide +kernel))).app (wo2 h.wo (kinds_wo _ k))
theorem Gr.wo {ws : List Str} (h : Gr ws) : WoL ws := by
  cases h with
  | take h => exact (wo_all (ws := ["take"]) (by decide +kernel)).app (wo1 h.wo)
  | lets h g => exact ((wo_all (ws := ["let"]) (by decide +kernel)).app (wo2 h.wo (wo_all (ws := ["="]) (by decide +kernel) _ List.mem_cons_self))).app g.wo
  | defs d g => exact (d.wo.app (wo_all (by decide +kernel))).app g.wo
/-- NAMEs that stand at nm -/
def Nmn (H : Hp) (st c nm : Addr) (ns : List Str) : Prop := H nm = some (.lst (ns.map V.str)) ∧ (nm ≠ st ∧ nm ≠ c) ∧ ns ≠ [] ∧ ns.length ≤ 100 ∧ NmL ns
theorem Nmn.dr {H H' : Hp} {st c nm : Addr} {ns : List Str} {b : Nat} (h : Nmn H st c nm ns) (d : Dr st c b H H') : Nmn H' st c nm ns := ⟨d.2 _ _ h.2.1.1 h.2.1.2 h.1, h.2⟩
/-- a def that tells so many words, from so many draws, for a depth -/
def spG (G : List Str → Prop) (N : Nat) (n : Int) : Sp := fun vs H Q _ => ∃ (st c nm : Addr) (b : Nat) (ns : List Str) (deep : Int), vs = [.ref st, .ref nm, .int deep] ∧ IsSt H st c b ∧ b + N ≤ cap ∧ Nmn H st c nm ns ∧ deep ≤ n ∧
  ∀ p ws H', H p = none → (p ≠ st ∧ p ≠ c) → Dr st c (b + N) H H' → H' p = some (.lst (ws.map V.str)) → ws.length ≤ N → G ws → Q (.ref p) H'
theorem num_low {v : Int} (h0 : 0 ≤ v) (h1 : v < 1000000) : LoW ((toString v : String) : Str) := by
  obtain ⟨m, rfl⟩ := Int.eq_ofNat_of_zero_le h0
  have e : ((toString ((m : Nat) : Int) : String) : Str).cps.toList = TL.numL m := TL.tl_num m
  refine .inr ⟨?_, ?_, ?_⟩
  · rw [e]
    exact List.all_eq_true.mpr fun c hc => by
      have := TL.numL_digits m c hc
      unfold isFig
      rw [Bool.and_eq_true, decide_eq_true_eq, decide_eq_true_eq]
      exact this
  · rw [e]; exact List.length_pos_iff.mpr (TL.numL_ne m)
  · rw [e]; exact TL.numL_len (k := 6) (by decide) (by omega)
end Gx
namespace Gx
open PySem PySem.Spec PyProof.Rows L2 Tk Tr
/-- letters and figures -/
def rn (c : Nat) : Bool := isLet c || isFig c
def lastC (x : Str) : Nat := x.cps.toList.getLastD 0
def headC (x : Str) : Nat := x.cps.toList.headD 0
/-- words with blanks between, one at least where both are of letters or figures -/
inductive Tg : List Str → Str → Prop
  | nil : Tg [] ""
  | one {wd : Str} : Tg [wd] wd
  | snoc {ws : List Str} {x wd : Str} {g : Nat} : Tg ws x → ws ≠ [] → g ≤ 2 → (rn (lastC x) = true → rn (headC wd) = true → 1 ≤ g) → Tg (ws ++ [wd]) (x ++ timesS " " g ++ wd)
theorem rn_alnum {c : Nat} (h : rn c = true) : Txt.isalnum ({ cps := #[c] } : Str) = true := by
  have hc : c < 128 := by
    unfold rn isLet isFig at h
    simp only [Bool.or_eq_true, Bool.and_eq_true, decide_eq_true_eq] at h
    omega
  have k : ∀ c, c < 128 → rn c = true → Txt.isalnum ({ cps := #[c] } : Str) = true := by decide +kernel
  exact k c hc h
theorem times_cps (x : Str) (n : Nat) : (timesS x n).cps.toList = (List.replicate n x.cps.toList).flatten := rfl
theorem blanks_cps (n : Nat) : (timesS " " n).cps.toList = List.replicate n 32 := by
  rw [times_cps, show ((" " : Str)).cps.toList = [32] from rfl]
  induction n with
  | zero => rfl
  | succ n ih => rw [List.replicate_succ, List.replicate_succ, List.flatten_cons, ih]; rfl
theorem cps_app (a b : Str) : (a ++ b).cps.toList = a.cps.toList ++ b.cps.toList := TL.tl_append a b
theorem Tg.ne {ws : List Str} {x : Str} (h : Tg ws x) (hw : WoL ws) : ws ≠ [] → x.cps.toList ≠ [] := by
  have k : ∀ wd : Str, Wo wd → wd.cps.toList ≠ [] := fun wd h e => by
    have h1 := h.len.1
    have h2 : wd.cps.toList.length = wd.length := Array.length_toList
    rw [e] at h2
    rw [List.length_nil] at h2
    omega
  cases h with
  | nil => exact fun h => absurd rfl h
  | one => exact fun _ => k _ (hw _ List.mem_cons_self)
  | snoc h n g c =>
    intro _
    rw [cps_app, cps_app]
    have := k _ (hw _ (List.mem_append_right _ List.mem_cons_self))
    simp [this]
theorem okq_blank (n : Nat) : Okq (timesS " " n) := by
  unfold Okq
  rw [blanks_cps]
  exact List.all_eq_true.mpr fun c hc => by rw [List.eq_of_mem_replicate hc]; decide
theorem Okq.app {a b : Str} (ha : Okq a) (hb : Okq b) : Okq (a ++ b) := by
  unfold Okq at *
  rw [cps_app, List.all_append, ha, hb]; rfl
theorem Tg.okx {ws : List Str} {x : Str} (h : Tg ws x) : WoL ws → Okq x := by
  induction h with
  | nil => exact fun _ => (by decide +kernel : ("" : Str).cps.toList.all Gx.okq = true)
  | one => exact fun h => (h _ List.mem_cons_self).okq
  | snoc _ _ _ _ ih => exact fun h => ((ih fun x hx => h x (List.mem_append_left _ hx)).app (okq_blank _)).app (h _ (List.mem_append_right _ List.mem_cons_self)).okq
theorem Okq.sub {x : Str} {l : List Nat} (h : Okq x) (hs : ∀ c ∈ l, c ∈ x.cps.toList) : Okq (SX.S l) := List.all_eq_true.mpr fun c hc => List.all_eq_true.mp h c (hs c hc)
end Gx
namespace Gx
open PySem PySem.Spec PyProof.Rows L2 Tk Tr
theorem cut_ok {x : Str} (h : Okq x) (lo hi : Option Int) : Okq (cutS x lo hi) := by
  unfold Okq at *
  refine List.all_eq_true.mpr fun c hc => List.all_eq_true.mp h c ?_
  unfold cutS at hc
  exact List.mem_of_mem_drop (List.mem_of_mem_take hc)
theorem joinL_all {p : Nat → Bool} {S : List Nat} (hS : S.all p = true) : ∀ ls : List (List Nat), (∀ l ∈ ls, l.all p = true) → (TL.joinL S ls).all p = true
  | [], _ => rfl
  | [l], h => by
    have := h l List.mem_cons_self
    show l.all p = true
    exact this
  | l :: m :: r, h => by
    show (l ++ (S ++ TL.joinL S (m :: r))).all p = true
    rw [List.all_append, List.all_append, h l List.mem_cons_self, hS, joinL_all hS (m :: r) fun z hz => h z (List.mem_cons_of_mem _ hz)]; rfl
theorem join_ok {y : Str} {ys : List Str} (hy : Okq y) (h : ∀ z ∈ ys, Okq z) : Okq (Txt.join y ys) := by
  unfold Okq at *
  rw [TL.join_eq]
  show (TL.tl _).all okq = true
  rw [TL.tl_join]
  refine joinL_all hy _ fun l hl => ?_
  obtain ⟨z, hz, rfl⟩ := List.mem_map.mp hl
  exact h z hz
end Gx

set_option maxHeartbeats 4000000
/-! Tt: a row without stops, written again from its tree. -/
namespace Tr
open PySem PySem.Spec PyProof.Rows L2 Gx Tk
/-- parts' texts, parted by commas -/
def cj (ls : List (List Str)) : List Str := ls.foldl (fun acc p => (acc ++ (if acc = [] then [] else ([","] : List Str))) ++ p) []
mutual
inductive Tx (ts : List Tkn) : PyData → List Str → Prop
  | lone {n : Nat} {t : Tkn} : ts[n]? = some t → Tx ts (.tuple [.str "lone", dN n]) [t.2.1]
  | name {n : Nat} {t : Tkn} : ts[n]? = some t → Tx ts (.tuple [.str "name", dN n]) [t.2.1]
  | op {n : Nat} {t : Tkn} {a b : PyData} {xs ys : List Str} : ts[n]? = some t → Tx ts a xs → Tx ts b ys → Tx ts (.tuple [.str "op", dN n, a, b]) ((xs ++ [t.2.1]) ++ ys)
  | rd {n : Nat} {a : PyData} {xs : List Str} : Tx ts a xs → Tx ts (.tuple [.str "round", dN n, a]) ((([("(" : Str)] : List Str) ++ xs) ++ ([")"] : List Str))
  | sq {n : Nat} {ds : List PyData} {ls : List (List Str)} : TxA ts ds ls → Tx ts (.tuple [.str "list", dN n, .tuple ds]) ((([("[" : Str)] : List Str) ++ cj ls) ++ (["]"] : List Str))
  | call {n : Nat} {t : Tkn} {ds : List PyData} {ls : List (List Str)} : ts[n]? = some t → TxA ts ds ls → Tx ts (.tuple [.str "call", dN n, .tuple ds]) (([t.2.1, "("] ++ cj ls) ++ ([")"] : List Str))
  | iff {n : Nat} {a b c : PyData} {xs ys zs : List Str} : Tx ts a xs → Tx ts b ys → Tx ts c zs → Tx ts (.tuple [.str "if", dN n, a, b, c]) ((((((["if"] : List Str) ++ xs) ++ (["then"] : List Str)) ++ ys) ++ (["else"] : List Str)) ++ zs)
inductive TxA (ts : List Tkn) : List PyData → List (List Str) → Prop
  | nil : TxA ts [] []
  | cons {d : PyData} {ds : List PyData} {xs : List Str} {ls : List (List Str)} : Tx ts d xs → TxA ts ds ls → TxA ts (d :: ds) (xs :: ls)
end
theorem TxA.snoc {ts : List Tkn} : ∀ {ds : List PyData} {ls : List (List Str)} {d : PyData} {xs : List Str}, TxA ts ds ls → Tx ts d xs → TxA ts (ds ++ [d]) (ls ++ [xs])
  | _, _, _, _, .nil, h => .cons h .nil
  | _, _, _, _, .cons a b, h => .cons a (TxA.snoc b h)
theorem cj_snoc (ls : List (List Str)) (xs : List Str) : cj (ls ++ [xs]) = (cj ls ++ (if cj ls = [] then [] else ([","] : List Str))) ++ xs := by
  unfold cj
  rw [List.foldl_append]; rfl
theorem cj_one (xs : List Str) : cj [xs] = xs := by
  show (([] : List Str) ++ (if ([] : List Str) = [] then [] else ([","] : List Str))) ++ xs = xs
  rw [if_pos rfl]; rfl
theorem Tx.ne {ts : List Tkn} {d : PyData} {xs : List Str} (h : Tx ts d xs) : xs ≠ [] := by
  cases h <;> simp
theorem TxA.last {ts : List Tkn} : ∀ {ls : List (List Str)} {ds : List PyData} {x : List Str}, TxA ts ds (ls ++ [x]) → ∃ d, Tx ts d x
  | [], _, _, .cons a _ => ⟨_, a⟩
  | _ :: _, _, _, .cons _ b => TxA.last b
theorem TxA.cj_ne {ts : List Tkn} {ds : List PyData} {ls : List (List Str)} (h : TxA ts ds ls) (hn : ls ≠ []) : cj ls ≠ [] := by
  obtain ⟨l, x, rfl⟩ : ∃ l x, ls = l ++ [x] := ⟨ls.dropLast, ls.getLast hn, (List.dropLast_concat_getLast hn).symm⟩
  rw [cj_snoc]
  obtain ⟨d, hd⟩ := h.last
  have := hd.ne
  simp [this]
def txt (ts : List Tkn) : List Str := ts.map (·.2.1)
def Seg (ts : List Tkn) (a b : Nat) (xs : List Str) : Prop := (txt ts).take a ++ xs = (txt ts).take b
theorem Seg.app {ts : List Tkn} {a b c : Nat} {xs ys : List Str} (h : Seg ts a b xs) (h' : Seg ts b c ys) : Seg ts a c (xs ++ ys) := by
  unfold Seg at *
  rw [← List.append_assoc, h, h']
theorem Seg.nil {ts : List Tkn} {a : Nat} : Seg ts a a [] := List.append_nil _
theorem Seg.one {ts : List Tkn} {n : Nat} {t : Tkn} (h : ts[n]? = some t) : Seg ts n (n + 1) [t.2.1] := by
  unfold Seg txt
  rw [List.take_add_one, List.getElem?_map, h]; rfl
theorem text_get {ts : List Tkn} {s : RS} {e : Str} (h : textAt ts s = e) (he : e ≠ "") : ∃ t, ts[s.at_]? = some t ∧ t.2.1 = e := by
  unfold textAt at h
  cases g : ts[s.at_]? with
  | none => rw [g] at h; exact absurd h.symm he
  | some t => rw [g] at h; exact ⟨t, rfl, h⟩
theorem Seg.word {ts : List Tkn} {s : RS} {e : Str} (h : textAt ts s = e) (he : e ≠ "") : Seg ts s.at_ (s.at_ + 1) [e] := by
  obtain ⟨t, h1, h2⟩ := text_get h he
  have := Seg.one h1
  rw [h2] at this; exact this
theorem sign_none {ts : List Tkn} {e : Str} {s : RS} (h : (sign ts e s).stops = []) : s.stops = [] ∧ textAt ts s = e ∧ (sign ts e s).at_ = s.at_ + 1 := by
  unfold sign at h ⊢
  by_cases q : textAt ts s = e
  · rw [if_pos q] at h ⊢; exact ⟨h, q, rfl⟩
  · rw [if_neg q] at h
    exact absurd h (by show s.stops ++ _ ≠ []; simp)
def TxP (ts : List Tkn) : Md → RS → List PyData → RS → Prop
  | .single, s, r, s1 => ∃ d xs, r = [d] ∧ Tx ts d xs ∧ Seg ts s.at_ s1.at_ xs
  | .part, s, r, s1 => ∃ d xs, r = [d] ∧ Tx ts d xs ∧ Seg ts s.at_ s1.at_ xs
  | .ops d0, s, r, s1 => ∀ a xs0, Tx ts d0 xs0 → Seg ts a s.at_ xs0 → ∃ d xs, r = [d] ∧ Tx ts d xs ∧ Seg ts a s1.at_ xs
  | .parts e, s, r, s1 => ∃ ls, TxA ts r ls ∧ Seg ts s.at_ s1.at_ (cj ls ++ [e])
  | .more ds, s, r, s1 => ∀ a ls, TxA ts ds ls → ls ≠ [] → Seg ts a s.at_ (cj ls) → ∃ ls', TxA ts r ls' ∧ ls' ≠ [] ∧ Seg ts a s1.at_ (cj ls')
def MdN : Md → Prop
  | .parts e => e ≠ ""
  | _ => True
theorem kd_get {ts : List Tkn} {s : RS} (h : kd ts s ≠ .hole) : ∃ t, ts[s.at_]? = some t := ⟨_, List.getElem?_eq_getElem (kd_lt h)⟩
theorem kd_sq {ts : List Tkn} {s : RS} (h : kd ts s = .sq) : textAt ts s = "[" := by
  unfold kd at h
  repeat' split at h
  all_goals first | assumption | cases h
theorem kd_rd {ts : List Tkn} {s : RS} (h : kd ts s = .rd) : textAt ts s = "(" := by
  unfold kd at h
  repeat' split at h
  all_goals first | assumption | cases h
theorem kd_iff {ts : List Tkn} {s : RS} (h : kd ts s = .iff) : textAt ts s = "if" := by
  unfold kd at h
  repeat' split at h
  all_goals first | assumption | cases h
theorem Rd.tx {ts : List Tkn} {m : Md} {s : RS} {r : List PyData} {s1 : RS} (h : Rd ts m s r s1) : MdN m → s1.stops = [] → s.stops = [] ∧ TxP ts m s r s1 := by
  have e1 : ("(" : Str) ≠ "" := by decide +kernel
  have e2 : (")" : Str) ≠ "" := by decide +kernel
  have e3 : ("]" : Str) ≠ "" := by decide +kernel
  have e4 : ("," : Str) ≠ "" := by decide +kernel
  have e5 : ("then" : Str) ≠ "" := by decide +kernel
  have e6 : ("else" : Str) ≠ "" := by decide +kernel
  have e7 : ("[" : Str) ≠ "" := by decide +kernel
  have e8 : ("if" : Str) ≠ "" := by decide +kernel
  induction h with
  | @lone s k =>
    intro _ h
    obtain ⟨t, ht⟩ := kd_get (ts := ts) (s := s) (by rw [k]; decide)
    exact ⟨h, _, _, rfl, .lone ht, .one ht⟩
  | @name s k _ =>
    intro _ h
    obtain ⟨t, ht⟩ := kd_get (ts := ts) (s := s) (by rw [k]; decide)
    exact ⟨h, _, _, rfl, .name ht, .one ht⟩
  | @call s ds s1 k q _ ih =>
    intro _ h
    obtain ⟨t, ht⟩ := kd_get (ts := ts) (s := s) (by rw [k]; decide)
    obtain ⟨h1, ls, hl, hs⟩ := ih e2 h
    refine ⟨h1, _, _, rfl, .call ht hl, ?_⟩
    have := ((Seg.one ht).app (Seg.word q e1)).app hs
    rw [← List.append_assoc] at this
    exact this
  | @sq s ds s1 k _ ih =>
    intro _ h
    obtain ⟨h1, ls, hl, hs⟩ := ih e3 h
    refine ⟨h1, _, _, rfl, .sq hl, ?_⟩
    have := (Seg.word (kd_sq k) e7).app hs
    rw [← List.append_assoc] at this
    exact this
  | @rd s d s1 k _ ih =>
    intro _ h
    obtain ⟨g1, g2, g3⟩ := sign_none h
    obtain ⟨h1, d', xs, e, tx, hs⟩ := ih trivial g1
    cases e
    refine ⟨h1, _, _, rfl, .rd tx, ?_⟩
    rw [g3]
    exact ((Seg.word (kd_rd k) e1).app hs).app (Seg.word g2 e2)
  | @iff s a b c s1 s2 s3 k _ _ _ i1 i2 i3 =>
    intro _ h
    obtain ⟨h3, d3, zs, e, tz, hz⟩ := i3 trivial h
    cases e
    obtain ⟨g1, g2, g3⟩ := sign_none h3
    obtain ⟨h2, d2, ys, e, ty, hy⟩ := i2 trivial g1
    cases e
    obtain ⟨f1, f2, f3⟩ := sign_none h2
    obtain ⟨h1, d1, xs, e, tx, hx⟩ := i1 trivial f1
    cases e
    rw [g3] at hz
    rw [f3] at hy
    refine ⟨h1, _, _, rfl, .iff tx ty tz, ?_⟩
    exact (((((Seg.word (kd_iff k) e8).app hx).app (Seg.word f2 e5)).app hy).app (Seg.word g2 e6)).app hz
  | hole _ => intro _ h; exact absurd h (by show _ ++ _ ≠ []; simp)
  | part _ _ i1 i2 =>
    intro _ h
    obtain ⟨h2, k⟩ := i2 trivial h
    obtain ⟨h1, d, xs, e, tx, hs⟩ := i1 trivial h2
    cases e
    exact ⟨h1, k _ _ tx hs⟩
  | opsEnd _ => intro _ h; exact ⟨h, fun a xs tx hs => ⟨_, _, rfl, tx, hs⟩⟩
  | @opsMore s d d2 s1 d' s2 t _ _ i1 i2 =>
    intro _ h
    obtain ⟨h2, k⟩ := i2 trivial h
    obtain ⟨h1, d3, ys, e, ty, hy⟩ := i1 trivial h2
    cases e
    obtain ⟨tk, ht⟩ : ∃ t, ts[s.at_]? = some t := ⟨_, List.getElem?_eq_getElem (op_lt' t)⟩
    exact ⟨h1, fun a xs tx hs => k a _ (.op ht tx ty) ((hs.app (.one ht)).app hy)⟩
  | @parts s e d s1 ds s2 _ _ i1 i2 =>
    intro he h
    obtain ⟨g1, g2, g3⟩ := sign_none h
    obtain ⟨h2, k⟩ := i2 trivial g1
    obtain ⟨h1, d1, xs, e, tx, hx⟩ := i1 trivial h2
    cases e
    obtain ⟨ls, hl, _, hs⟩ := k s.at_ [xs] (.cons tx .nil) (by simp) (by rw [cj_one]; exact hx)
    refine ⟨h1, ls, hl, ?_⟩
    rw [g3]
    exact hs.app (Seg.word g2 he)
  | moreEnd _ => intro _ h; exact ⟨h, fun a ls hl hn hs => ⟨ls, hl, hn, hs⟩⟩
  | @moreMore s ds d s1 ds' s2 t _ _ i1 i2 =>
    intro _ h
    obtain ⟨h2, k⟩ := i2 trivial h
    obtain ⟨h1, d1, xs, e, tx, hx⟩ := i1 trivial h2
    cases e
    refine ⟨h1, fun a ls hl hn hs => k a (ls ++ [xs]) (hl.snoc tx) (by simp) ?_⟩
    rw [cj_snoc, if_neg (hl.cj_ne hn)]
    exact (hs.app (Seg.word t e4)).app hx
/-! whole rows -/
inductive PmT (ts : List Tkn) : List PyData → List (List Str) → Prop
  | nil : PmT ts [] []
  | snoc {ds : List PyData} {ls : List (List Str)} {i j : Nat} {t u : Tkn} : PmT ts ds ls → ts[i]? = some t → ts[j]? = some u → PmT ts (ds ++ [.tuple [dN i, dN j]]) (ls ++ [[t.2.1, u.2.1]])
inductive RowT (ts : List Tkn) : PyData → List Str → Prop
  | bare : RowT ts (.tuple [.str "bare"]) []
  | take {n : Nat} {t : Tkn} : ts[n]? = some t → RowT ts (.tuple [.str "take", dN n]) ["take", t.2.1]
  | lets {n : Nat} {t : Tkn} {d : PyData} {xs : List Str} : ts[n]? = some t → Tx ts d xs → RowT ts (.tuple [.str "let", dN n, d]) ((["let", t.2.1, "="] : List Str) ++ xs)
  | defs {n : Nat} {t : Tkn} {d : PyData} {xs : List Str} {ds : List PyData} {ls : List (List Str)} : ts[n]? = some t → PmT ts ds ls → Tx ts d xs → RowT ts (.tuple [.str "def", dN n, .tuple ds, d]) ((((["def", t.2.1, "("] : List Str) ++ cj ls) ++ ([")", "="] : List Str)) ++ xs)
theorem want_none {b : Bool} {wd : Str} {s : RS} (h : (wantS b wd s).stops = []) : s.stops = [] ∧ wantD b s = dN s.at_ ∧ (wantS b wd s).at_ = s.at_ + 1 ∧ b = true := by
  cases b with
  | true => exact ⟨h, rfl, rfl, rfl⟩
  | false => exact absurd h (by show _ ++ _ ≠ []; simp)
theorem name_none {ts : List Tkn} {s : RS} (h : (nameS ts s).stops = []) : s.stops = [] ∧ wantD (isN ts s) s = dN s.at_ ∧ (nameS ts s).at_ = s.at_ + 1 ∧ ∃ t, ts[s.at_]? = some t := by
  obtain ⟨h1, h2, h3, h4⟩ := want_none h
  exact ⟨h1, h2, h3, _, List.getElem?_eq_getElem (sort_lt (by rw [of_decide_eq_true h4]; decide +kernel))⟩
theorem kind_none {ts : List Tkn} {s : RS} (h : (kindS ts s).stops = []) : s.stops = [] ∧ wantD (isK ts s) s = dN s.at_ ∧ (kindS ts s).at_ = s.at_ + 1 ∧ ∃ t, ts[s.at_]? = some t := by
  obtain ⟨h1, h2, h3, h4⟩ := want_none h
  exact ⟨h1, h2, h3, _, List.getElem?_eq_getElem (text_lt fun e => by
    have h := of_decide_eq_true h4
    rw [e] at h
    exact absurd h (by decide +kernel))⟩
theorem param_none {ts : List Tkn} {s : RS} (h : (paramS ts s).stops = []) : s.stops = [] ∧ ∃ t u, ts[s.at_]? = some t ∧ ts[s.at_ + 1]? = some u ∧ paramD ts s = .tuple [dN s.at_, dN (s.at_ + 1)] ∧ (paramS ts s).at_ = s.at_ + 2 := by
  obtain ⟨g1, g2, g3, u, hu⟩ := kind_none h
  obtain ⟨h1, h2, h3, t, ht⟩ := name_none g1
  rw [h3] at hu g2 g3
  refine ⟨h1, t, u, ht, hu, ?_, g3⟩
  unfold paramD
  rw [h2, g2]
theorem PmT.cj_ne {ts : List Tkn} {ds : List PyData} {ls : List (List Str)} (h : PmT ts ds ls) (hn : ls ≠ []) : cj ls ≠ [] := by
  cases h with
  | nil => exact absurd rfl hn
  | snoc _ _ _ => rw [cj_snoc]; simp
theorem Pm.tx {ts : List Tkn} {ds : List PyData} {s : RS} {r : List PyData} {s1 : RS} (h : Pm ts ds s r s1) : s1.stops = [] → s.stops = [] ∧ ∀ a ls, PmT ts ds ls → ls ≠ [] → Seg ts a s.at_ (cj ls) → ∃ ls', PmT ts r ls' ∧ Seg ts a s1.at_ (cj ls') := by
  induction h with
  | done _ => exact fun h => ⟨h, fun a ls hl _ hs => ⟨ls, hl, hs⟩⟩
  | @more ds s ds' s' q _ ih =>
    intro h
    obtain ⟨h2, k⟩ := ih h
    obtain ⟨h1, t, u, ht, hu, e, ea⟩ := param_none h2
    refine ⟨h1, fun a ls hl hn hs => k a (ls ++ [[t.2.1, u.2.1]]) (by rw [e]; exact hl.snoc ht hu) (by simp) ?_⟩
    rw [cj_snoc, if_neg (hl.cj_ne hn), ea]
    exact (hs.app (Seg.word q (by decide +kernel))).app ((Seg.one ht).app (Seg.one hu))
theorem Whole.tx {ts : List Tkn} {d : PyData} {ss : List (Str × Nat × Str)} (h : Whole ts d ss) : ss = [] → RowT ts d (txt ts) := by
  intro e
  cases h with
  | bare h => subst h; exact .bare
  | odd _ _ => cases e
  | @row _ s w r =>
    have h0 : s.stops = [] := by
      split at e
      · exact absurd e (by show _ ++ _ ≠ []; simp)
      · exact e
    have hend : (txt ts).take s.at_ = txt ts := by
      split at e
      · exact absurd e (by show _ ++ _ ≠ []; simp)
      · rename_i hh
        rw [List.take_of_length_le]
        unfold txt
        rw [List.length_map]; omega
    have w0 : ∀ x ∈ rowW, x ≠ "" := by
      have h : rowW.all (fun x => decide (x ≠ "")) = true := by decide +kernel
      exact fun x hx => of_decide_eq_true (List.all_eq_true.mp h x hx)
    have sw : Seg ts 0 1 [word0 ts] := Seg.word (s := ⟨0, []⟩) rfl (w0 _ w)
    have fin : ∀ {xs}, Seg ts 0 s.at_ xs → xs = txt ts := fun {xs} h => by
      unfold Seg at h
      rw [List.take_zero, List.nil_append, hend] at h
      exact h
    generalize hw : word0 ts = wd at r sw w
    cases r with
    | take =>
      obtain ⟨h1, h2, h3, t, ht⟩ := name_none h0
      have := fin (by rw [h3]; exact sw.app (Seg.one ht))
      rw [h2, ← this]
      exact .take ht
    | lets x =>
      rename_i d1
      obtain ⟨h1, d', xs, ed, tx, hs⟩ := x.tx trivial h0
      cases ed
      obtain ⟨g1, g2, g3⟩ := sign_none h1
      obtain ⟨f1, f2, f3, t, ht⟩ := name_none g1
      have g2' := Seg.word g2 (by decide +kernel)
      rw [f3] at g3 g2'
      rw [g3] at hs
      have := fin (((sw.app (Seg.one ht)).app g2').app hs)
      rw [f2, ← this]
      exact .lets ht tx
    | defs p x =>
      rename_i ds s3 d1
      obtain ⟨h1, d', xs, ed, tx, hs⟩ := x.tx trivial h0
      cases ed
      obtain ⟨g1, g2, g3⟩ := sign_none h1
      obtain ⟨k1, k2, k3⟩ := sign_none g1
      obtain ⟨p1, kp⟩ := p.tx k1
      obtain ⟨m1, tp, up, htp, hup, ep, eap⟩ := param_none p1
      obtain ⟨n1, n2, n3⟩ := sign_none m1
      obtain ⟨f1, f2, f3, t, ht⟩ := name_none n1
      obtain ⟨ls, hl, hls⟩ := kp (sign ts "(" (nameS ts (step ⟨0, []⟩))).at_ [[tp.2.1, up.2.1]] (by rw [ep]; exact PmT.nil.snoc htp hup) (by simp) (by
        rw [cj_one, eap]
        exact (Seg.one htp).app (Seg.one hup))
      have n2' := Seg.word n2 (by decide +kernel)
      have k2' := Seg.word k2 (by decide +kernel)
      have g2' := Seg.word g2 (by decide +kernel)
      rw [n3, f3] at hls
      rw [f3] at n2'
      rw [k3] at g2' g3
      rw [g3] at hs
      have := fin (((((sw.app (Seg.one ht)).app n2').app hls).app (k2'.app g2')).app hs)
      rw [f2, ← this]
      exact .defs ht hl tx
end Tr

set_option maxHeartbeats 4000000
/-! Lc: comprehensions with tests over lists, over enumerate. -/
namespace Gx
open PySem PySem.Spec PyProof.Rows L2
def kept {α : Type} (f : Nat → Option α) (n : Nat) : List α := (List.range n).filterMap f
theorem kept_none {α : Type} {f : Nat → Option α} {n : Nat} (h : f n = none) : kept f (n + 1) = kept f n := by
  unfold kept; rw [List.range_succ, List.filterMap_append, List.filterMap_cons, h]; simp
theorem kept_some {α : Type} {f : Nat → Option α} {n : Nat} {y : α} (h : f n = some y) : kept f (n + 1) = kept f n ++ [y] := by
  unfold kept; rw [List.range_succ, List.filterMap_append, List.filterMap_cons, h]; simp
theorem kept_len {α : Type} (f : Nat → Option α) (n : Nat) : (kept f n).length ≤ n := by
  unfold kept
  have := List.length_filterMap_le f (List.range n)
  rwa [List.length_range] at this
theorem lc_pre {K : PySem.W.Frag} {g : TG} {tt : TT} {te te0 : TE} {vs : List Nat} {σ : L2.St} {H : Hp} {Q : VK} (Pr : Addr → Hp → Prop) (h0 : ∀ R : VK, (∀ u H1, Pr u H1 → R (.ref u) H1) → te0 σ H R)
    (k : ∀ u H1, Pr u H1 → tLc (iList K (fun _ H R => R (.ref u) H)) g tt te vs σ H1 Q) : tLc (iList K te0) g tt te vs σ H Q := h0 _ fun u H1 hp => k u H1 hp
theorem lc_preE {K : PySem.W.Frag} {g : TG} {tt : TT} {te : TE} {ta : TA} {vs : List Nat} {σ : L2.St} {H : Hp} {Q : VK} (Pr : Addr → Hp → Prop) (h0 : ∀ R : List V → Hp → Prop, (∀ u H1, Pr u H1 → R [.ref u] H1) → ta σ H R)
    (k : ∀ u H1, Pr u H1 → tLc (iEnum K (fun _ H R => R [.ref u] H)) g tt te vs σ H1 Q) : tLc (iEnum K ta) g tt te vs σ H Q := h0 _ fun u H1 hp => k u H1 hp
/-- [e for y in list if t] -/
theorem lc_gen {K : PySem.W.Frag} {g : TG} {tt : TT} {te : TE} {vs : List Nat} {σ : L2.St} {H : Hp} {Q : VK} {u : Addr} {xs : List V} (f : Nat → Option V) (σt : Nat → L2.St) (hl : SqL K H u xs) (hx : xs.length ≤ 1000000)
    (hg : ∀ (i : Nat) (v : V) (H' : Hp) (Qn : L2.St → Hp → Prop), xs[i]? = some v → Same H H' → Qn (σt i) H' → g v (wipe σ vs) H' Qn) (hw : ∀ i, wipe (σt i) vs = wipe σ vs)
    (ht : ∀ (i : Nat) (v : V) (H' : Hp) (Qb : Bool → Hp → Prop), xs[i]? = some v → Same H H' → (∀ H'', Same H' H'' → Qb (f i).isSome H'') → tt (σt i) H' Qb)
    (hs : ∀ (i : Nat) (v y : V) (H' : Hp) (Qv : VK), xs[i]? = some v → f i = some y → Same H H' → (∀ H'', Same H' H'' → Qv y H'') → te (σt i) H' Qv)
    (hd : ∀ (D : Addr) (H' : Hp), H D = none → Same H H' → H' D = some (.lst (kept f xs.length)) → Q (.ref D) H') : tLc (iList K (fun _ H R => R (.ref u) H)) g tt te vs σ H Q := by
  refine ⟨u, rfl, ⟨_, hl⟩, fun D hD => ?_⟩
  have hsl : (1000000 : Nat) < sizeLine := by decide
  refine ⟨fun i m H2 => m = xs.length - i ∧ i ≤ xs.length ∧ Same H H2 ∧ H2 D = some (.lst (kept f i)), ⟨_, rfl, Nat.zero_le _, same_new hD, upd_same⟩, fun i m H2 hP => ?_⟩
  obtain ⟨rfl, hi, s, eD⟩ := hP
  have hl2 := s.seq hl
  by_cases he : i = xs.length
  · subst he
    exact .inl ⟨⟨_, hl2, Nat.le_refl _⟩, hd D H2 hD s eD⟩
  · have hi2 : i < xs.length := by omega
    obtain ⟨v, hv⟩ : ∃ v, xs[i]? = some v := ⟨_, List.getElem?_eq_getElem hi2⟩
    refine .inr ⟨⟨_, _, hl2, hv⟩, fun H' => Same H H' ∧ H' D = some (.lst (kept f (i + 1))), fun H' h => ⟨_, by omega, rfl, by omega, h⟩, fun x H' hy => ?_⟩
    obtain ⟨rfl, hy⟩ := hy
    have := hy _ hl2
    rw [hv] at this; cases this
    refine hg i v _ _ hv s ⟨hw i, ?_⟩
    refine ht i v _ _ hv s fun H3 s3 => ?_
    have eD3 := s3 _ _ eD
    cases hf : f i with
    | none =>
      rw [if_neg (by simp)]
      exact ⟨s.trans s3, by rw [kept_none hf]; exact eD3⟩
    | some y =>
      rw [if_pos (by simp)]
      refine hs i v y _ _ hv hf (s.trans s3) fun H4 s4 => ⟨_, s4 _ _ eD3, by have := kept_len f i; omega, same_at ((s.trans s3).trans s4) hD, ?_⟩
      rw [upd_same, kept_some hf]
/-- [e for k, y in enumerate(list) if t] -/
theorem lc_genE {K : PySem.W.Frag} {g : TG} {tt : TT} {te : TE} {vs : List Nat} {σ : L2.St} {H : Hp} {Q : VK} {u : Addr} {xs : List V} (f : Nat → Option V) (σt : Nat → L2.St) (hl : SqL K H u xs) (hx : xs.length ≤ 1000000)
    (hg : ∀ (i : Nat) (v : V) (T : Addr) (H' : Hp) (Qn : L2.St → Hp → Prop), xs[i]? = some v → Same H H' → H' T = some (.tup [.int (i : Int), v]) → Qn (σt i) H' → g (.ref T) (wipe σ vs) H' Qn) (hw : ∀ i, wipe (σt i) vs = wipe σ vs)
    (ht : ∀ (i : Nat) (v : V) (H' : Hp) (Qb : Bool → Hp → Prop), xs[i]? = some v → Same H H' → (∀ H'', Same H' H'' → Qb (f i).isSome H'') → tt (σt i) H' Qb)
    (hs : ∀ (i : Nat) (v y : V) (H' : Hp) (Qv : VK), xs[i]? = some v → f i = some y → Same H H' → (∀ H'', Same H' H'' → Qv y H'') → te (σt i) H' Qv)
    (hd : ∀ (D : Addr) (H' : Hp), H D = none → Same H H' → H' D = some (.lst (kept f xs.length)) → Q (.ref D) H') : tLc (iEnum K (fun _ H R => R [.ref u] H)) g tt te vs σ H Q := by
  refine ⟨u, _, rfl, hl, fun D hD => ?_⟩
  have hsl : (1000000 : Nat) < sizeLine := by decide
  refine ⟨fun i m H2 => m = xs.length - i ∧ i ≤ xs.length ∧ Same H H2 ∧ H2 D = some (.lst (kept f i)), ⟨_, rfl, Nat.zero_le _, same_new hD, upd_same⟩, fun i m H2 hP => ?_⟩
  obtain ⟨rfl, hi, s, eD⟩ := hP
  have hl2 := s.seq hl
  by_cases he : i = xs.length
  · subst he
    exact .inl ⟨⟨_, hl2, Nat.le_refl _⟩, hd D H2 hD s eD⟩
  · have hi2 : i < xs.length := by omega
    obtain ⟨v, hv⟩ : ∃ v, xs[i]? = some v := ⟨_, List.getElem?_eq_getElem hi2⟩
    refine .inr ⟨⟨_, _, hl2, hv⟩, fun H' => Same H H' ∧ H' D = some (.lst (kept f (i + 1))), fun H' h => ⟨_, by omega, rfl, by omega, h⟩, fun x H' hy => ?_⟩
    obtain ⟨T, x', rfl, hT, rfl, hy⟩ := hy
    have := hy _ hl2
    rw [hv] at this; cases this
    have s2 := s.trans (same_new (o := .tup [.int (i : Int), v]) hT)
    have eD2 := (same_new (o := .tup [.int (i : Int), v]) hT) _ _ eD
    refine hg i v T _ _ hv s2 upd_same ⟨hw i, ?_⟩
    refine ht i v _ _ hv s2 fun H3 s3 => ?_
    have eD3 := s3 _ _ eD2
    cases hf : f i with
    | none =>
      rw [if_neg (by simp)]
      exact ⟨s2.trans s3, by rw [kept_none hf]; exact eD3⟩
    | some y =>
      rw [if_pos (by simp)]
      refine hs i v y _ _ hv hf (s2.trans s3) fun H4 s4 => ⟨_, s4 _ _ eD3, by have := kept_len f i; omega, same_at ((s2.trans s3).trans s4) hD, ?_⟩
      rw [upd_same, kept_some hf]
theorem op_in_seqK {X : Cx} {K : PySem.W.Frag} (hK : X.K = K) : OpR X (compareOp .In) (rIn K false) := hK ▸ op_in_seq
theorem op_notIn_seqK {X : Cx} {K : PySem.W.Frag} (hK : X.K = K) : OpR X (compareOp .NotIn) (rIn K true) := hK ▸ op_notIn_seq
/-- how many are kept -/
theorem kept_count {α β : Type} {f : Nat → Option β} {ts : List α} {p : α → Bool} (h : ∀ i t, ts[i]? = some t → (f i).isSome = p t) : ∀ n, n ≤ ts.length → (kept f n).length = ((ts.take n).filter p).length
  | 0, _ => by simp [kept]
  | n + 1, hn => by
    have hi : n < ts.length := by omega
    have e := h n ts[n] (List.getElem?_eq_getElem hi)
    have ih := kept_count h n (by omega)
    rw [List.take_add_one, List.getElem?_eq_getElem hi, List.filter_append, List.length_append]
    cases hf : f n with
    | none =>
      rw [hf] at e
      rw [kept_none hf, ih]
      simp only [Option.toList_some, List.filter_cons, ← e]
      simp
    | some y =>
      rw [hf] at e
      rw [kept_some hf, List.length_append, ih]
      simp only [Option.toList_some, List.filter_cons, ← e]
      simp
/-- what is kept of things that stand by a list's own -/
theorem kept_map {α β : Type} {f : Nat → Option β} {ts : List α} {p : α → Bool} {g : α → β} (h : ∀ i t, ts[i]? = some t → f i = if p t then some (g t) else none) : ∀ n, n ≤ ts.length → kept f n = ((ts.take n).filter p).map g
  | 0, _ => by simp [kept]
  | n + 1, hn => by
    have hi : n < ts.length := by omega
    have e := h n ts[n] (List.getElem?_eq_getElem hi)
    have ih := kept_map h n (by omega)
    rw [List.take_add_one, List.getElem?_eq_getElem hi, List.filter_append, List.map_append]
    cases hp : p ts[n] with
    | false =>
      rw [hp] at e
      rw [kept_none e, ih]
      simp only [Option.toList_some, List.filter_cons, hp]
      simp
    | true =>
      rw [hp] at e
      rw [kept_some e, ih]
      simp only [Option.toList_some, List.filter_cons, hp]
      simp
theorem kept_mem {β : Type} {f : Nat → Option β} {n : Nat} {y : β} (h : y ∈ kept f n) : ∃ i, i < n ∧ f i = some y := by
  obtain ⟨i, hi, e⟩ := List.mem_filterMap.mp h
  exact ⟨i, List.mem_range.mp hi, e⟩
end Gx

set_option maxHeartbeats 4000000
/-! Tl: expressions that tell lists of texts. -/
namespace Tr
open PySem PySem.Spec PyProof.Rows L2 Gx Tk
/-- tells a list of these texts -/
structure TlD (te : TE) (σ : L2.St) (H : Hp) (xs : List Str) : Prop where
  run : ∀ H1 Q, Same H H1 → (∀ p H2, Same H1 H2 → H2 p = some (.lst (xs.map V.str)) → Q (.ref p) H2) → te σ H1 Q
structure TsE (te : TE) (σ : L2.St) (H : Hp) (x : Str) : Prop where
  run : ∀ H1 Q, Same H H1 → (∀ H2, Same H1 H2 → Q (.str x) H2) → te σ H1 Q
structure TaS (ta : TA) (σ : L2.St) (H : Hp) (xs : List Str) : Prop where
  run : ∀ H1 Q, Same H H1 → (∀ H2, Same H1 H2 → Q (xs.map V.str) H2) → ta σ H1 Q
section
variable {σ : L2.St} {H : Hp} {te ta tb ti : TE} {t : TA} {K : PySem.W.Frag}
theorem TsE.c (x : Str) : TsE (tC (.str x)) σ H x := ⟨fun H1 Q s q => q H1 (Same.refl _)⟩
theorem TsE.tok {i j n : Nat} {own : Addr} {ts : List Tkn} {u : Tkn} (h0 : σ[i]? = some (some (.ref own))) (h1 : σ[j]? = some (some (.int (n : Int)))) (hl : TokL H own ts) (hu : ts[n]? = some u) : TsE (tOp (rIxT K) (tOp (rIxL K) (tVar i) (tVar j)) (tC (.int 1))) σ H u.2.1 := ⟨fun H1 Q s q => by
  obtain ⟨as, eas, hp⟩ := hl
  have hal := Tk.paired_len hp
  obtain ⟨a, ha⟩ : ∃ a, as[n]? = some a := ⟨_, List.getElem?_eq_getElem (by rw [hal]; exact (List.getElem?_eq_some_iff.mp hu).1)⟩
  obtain ⟨u', hu', hta⟩ := Tk.paired_get hp ha
  rw [hu] at hu'
  cases hu'
  refine ⟨_, h0, _, h1, own, _, _, _, rfl, rfl, SqL.of (s _ _ eas), atI_nat (j := n) (by rw [List.getElem?_map, ha]; rfl), ?_⟩
  exact ⟨a, _, _, _, rfl, rfl, SqT.of (s _ _ hta), atI_nat (j := 1) rfl, q H1 (Same.refl _)⟩⟩
/-- the same, the number by an item of a tuple -/
theorem TsE.tokX {i n : Nat} {own : Addr} {ts : List Tkn} {u : Tkn} (h0 : σ[i]? = some (some (.ref own))) (h1 : ∀ H1 Q, Same H H1 → Q (.int (n : Int)) H1 → ti σ H1 Q) (hl : TokL H own ts) (hu : ts[n]? = some u) : TsE (tOp (rIxT K) (tOp (rIxL K) (tVar i) ti) (tC (.int 1))) σ H u.2.1 := ⟨fun H1 Q s q => by
  obtain ⟨as, eas, hp⟩ := hl
  have hal := Tk.paired_len hp
  obtain ⟨a, ha⟩ : ∃ a, as[n]? = some a := ⟨_, List.getElem?_eq_getElem (by rw [hal]; exact (List.getElem?_eq_some_iff.mp hu).1)⟩
  obtain ⟨u', hu', hta⟩ := Tk.paired_get hp ha
  rw [hu] at hu'
  cases hu'
  refine ⟨_, h0, h1 _ _ s ⟨own, _, _, _, rfl, rfl, SqL.of (s _ _ eas), atI_nat (j := n) (by rw [List.getElem?_map, ha]; rfl), ?_⟩⟩
  exact ⟨a, _, _, _, rfl, rfl, SqT.of (s _ _ hta), atI_nat (j := 1) rfl, q H1 (Same.refl _)⟩⟩
theorem TaS.nil : TaS tNil σ H [] := ⟨fun H1 Q s q => q H1 (Same.refl _)⟩
theorem TaS.cons {x : Str} {xs : List Str} (h : TsE te σ H x) (h' : TaS t σ H xs) : TaS (tCons te t) σ H (x :: xs) := ⟨fun H1 Q s q => h.run H1 _ s fun H2 s2 => h'.run H2 _ (s.trans s2) fun H3 s3 => q H3 (s2.trans s3)⟩
theorem TlD.lst {xs : List Str} (h : TaS t σ H xs) (hl : xs.length ≤ 100000) : TlD (tLst t) σ H xs := ⟨fun H1 Q s q => h.run H1 _ s fun H2 s2 => by
  have hs : (1000000 : Nat) ≤ sizeLine := by decide
  exact ⟨by rw [List.length_map]; omega, fun p hp => q p _ (s2.trans (same_new hp)) upd_same⟩⟩
theorem TlD.var {i : Nat} {p : Addr} {xs : List Str} (h : σ[i]? = some (some (.ref p))) (e : H p = some (.lst (xs.map V.str))) : TlD (tVar i) σ H xs := ⟨fun H1 Q s q => ⟨_, h, q p H1 (Same.refl _) (s _ _ e)⟩⟩
theorem TlD.cat {xs ys : List Str} (ha : TlD ta σ H xs) (hb : TlD tb σ H ys) (hl : xs.length + ys.length ≤ 100000) : TlD (tOp rCat ta tb) σ H (xs ++ ys) := ⟨fun H1 Q s q => ha.run H1 _ s fun p H2 s2 e => hb.run H2 _ (s.trans s2) fun r H3 s3 e' => by
  have hs : (1000000 : Nat) ≤ sizeLine := by decide
  exact ⟨p, r, _, _, rfl, rfl, s3 _ _ e, e', by rw [List.length_map, List.length_map]; omega, fun z hz => q z _ ((s2.trans s3).trans (same_new hz)) (by rw [upd_same, List.map_append])⟩⟩
theorem TlD.ret {D : Ends} {xs : List Str} (h : TlD te σ H xs) (q : ∀ p H2, Same H H2 → H2 p = some (.lst (xs.map V.str)) → D.rt (.ref p) H2) : tRet te D σ H := h.run H _ (Same.refl _) q
theorem TlD.asg {i : Nat} {rest : TS} {D : Ends} {xs : List Str} (h : TlD te σ H xs) (q : ∀ p H2, Same H H2 → H2 p = some (.lst (xs.map V.str)) → rest D (σ.set i (some (.ref p))) H2) : tSeq (tAsg te (gName i)) rest D σ H := h.run H _ (Same.refl _) q
theorem TlD.asgN {i : Nat} {D : Ends} {xs : List Str} (h : TlD te σ H xs) (q : ∀ p H2, Same H H2 → H2 p = some (.lst (xs.map V.str)) → D.nx (σ.set i (some (.ref p))) H2) : tAsg te (gName i) D σ H := h.run H _ (Same.refl _) q
/-- [','] * int(found != []) -/
theorem TlD.sep {i : Nat} {p : Addr} {xs : List Str} {x : Str} (h : σ[i]? = some (some (.ref p))) (e : H p = some (.lst (xs.map V.str))) (hc : ∀ z ∈ xs, ∀ c ∈ z.cps.toList, c < 1114112) :
    TlD (tOp rRep (tLst (tCons (tC (.str x)) tNil)) (tCB (fun xs H Q => (∃ i, xs = [.int i] ∧ Q (.int i) H) ∨ ∃ k, xs = [.bl k] ∧ Q (.int (if k then 1 else 0)) H) (tCons (tOp (rNeD K) (tVar i) (tLst tNil)) tNil))) σ H (if xs = [] then [] else [x]) := ⟨fun H1 Q s q => by
  refine ⟨by show 1 ≤ sizeLine; decide, fun p1 hp1 => ?_⟩
  have s1 := same_new (o := .lst [.str x]) hp1
  have e1 : (upd H1 p1 (.lst [.str x])) p1 = some (.lst [.str x]) := upd_same
  have e2 := s1 _ _ (s _ _ e)
  generalize upd H1 p1 (.lst [.str x]) = H2 at s1 e1 e2 ⊢
  refine ⟨_, h, by show 0 ≤ sizeLine; decide, fun p3 hp3 => ?_⟩
  have s3 := same_new (o := .lst []) hp3
  have e3 : (upd H2 p3 (.lst [])) p3 = some (.lst []) := upd_same
  have e13 := s3 _ _ e1
  have e23 := s3 _ _ e2
  generalize upd H2 p3 (.lst []) = H3 at s3 e3 e13 e23 ⊢
  have ed : dTxts (xs.map fun z => z.cps.toList) = .list (xs.map .str) := by
    unfold dTxts
    rw [List.map_map]
    congr 1
  have et : txts (xs.map fun z => z.cps.toList) = xs.map V.str := by
    unfold txts
    rw [List.map_map]
    rfl
  have hsh := shaped_txts (ls := xs.map fun z => z.cps.toList) fun l hl c hcc => by
    obtain ⟨z, hz, rfl⟩ := List.mem_map.mp hl
    exact hc z hz c hcc
  have hdp : Dp K H3 (.ref p) (dTxts (xs.map fun z => z.cps.toList)) := dp_txts (by rw [et]; exact SqL.of e23)
  refine ⟨_, .list [], hdp, .lst (SqL.of e3) .nil, hsh, by decide +kernel, ?_⟩
  rw [ed]
  refine .inr ⟨_, rfl, ?_⟩
  have fin : ∀ (m : Nat) (ys : List Str), m ≤ 1 → (List.replicate m [V.str x]).flatten = ys.map V.str → (∀ pz H2', Same H1 H2' → H2' pz = some (.lst (ys.map V.str)) → Q (.ref pz) H2') → rRep (.ref p1) (.int (m : Int)) H3 Q := fun m ys hm ee qq =>
    ⟨p1, m, _, rfl, rfl, e13, by omega, by omega, by show 1 * _ ≤ sizeLine; rw [Int.toNat_natCast]; have : (1 : Nat) ≤ sizeLine := by decide
                                                     omega, fun pz hpz => qq pz _ ((s1.trans s3).trans (same_new hpz)) (by rw [upd_same, Int.toNat_natCast, ee])⟩
  cases xs with
  | nil => exact fin 0 [] (by decide) rfl q
  | cons y ys => exact fin 1 [x] (by decide) rfl q⟩
end
theorem inV_strs (x : Str) (ws : List Str) : inV (.str x) (ws.map V.str) = decide (x ∈ ws) := by
  unfold inV
  rw [List.any_map]
  induction ws with
  | nil => rfl
  | cons y ys ih =>
    rw [List.any_cons, ih]
    show ((y == x) || _) = _
    by_cases h : x = y
    · subst h; simp
    · have : (y == x) = false := beq_eq_false_iff_ne.mpr (Ne.symm h)
      rw [this, Bool.false_or]
      exact decide_eq_decide.mpr (by simp [h])
theorem in_strs {K : PySem.W.Frag} {H : Hp} {Q : VK} {p : Addr} {x : Str} {ws : List Str} (e : H p = some (.tup (ws.map V.str))) (q : Q (.bl (decide (x ∈ ws))) H) : rIn K false (.str x) (.ref p) H Q := by
  refine ⟨p, ws.map V.str, rfl, .inr (SqT.of e), rfl, List.all_eq_true.mpr fun v hv => ?_, ?_⟩
  · obtain ⟨y, _, rfl⟩ := List.mem_map.mp hv; rfl
  · rw [if_neg (by decide), inV_strs]; exact q
/-- signs that there are -/
def Wc (x : Str) : Prop := ∀ c ∈ x.cps.toList, c < 1114112
theorem wc_all {xs : List Str} (h : xs.all (fun x => x.cps.toList.all fun c => decide (c < 1114112)) = true) : ∀ x ∈ xs, Wc x := fun x hx c hc => of_decide_eq_true (List.all_eq_true.mp (List.all_eq_true.mp h x hx) c hc)
theorem wc_app {a b : List Str} (ha : ∀ x ∈ a, Wc x) (hb : ∀ x ∈ b, Wc x) : ∀ x ∈ a ++ b, Wc x := fun x hx => (List.mem_append.mp hx).elim (ha x) (hb x)
theorem wc_tok {ts : List Tkn} (h : ∀ t ∈ ts, Wc t.2.1) {n : Nat} {t : Tkn} (e : ts[n]? = some t) : ∀ x ∈ [t.2.1], Wc x := fun x hx => by rw [List.mem_singleton.mp hx]; exact h t (List.mem_of_getElem? e)
theorem wc_cj : ∀ (ls : List (List Str)) (acc : List Str), (∀ x ∈ acc, Wc x) → (∀ l ∈ ls, ∀ x ∈ l, Wc x) → ∀ x ∈ ls.foldl (fun acc p => (acc ++ (if acc = [] then [] else ([","] : List Str))) ++ p) acc, Wc x
  | [], _, h, _ => h
  | l :: ls, acc, h, hl => by
    rw [List.foldl_cons]
    refine wc_cj ls _ (wc_app (wc_app h ?_) (hl l List.mem_cons_self)) fun m hm => hl m (List.mem_cons_of_mem _ hm)
    split
    · exact fun _ h => absurd h List.not_mem_nil
    · exact wc_all (by decide +kernel)
mutual
theorem Tx.wc {ts : List Tkn} (h : ∀ t ∈ ts, Wc t.2.1) : ∀ {d : PyData} {xs : List Str}, Tx ts d xs → ∀ x ∈ xs, Wc x
  | _, _, .lone e => wc_tok h e
  | _, _, .name e => wc_tok h e
  | _, _, .op e a b => wc_app (wc_app (Tx.wc h a) (wc_tok h e)) (Tx.wc h b)
  | _, _, .rd a => wc_app (wc_app (wc_all (by decide +kernel)) (Tx.wc h a)) (wc_all (by decide +kernel))
  | _, _, .sq a => wc_app (wc_app (wc_all (by decide +kernel)) (wc_cj _ _ (fun _ h => absurd h List.not_mem_nil) (TxA.wc h a))) (wc_all (by decide +kernel))
  | _, _, .call e a => wc_app (wc_app (fun x hx => by
      rcases List.mem_cons.mp hx with rfl | hx
      · exact wc_tok h e _ List.mem_cons_self
      · exact wc_all (xs := ["("]) (by decide +kernel) x hx) (wc_cj _ _ (fun _ h => absurd h List.not_mem_nil) (TxA.wc h a))) (wc_all (by decide +kernel))
  | _, _, .iff a b c => wc_app (wc_app (wc_app (wc_app (wc_app (wc_all (by decide +kernel)) (Tx.wc h a)) (wc_all (by decide +kernel))) (Tx.wc h b)) (wc_all (by decide +kernel))) (Tx.wc h c)
theorem TxA.wc {ts : List Tkn} (h : ∀ t ∈ ts, Wc t.2.1) : ∀ {ds : List PyData} {ls : List (List Str)}, TxA ts ds ls → ∀ l ∈ ls, ∀ x ∈ l, Wc x
  | _, _, .nil => fun _ h => absurd h List.not_mem_nil
  | _, _, .cons a b => fun l hl => by
    rcases List.mem_cons.mp hl with rfl | hl
    · exact Tx.wc h a
    · exact TxA.wc h b l hl
end
theorem TxA.len {ts : List Tkn} : ∀ {ds : List PyData} {ls : List (List Str)}, TxA ts ds ls → ds.length = ls.length
  | _, _, .nil => rfl
  | _, _, .cons _ b => by rw [List.length_cons, List.length_cons, TxA.len b]
theorem TxA.get {ts : List Tkn} : ∀ {ds : List PyData} {ls : List (List Str)} {i : Nat} {d : PyData}, TxA ts ds ls → ds[i]? = some d → ∃ xs, ls[i]? = some xs ∧ Tx ts d xs
  | _, _, i, _, .nil, h => by simp at h
  | _, _, 0, _, .cons a _, h => by
    simp only [List.getElem?_cons_zero, Option.some.injEq] at h
    subst h; exact ⟨_, rfl, a⟩
  | _, _, i + 1, _, .cons _ b, h => by
    obtain ⟨xs, h1, h2⟩ := TxA.get (i := i) b (by simpa using h)
    exact ⟨xs, by simpa using h1, h2⟩
theorem cj_take {ls : List (List Str)} {i : Nat} {xs : List Str} (h : ls[i]? = some xs) : cj (ls.take (i + 1)) = (cj (ls.take i) ++ (if cj (ls.take i) = [] then [] else ([","] : List Str))) ++ xs := by
  rw [List.take_add_one, h]
  exact cj_snoc _ _
theorem foldl_len : ∀ (ls : List (List Str)) (acc : List Str), acc.length ≤ (ls.foldl (fun acc p => (acc ++ (if acc = [] then [] else ([","] : List Str))) ++ p) acc).length
  | [], _ => Nat.le_refl _
  | l :: ls, acc => by
    rw [List.foldl_cons]
    refine Nat.le_trans ?_ (foldl_len ls _)
    rw [List.length_append, List.length_append]; omega
theorem cj_le (ls : List (List Str)) (i : Nat) : (cj (ls.take i)).length ≤ (cj ls).length := by
  conv => rhs; rw [← List.take_append_drop i ls]
  unfold cj
  rw [List.foldl_append]
  exact foldl_len _ _
end Tr

set_option maxHeartbeats 4000000
/-! Rj: repr of lists of pairs of texts tells the pairs; tokens joined by blanks. -/
namespace Gx
open PySem PySem.Spec PyProof.Rows L2 Tk Tr
def pairD (p : Str × Str) : PyData := .tuple [.str p.1, .str p.2]
theorem okq_no {x : Str} (h : Okq x) : 39 ∉ x.cps.toList ∧ 92 ∉ x.cps.toList := by
  refine ⟨fun z => ?_, fun z => ?_⟩
  · have := List.all_eq_true.mp h 39 z; revert this; decide
  · have := List.all_eq_true.mp h 92 z; revert this; decide
theorem reprChar_ok {c : Nat} (h : okq c = true) : Builtin.Str.reprChar 39 c = [c] := by
  have hc : c < 128 := by
    unfold okq at h
    simp only [Bool.and_eq_true, decide_eq_true_eq] at h
    omega
  have k : ∀ c, c < 128 → okq c = true → Builtin.Str.reprChar 39 c = [c] := by decide +kernel
  exact k c hc h
theorem foldl_ok : ∀ (l : List Nat) (acc : Array Nat), l.all okq = true → (l.foldl (fun out c => out ++ (Builtin.Str.reprChar 39 c).toArray) acc).toList = acc.toList ++ l
  | [], acc, _ => by simp
  | c :: l, acc, h => by
    rw [List.all_cons, Bool.and_eq_true] at h
    rw [List.foldl_cons, foldl_ok l _ h.2, reprChar_ok h.1]
    simp
theorem repr_ok {x : Str} (h : Okq x) : (reprText x).cps.toList = 39 :: (x.cps.toList ++ [39]) := by
  have hq : reprQuote x = 39 := by
    unfold reprQuote
    rw [if_neg]
    rw [Bool.and_eq_true]
    intro z
    exact (okq_no h).1 (by simpa using z.1)
  unfold reprText
  rw [hq]
  show ((x.cps.foldl (fun out c => out ++ (Builtin.Str.reprChar 39 c).toArray) #[39]).push 39).toList = _
  rw [Array.toList_push, ← Array.foldl_toList, foldl_ok _ _ h]
  rfl
def itemL (p : Str × Str) : List Nat := 40 :: 39 :: (p.1.cps.toList ++ (39 :: 44 :: 32 :: 39 :: (p.2.cps.toList ++ [39, 41])))
theorem pair_shown {p : Str × Str} (h1 : Okq p.1) (h2 : Okq p.2) : (pairD p).shown.cps.toList = itemL p := by
  have e : (pairD p).shown = tupleText [reprText p.1, reprText p.2] := rfl
  rw [e]
  show TL.tl (("(" : Str) ++ Str.join ", " [reprText p.1, reprText p.2] ++ ((if [reprText p.1, reprText p.2].length == 1 then ",)" else ")" : String) : Str)) = _
  rw [TL.tl_append, TL.tl_append, TL.tl_join]
  show [40] ++ (TL.tl (reprText p.1) ++ ([44, 32] ++ TL.tl (reprText p.2))) ++ [41] = _
  rw [show TL.tl (reprText p.1) = _ from repr_ok h1, show TL.tl (reprText p.2) = _ from repr_ok h2]
  unfold itemL
  simp
def OkP (ps : List (Str × Str)) : Prop := ∀ p ∈ ps, Okq p.1 ∧ Okq p.2
def keyL (ps : List (Str × Str)) : List Nat := [91] ++ TL.joinL [44, 32] (ps.map itemL) ++ [93]
theorem key_shown {ps : List (Str × Str)} (h : OkP ps) : (PyData.list (ps.map pairD)).shown.cps.toList = keyL ps := by
  have e : (PyData.list (ps.map pairD)).shown = listText (PyData.shownAll (ps.map pairD)) := by simp only [PyData.shown]
  rw [e, listText_eq_join]
  show TL.tl _ = _
  rw [TL.tl_append, TL.tl_append, TL.tl_join]
  unfold keyL
  have e2 : (PyData.shownAll (ps.map pairD)).map TL.tl = ps.map itemL := by
    clear e
    induction ps with
    | nil => simp [PyData.shownAll]
    | cons p ps ih =>
      rw [List.map_cons, PyData.shownAll_cons, List.map_cons, List.map_cons, ih fun q hq => h q (List.mem_cons_of_mem _ hq)]
      congr 1
      exact pair_shown (h p List.mem_cons_self).1 (h p List.mem_cons_self).2
  rw [e2]
  rfl
def tailp : List (Str × Str) → List (List Nat)
  | [] => [[41, 93]]
  | p :: r => [41, 44, 32, 40] :: p.1.cps.toList :: [44, 32] :: p.2.cps.toList :: tailp r
def pcs : List (Str × Str) → List (List Nat)
  | [] => [[91, 93]]
  | p :: r => [91, 40] :: p.1.cps.toList :: [44, 32] :: p.2.cps.toList :: tailp r
theorem tailp_ne (r : List (Str × Str)) : ∃ a b, tailp r = a :: b := by
  cases r <;> exact ⟨_, _, rfl⟩
theorem joinL_cons (S p : List Nat) {r : List (List Nat)} (h : ∃ a b, r = a :: b) : TL.joinL S (p :: r) = p ++ (S ++ TL.joinL S r) := by
  obtain ⟨a, b, rfl⟩ := h
  rfl
theorem rest_eq : ∀ r : List (Str × Str), 41 :: ((if r = [] then [] else 44 :: 32 :: TL.joinL [44, 32] (r.map itemL)) ++ [93]) = TL.joinL [39] (tailp r)
  | [] => rfl
  | p :: r => by
    have ih := rest_eq r
    rw [if_neg (by simp)]
    unfold tailp
    rw [joinL_cons _ _ ⟨_, _, rfl⟩, joinL_cons _ _ ⟨_, _, rfl⟩, joinL_cons _ _ ⟨_, _, rfl⟩, joinL_cons _ _ (tailp_ne r), ← ih]
    cases r with
    | nil =>
      show 41 :: (44 :: 32 :: itemL p ++ [93]) = _
      unfold itemL
      simp
    | cons q r =>
      rw [if_neg (by simp)]
      show 41 :: (44 :: 32 :: (itemL p ++ ([44, 32] ++ TL.joinL [44, 32] ((q :: r).map itemL))) ++ [93]) = _
      unfold itemL
      simp
theorem key_pcs (ps : List (Str × Str)) : keyL ps = TL.joinL [39] (pcs ps) := by
  cases ps with
  | nil => rfl
  | cons p r =>
    unfold keyL pcs
    rw [joinL_cons _ _ ⟨_, _, rfl⟩, joinL_cons _ _ ⟨_, _, rfl⟩, joinL_cons _ _ ⟨_, _, rfl⟩, joinL_cons _ _ (tailp_ne r), ← rest_eq r]
    cases r with
    | nil =>
      show [91] ++ itemL p ++ [93] = _
      unfold itemL
      simp
    | cons q r =>
      rw [if_neg (by simp)]
      show [91] ++ (itemL p ++ ([44, 32] ++ TL.joinL [44, 32] ((q :: r).map itemL))) ++ [93] = _
      unfold itemL
      simp
theorem tailp_39 : ∀ {r : List (Str × Str)}, OkP r → ∀ l ∈ tailp r, 39 ∉ l
  | [], _, l, hl => by rw [List.mem_singleton.mp hl]; decide
  | p :: r, h, l, hl => by
    have hp := h p List.mem_cons_self
    unfold tailp at hl
    rcases List.mem_cons.mp hl with rfl | hl
    · decide
    rcases List.mem_cons.mp hl with rfl | hl
    · exact (okq_no hp.1).1
    rcases List.mem_cons.mp hl with rfl | hl
    · decide
    rcases List.mem_cons.mp hl with rfl | hl
    · exact (okq_no hp.2).1
    · exact tailp_39 (fun q hq => h q (List.mem_cons_of_mem _ hq)) l hl
theorem pcs_39 {ps : List (Str × Str)} (h : OkP ps) : ∀ l ∈ pcs ps, 39 ∉ l := by
  cases ps with
  | nil => intro l hl; rw [List.mem_singleton.mp hl]; decide
  | cons p r =>
    intro l hl
    have hp := h p List.mem_cons_self
    unfold pcs at hl
    rcases List.mem_cons.mp hl with rfl | hl
    · decide
    rcases List.mem_cons.mp hl with rfl | hl
    · exact (okq_no hp.1).1
    rcases List.mem_cons.mp hl with rfl | hl
    · decide
    rcases List.mem_cons.mp hl with rfl | hl
    · exact (okq_no hp.2).1
    · exact tailp_39 (fun q hq => h q (List.mem_cons_of_mem _ hq)) l hl
theorem str_ext {a b : Str} (h : a.cps.toList = b.cps.toList) : a = b := TL.ext_tl h
theorem tailp_inj : ∀ {r q : List (Str × Str)}, tailp r = tailp q → r = q
  | [], [], _ => rfl
  | [], _ :: _, h => by simp [tailp] at h
  | _ :: _, [], h => by simp [tailp] at h
  | a :: r, b :: q, h => by
    unfold tailp at h
    simp only [List.cons.injEq, true_and] at h
    obtain ⟨h1, h2, h3⟩ := h
    rw [tailp_inj h3, Prod.ext (str_ext h1) (str_ext h2)]
theorem pcs_inj {r q : List (Str × Str)} (h : pcs r = pcs q) : r = q := by
  cases r with
  | nil => cases q with
    | nil => rfl
    | cons b q => simp [pcs] at h
  | cons a r => cases q with
    | nil => simp [pcs] at h
    | cons b q =>
      unfold pcs at h
      simp only [List.cons.injEq, true_and] at h
      obtain ⟨h1, h2, h3⟩ := h
      rw [tailp_inj h3, Prod.ext (str_ext h1) (str_ext h2)]
/-- like keys are keys of like pairs -/
theorem key_inj {ps qs : List (Str × Str)} (hp : OkP ps) (hq : OkP qs) (h : (PyData.list (ps.map pairD)).shown = (PyData.list (qs.map pairD)).shown) : ps = qs := by
  have e : (PyData.list (ps.map pairD)).shown.cps.toList = (PyData.list (qs.map pairD)).shown.cps.toList := by rw [h]
  rw [key_shown hp, key_shown hq, key_pcs, key_pcs] at e
  have ne : ∀ r : List (Str × Str), pcs r ≠ [] := fun r => by cases r <;> simp [pcs]
  have e1 := TL.spl_join (s := 39) (S := []) (ne ps) (pcs_39 hp)
  have e2 := TL.spl_join (s := 39) (S := []) (ne qs) (pcs_39 hq)
  rw [e] at e1
  exact pcs_inj (e1.symm.trans e2)
/-! tokens joined by blanks -/
theorem tok_ext {c : Nat} {r r' : List Nat} (h : (isLet c = false ∧ isFig c = false) ∨ ∀ a ∈ r'.head?, isLet a = false ∧ isFig a = false) (hq : c = 34 → 34 ∈ r ∨ r' = []) : tokAt ((tokAt (c :: r)).2 ++ r') = tokAt (c :: r) := by
  rw [tokAt_cons]
  by_cases hc : isLet c = true
  · have ha : ((c :: r).takeWhile isLet).all isLet = true := List.all_takeWhile
    have hr : ∀ a ∈ r'.head?, isLet a = false := fun a hx => by
      rcases h with h | h
      · rw [hc] at h; cases h.1
      · exact (h a hx).1
    rw [if_pos hc]
    have e := tw_full ha hr
    obtain ⟨m, em⟩ : ∃ m, (c :: r).takeWhile isLet = c :: m := ⟨_, by rw [List.takeWhile_cons, if_pos hc]⟩
    rw [em] at e ⊢
    dsimp only
    rw [List.cons_append] at e ⊢
    rw [tokAt_cons, if_pos hc, e]
  · by_cases hf : isFig c = true
    · have ha : ((c :: r).takeWhile isFig).all isFig = true := List.all_takeWhile
      have hr : ∀ a ∈ r'.head?, isFig a = false := fun a hx => by
        rcases h with h | h
        · rw [hf] at h; cases h.2
        · exact (h a hx).2
      rw [if_neg hc, if_pos hf]
      have e := tw_full ha hr
      obtain ⟨m, em⟩ : ∃ m, (c :: r).takeWhile isFig = c :: m := ⟨_, by rw [List.takeWhile_cons, if_pos hf]⟩
      rw [em] at e ⊢
      dsimp only
      rw [List.cons_append] at e ⊢
      rw [tokAt_cons, if_neg hc, if_pos hf, e]
    · by_cases h34 : c = 34
      · subst h34
        rw [if_neg hc, if_neg hf, if_pos rfl]
        by_cases hm : 34 ∈ r
        · rw [if_pos hm]
          dsimp only
          rw [List.cons_append, tokAt_cons, if_neg hc, if_neg hf, if_pos rfl, if_pos (by simp)]
          have : ((r.takeWhile (· != 34) ++ [34]) ++ r').takeWhile (· != 34) = r.takeWhile (· != 34) := by
            rw [List.append_assoc]
            exact tw_full (List.all_takeWhile) (fun a ha => by
              have : a = 34 := by simpa using ha.symm
              rw [this]; decide)
          rw [this]
        · rw [if_neg hm]
          rcases hq rfl with h | h
          · exact absurd h hm
          · rw [h, List.append_nil, tokAt_cons, if_neg hc, if_neg hf, if_pos rfl, if_neg hm]
      · rw [if_neg hc, if_neg hf, if_neg h34]
        dsimp only
        rw [List.singleton_append, tokAt_cons, if_neg hc, if_neg hf, if_neg h34]
theorem blank_sign : isLet 32 = false ∧ isFig 32 = false := by decide
def cpsT (ts : List Tkn) : List (List Nat) := ts.map fun t => t.2.1.cps.toList
theorem join_toks : ∀ (n : Nat) (l : List Nat) (k k' : Nat), l.length ≤ n → (toks (TL.joinL [32] (cpsT (toks l k))) k').map kt = (toks l k).map kt
  | n, [], k, k', _ => rfl
  | 0, c :: r, _, _, h => by simp at h
  | n + 1, c :: r, k, k', h => by
    have hr : r.length ≤ n := by rw [List.length_cons] at h; omega
    by_cases e32 : c = 32
    · subst e32
      rw [toks_blank]
      exact join_toks n r _ _ hr
    · have tl := tokAt_len c r
      rw [toks_cons e32]
      have hd : ((c :: r).drop (tokAt (c :: r)).2.length).length ≤ n := by rw [List.length_drop, List.length_cons]; omega
      have ih := fun k' => join_toks n ((c :: r).drop (tokAt (c :: r)).2.length) (k + (tokAt (c :: r)).2.length) k' hd
      obtain ⟨m, em⟩ : ∃ m, (tokAt (c :: r)).2 = c :: m := by
        obtain ⟨j, hj⟩ : ∃ j, (tokAt (c :: r)).2.length = j + 1 := ⟨(tokAt (c :: r)).2.length - 1, by omega⟩
        have := tl.2.2
        rw [hj, List.take_succ_cons] at this
        exact ⟨_, this.symm⟩
      generalize hts : toks ((c :: r).drop (tokAt (c :: r)).2.length) (k + (tokAt (c :: r)).2.length) = ts at ih
      cases ts with
      | nil =>
        show (toks (tokAt (c :: r)).2 k').map kt = _
        have e := tok_ext (c := c) (r := r) (r' := []) (.inr fun _ h => by cases h) (fun _ => .inr rfl)
        rw [List.append_nil] at e
        rw [em] at e ⊢
        rw [toks_cons e32, e]
        rw [em, List.drop_of_length_le (Nat.le_refl _)]
        rfl
      | cons t ts =>
        have hq : c = 34 → 34 ∈ r ∨ (32 :: TL.joinL [32] (cpsT (t :: ts))) = [] := fun e => by
          subst e
          left
          refine Decidable.byContradiction fun hn => ?_
          have e2 : tokAt (34 :: r) = (("odd" : Str), 34 :: r) := by
            rw [tokAt_cons, if_neg (by decide), if_neg (by decide), if_pos rfl, if_neg hn]
          rw [e2] at hts
          dsimp only at hts
          rw [List.drop_of_length_le (Nat.le_refl _)] at hts
          cases hts
        have e := tok_ext (c := c) (r := r) (r' := 32 :: TL.joinL [32] (cpsT (t :: ts))) (.inr fun a h => by
          have : a = 32 := by simpa using h.symm
          rw [this]; exact blank_sign) hq
        show (toks ((tokAt (c :: r)).2 ++ ([32] ++ TL.joinL [32] (cpsT (t :: ts)))) k').map kt = _
        rw [List.singleton_append]
        rw [em, List.cons_append] at e ⊢
        rw [toks_cons e32, e]
        rw [List.map_cons, em, ← List.cons_append, List.drop_left' rfl, toks_blank, ih]
        rfl
end Gx

set_option maxHeartbeats 4000000
/-! Ud: trees without stops are not deep, and can be compared. -/
namespace Tr
open PySem PySem.Spec PyProof.Rows L2 Gx Tk
theorem dep_int (i : Int) : (PyData.int i).depth = 0 := by rw [PyData.depth]
theorem dep_str (x : Str) : (PyData.str x).depth = 0 := by rw [PyData.depth]
theorem can_int (i : Int) : (PyData.int i).canLay0 = true := by rw [PyData.canLay0]
theorem can_str {x : Str} (h : Wc x) : (PyData.str x).canLay0 = true := by
  rw [PyData.canLay0]
  unfold PyData.strOk
  rw [← Array.all_toList, List.all_eq_true]
  exact fun c hc => decide_eq_true (h c hc)
theorem can_nil : PyData.canLayAll0 [] = true := by rw [PyData.canLayAll0]
theorem can_cons {d : PyData} {ds : List PyData} (h : d.canLay0 = true) (h' : PyData.canLayAll0 ds = true) : PyData.canLayAll0 (d :: ds) = true := by rw [PyData.canLayAll0, h, h']; rfl
theorem can_tup {ds : List PyData} (h : PyData.canLayAll0 ds = true) : (PyData.tuple ds).canLay0 = true := by rw [PyData.canLay0]; exact h
theorem dep_nil : PyData.depthAll [] = 0 := by rw [PyData.depthAll]
theorem dep_cons (d : PyData) (ds : List PyData) : PyData.depthAll (d :: ds) = max d.depth (PyData.depthAll ds) := by rw [PyData.depthAll]
theorem dep_tup (ds : List PyData) : (PyData.tuple ds).depth = PyData.depthAll ds + 1 := by rw [PyData.depth]
theorem wc_lit {x : Str} (h : x.cps.toList.all (fun c => decide (c < 1114112)) = true) : Wc x := fun c hc => of_decide_eq_true (List.all_eq_true.mp h c hc)
def dpOk (d : PyData) (n : Nat) : Prop := d.depth ≤ n ∧ d.canLay0 = true
theorem foldl_mem : ∀ (ls : List (List Str)) (acc : List Str) (l : List Str), l ∈ ls → l.length ≤ (ls.foldl (fun acc p => (acc ++ (if acc = [] then [] else ([","] : List Str))) ++ p) acc).length
  | [], _, _, h => absurd h List.not_mem_nil
  | m :: ls, acc, l, h => by
    rw [List.foldl_cons]
    rcases List.mem_cons.mp h with rfl | h
    · refine Nat.le_trans ?_ (foldl_len ls _)
      rw [List.length_append]; omega
    · exact foldl_mem ls _ l h
mutual
theorem Tx.dp {ts : List Tkn} : ∀ {d : PyData} {xs : List Str}, Tx ts d xs → dpOk d xs.length
  | _, _, .lone e => ⟨by rw [dep_tup, dep_cons, dep_cons, dep_nil, dep_str, show dN _ = .int _ from rfl, dep_int]; exact Nat.le_refl _, can_tup (can_cons (can_str (wc_lit (by decide +kernel))) (can_cons (can_int _) can_nil))⟩
  | _, _, .name e => ⟨by rw [dep_tup, dep_cons, dep_cons, dep_nil, dep_str, show dN _ = .int _ from rfl, dep_int]; exact Nat.le_refl _, can_tup (can_cons (can_str (wc_lit (by decide +kernel))) (can_cons (can_int _) can_nil))⟩
  | _, _, .op e a b => by
    have ha := Tx.dp a
    have hb := Tx.dp b
    refine ⟨?_, can_tup (can_cons (can_str (wc_lit (by decide +kernel))) (can_cons (can_int _) (can_cons ha.2 (can_cons hb.2 can_nil))))⟩
    rw [dep_tup, dep_cons, dep_cons, dep_cons, dep_cons, dep_nil, dep_str, show dN _ = .int _ from rfl, dep_int]
    simp only [List.length_append, List.length_cons, List.length_nil]
    have h1 := ha.1
    have h2 := hb.1
    have := List.length_pos_iff.mpr a.ne
    have := List.length_pos_iff.mpr b.ne
    omega
  | _, _, .rd a => by
    have ha := Tx.dp a
    refine ⟨?_, can_tup (can_cons (can_str (wc_lit (by decide +kernel))) (can_cons (can_int _) (can_cons ha.2 can_nil)))⟩
    rw [dep_tup, dep_cons, dep_cons, dep_cons, dep_nil, dep_str, show dN _ = .int _ from rfl, dep_int]
    simp only [List.length_append, List.length_cons, List.length_nil]
    have h1 := ha.1
    omega
  | _, _, .sq a => by
    have ha := TxA.dp a
    refine ⟨?_, can_tup (can_cons (can_str (wc_lit (by decide +kernel))) (can_cons (can_int _) (can_cons (can_tup ha.2) can_nil)))⟩
    rw [dep_tup, dep_cons, dep_cons, dep_cons, dep_nil, dep_str, show dN _ = .int _ from rfl, dep_int, dep_tup]
    simp only [List.length_append, List.length_cons, List.length_nil]
    have h1 := ha.1
    omega
  | _, _, .call e a => by
    have ha := TxA.dp a
    refine ⟨?_, can_tup (can_cons (can_str (wc_lit (by decide +kernel))) (can_cons (can_int _) (can_cons (can_tup ha.2) can_nil)))⟩
    rw [dep_tup, dep_cons, dep_cons, dep_cons, dep_nil, dep_str, show dN _ = .int _ from rfl, dep_int, dep_tup]
    simp only [List.length_append, List.length_cons, List.length_nil]
    have h1 := ha.1
    omega
  | _, _, .iff a b c => by
    have ha := Tx.dp a
    have hb := Tx.dp b
    have hc := Tx.dp c
    refine ⟨?_, can_tup (can_cons (can_str (wc_lit (by decide +kernel))) (can_cons (can_int _) (can_cons ha.2 (can_cons hb.2 (can_cons hc.2 can_nil)))))⟩
    rw [dep_tup, dep_cons, dep_cons, dep_cons, dep_cons, dep_cons, dep_nil, dep_str, show dN _ = .int _ from rfl, dep_int]
    simp only [List.length_append, List.length_cons, List.length_nil]
    have h1 := ha.1
    have h2 := hb.1
    have h3 := hc.1
    omega
theorem TxA.dp {ts : List Tkn} : ∀ {ds : List PyData} {ls : List (List Str)}, TxA ts ds ls → PyData.depthAll ds ≤ (cj ls).length ∧ PyData.canLayAll0 ds = true
  | ds, ls, h => by
    have : (∀ m, (∀ l ∈ ls, l.length ≤ m) → PyData.depthAll ds ≤ m) ∧ PyData.canLayAll0 ds = true := TxA.dp1 h
    exact ⟨this.1 _ fun l hl => foldl_mem ls [] l hl, this.2⟩
theorem TxA.dp1 {ts : List Tkn} : ∀ {ds : List PyData} {ls : List (List Str)}, TxA ts ds ls → (∀ m, (∀ l ∈ ls, l.length ≤ m) → PyData.depthAll ds ≤ m) ∧ PyData.canLayAll0 ds = true
  | _, _, .nil => ⟨fun m _ => by rw [dep_nil]; exact Nat.zero_le _, can_nil⟩
  | _, _, .cons a b => by
    have ha := Tx.dp a
    have hb := TxA.dp1 b
    refine ⟨fun m hm => ?_, can_cons ha.2 hb.2⟩
    rw [dep_cons]
    have h1 := ha.1
    have h2 := hm _ List.mem_cons_self
    have h3 := hb.1 m fun l hl => hm l (List.mem_cons_of_mem _ hl)
    omega
end
theorem PmT.dp {ts : List Tkn} {ds : List PyData} {ls : List (List Str)} (h : PmT ts ds ls) : PyData.depthAll ds ≤ 1 ∧ PyData.canLayAll0 ds = true := by
  have app : ∀ (a b : List PyData), PyData.depthAll (a ++ b) = max (PyData.depthAll a) (PyData.depthAll b) := fun a b => by
    induction a with
    | nil => rw [List.nil_append, dep_nil]; omega
    | cons x a ih => rw [List.cons_append, dep_cons, dep_cons, ih]; omega
  have capp : ∀ (a b : List PyData), PyData.canLayAll0 a = true → PyData.canLayAll0 b = true → PyData.canLayAll0 (a ++ b) = true := fun a b ha hb => by
    induction a with
    | nil => exact hb
    | cons x a ih =>
      rw [PyData.canLayAll0, Bool.and_eq_true] at ha
      rw [List.cons_append]
      exact can_cons ha.1 (ih ha.2)
  induction h with
  | nil => exact ⟨by rw [dep_nil]; omega, can_nil⟩
  | snoc _ _ _ ih =>
    refine ⟨?_, capp _ _ ih.2 (can_cons (can_tup (can_cons (can_int _) (can_cons (can_int _) can_nil))) can_nil)⟩
    rw [app, dep_cons, dep_nil, dep_tup, dep_cons, dep_cons, dep_nil, show ∀ i, dN i = .int (i : Int) from fun _ => rfl, show ∀ i, dN i = .int (i : Int) from fun _ => rfl, dep_int, dep_int]
    have := ih.1
    omega
theorem RowT.dp {ts : List Tkn} {d : PyData} {xs : List Str} (h : RowT ts d xs) : dpOk d (xs.length + 3) := by
  cases h with
  | bare => exact ⟨by rw [dep_tup, dep_cons, dep_nil, dep_str]; omega, can_tup (can_cons (can_str (wc_lit (by decide +kernel))) can_nil)⟩
  | take _ => exact ⟨by rw [dep_tup, dep_cons, dep_cons, dep_nil, dep_str, show dN _ = .int _ from rfl, dep_int]; omega, can_tup (can_cons (can_str (wc_lit (by decide +kernel))) (can_cons (can_int _) can_nil))⟩
  | lets _ tx =>
    have h1 := tx.dp
    refine ⟨?_, can_tup (can_cons (can_str (wc_lit (by decide +kernel))) (can_cons (can_int _) (can_cons h1.2 can_nil)))⟩
    rw [dep_tup, dep_cons, dep_cons, dep_cons, dep_nil, dep_str, show dN _ = .int _ from rfl, dep_int]
    simp only [List.length_append, List.length_cons, List.length_nil]
    have := h1.1
    omega
  | defs _ pm tx =>
    have h1 := tx.dp
    have h2 := pm.dp
    refine ⟨?_, can_tup (can_cons (can_str (wc_lit (by decide +kernel))) (can_cons (can_int _) (can_cons (can_tup h2.2) (can_cons h1.2 can_nil))))⟩
    rw [dep_tup, dep_cons, dep_cons, dep_cons, dep_cons, dep_nil, dep_str, show dN _ = .int _ from rfl, dep_int, dep_tup]
    simp only [List.length_append, List.length_cons, List.length_nil]
    have := h1.1
    have := h2.1
    omega
theorem RowT.shaped {ts : List Tkn} {d : PyData} {xs : List Str} (h : RowT ts d xs) (hl : xs.length ≤ 60) : SeqAt.shaped d = true := by
  have := h.dp
  unfold SeqAt.shaped
  rw [this.2, Bool.true_and]
  exact decide_eq_true (by have := this.1; omega)
theorem sort_wc {l : List Nat} {k : Nat} : ∀ t ∈ toks l k, Okq t.1 := by
  have key : ∀ (c : Nat) (r : List Nat), Okq (tokAt (c :: r)).1 := fun c r => by
    have lit : ∀ x ∈ (["held", "name", "odd", "number", "word", "sign"] : List Str), Okq x := by
      have h : (["held", "name", "odd", "number", "word", "sign"] : List Str).all (fun x => x.cps.toList.all okq) = true := by decide +kernel
      exact fun x hx => List.all_eq_true.mp h x hx
    rw [tokAt_cons]
    unfold lsort
    repeat' split
    all_goals first | exact lit "held" (by decide +kernel) | exact lit "name" (by decide +kernel) | exact lit "odd" (by decide +kernel) | exact lit "number" (by decide +kernel) | exact lit "word" (by decide +kernel) | exact lit "sign" (by decide +kernel)
  have : ∀ (n : Nat) (l : List Nat) (k : Nat), l.length ≤ n → ∀ t ∈ toks l k, Okq t.1 := by
    intro n
    induction n with
    | zero =>
      intro l k h t ht
      have : l = [] := List.length_eq_zero_iff.mp (by omega)
      rw [this, toks_nil] at ht
      exact absurd ht List.not_mem_nil
    | succ n ih =>
      intro l k h t ht
      cases l with
      | nil => exact absurd ht List.not_mem_nil
      | cons c r =>
        rw [List.length_cons] at h
        by_cases e : c = 32
        · subst e
          rw [toks_blank] at ht
          exact ih r _ (by omega) t ht
        · have tl := tokAt_len c r
          rw [toks_cons e] at ht
          rcases List.mem_cons.mp ht with rfl | ht
          · exact key c r
          · exact ih _ _ (by rw [List.length_drop, List.length_cons]; omega) t ht
  exact this _ l k (Nat.le_refl _)
theorem text_ok {l : List Nat} (h : l.all okq = true) : ∀ t ∈ toks l 0, Okq t.2.1 := fun t ht => by
  have := (toks_at l _ l 0 (Nat.le_refl _) rfl t ht).1
  rw [← this]
  exact List.all_eq_true.mpr fun c hc => List.all_eq_true.mp h c (List.mem_of_mem_drop (List.mem_of_mem_take hc))
theorem okq_wc {x : Str} (h : Okq x) : Wc x := fun c hc => by
  have := List.all_eq_true.mp h c hc
  unfold okq at this
  simp only [Bool.and_eq_true, decide_eq_true_eq] at this
  omega
theorem txts_cps (xs : List Str) : txts (xs.map fun z => z.cps.toList) = xs.map V.str := by
  unfold txts
  rw [List.map_map]
  rfl
theorem ne_strs {K : PySem.W.Frag} {H : Hp} {p q : Addr} {xs : List Str} {Q : VK} (hp : H p = some (.lst (xs.map V.str))) (hq : H q = some (.lst (xs.map V.str))) (h : ∀ z ∈ xs, Wc z) (k : Q (.bl false) H) : rNeD K (.ref p) (.ref q) H Q :=
  ne_txts (ls := xs.map fun z => z.cps.toList) (by rw [txts_cps]; exact SqL.of hp) (by rw [txts_cps]; exact SqL.of hq) (fun l hl c hc => by
    obtain ⟨z, hz, rfl⟩ := List.mem_map.mp hl
    exact h z hz c hc) k
end Tr

set_option maxHeartbeats 4000000
/-! La: a row laid out: its tokens one behind the other, a blank where they stand apart; read again it's the same tokens. -/
namespace Tr
open PySem PySem.Spec PyProof.Rows L2 Gx Tk
/-- whether a blank stands between two tokens, by sort and text -/
def apartB (a b : Str × Str) : Bool :=
  if a.2 = "(" ∨ a.2 = "[" ∨ b.2 = ")" ∨ b.2 = "]" ∨ b.2 = "," then false else decide (¬ (a.1 = "name" ∧ b.2 = "("))
def gapL (a b : Str × Str) : List Nat := if apartB a b then [32] else []
def layF : Str × Str → List (Str × Str) → List Nat
  | _, [] => []
  | p, a :: r => gapL p a ++ (a.2.cps.toList ++ layF a r)
def layK : List (Str × Str) → List Nat
  | [] => []
  | a :: r => a.2.cps.toList ++ layF a r
def layL (ts : List Tkn) : List Nat := layK (ts.map kt)
theorem gap_sign {c : Nat} {r : List Nat} {b : Str × Str} (h : apartB ((tokAt (c :: r)).1, SX.S (tokAt (c :: r)).2) b = false) {x : List Nat} (hx : b.2.cps.toList ++ x ≠ []) :
    (isLet c = false ∧ isFig c = false) ∨ (∀ a ∈ (b.2.cps.toList ++ x).head?, isLet a = false ∧ isFig a = false) := by
  have one : ∀ {y : Str} {d : Nat}, b.2 = y → y.cps.toList = [d] → isLet d = false ∧ isFig d = false → ∀ a ∈ (b.2.cps.toList ++ x).head?, isLet a = false ∧ isFig a = false := fun {y} {d} e1 e2 h3 a ha => by
    rw [e1, e2] at ha
    have : a = d := by simpa using ha.symm
    rw [this]; exact h3
  unfold apartB at h
  split at h
  · rename_i q
    rcases q with q | q | q | q | q
    · left
      have e : (tokAt (c :: r)).2 = ("(" : Str).cps.toList := congrArg (fun z : Str => z.cps.toList) q
      have t := tokAt_len c r
      rw [e] at t
      have e2 := t.2.2
      rw [show ("(" : Str).cps.toList = [40] from by decide +kernel] at e2
      have : c = 40 := by simpa using e2
      rw [this]; decide
    · left
      have e : (tokAt (c :: r)).2 = ("[" : Str).cps.toList := congrArg (fun z : Str => z.cps.toList) q
      have t := tokAt_len c r
      rw [e] at t
      have e2 := t.2.2
      rw [show ("[" : Str).cps.toList = [91] from by decide +kernel] at e2
      have : c = 91 := by simpa using e2
      rw [this]; decide
    · exact .inr (one q (by decide +kernel : (")" : Str).cps.toList = [41]) (by decide))
    · exact .inr (one q (by decide +kernel : ("]" : Str).cps.toList = [93]) (by decide))
    · exact .inr (one q (by decide +kernel : ("," : Str).cps.toList = [44]) (by decide))
  · have := of_decide_eq_false h
    have := Decidable.not_not.mp this
    exact .inr (one this.2 (by decide +kernel : ("(" : Str).cps.toList = [40]) (by decide))
theorem lay_toks : ∀ (n : Nat) (l : List Nat) (k k' : Nat), l.length ≤ n → (toks (layL (toks l k)) k').map kt = (toks l k).map kt
  | n, [], k, k', _ => rfl
  | 0, c :: r, _, _, h => by simp at h
  | n + 1, c :: r, k, k', h => by
    have hr : r.length ≤ n := by rw [List.length_cons] at h; omega
    by_cases e32 : c = 32
    · subst e32
      rw [toks_blank]
      exact lay_toks n r _ _ hr
    · have tl := tokAt_len c r
      rw [toks_cons e32]
      have hd : ((c :: r).drop (tokAt (c :: r)).2.length).length ≤ n := by rw [List.length_drop, List.length_cons]; omega
      have ih := fun k' => lay_toks n ((c :: r).drop (tokAt (c :: r)).2.length) (k + (tokAt (c :: r)).2.length) k' hd
      obtain ⟨m, em⟩ : ∃ m, (tokAt (c :: r)).2 = c :: m := by
        obtain ⟨j, hj⟩ : ∃ j, (tokAt (c :: r)).2.length = j + 1 := ⟨(tokAt (c :: r)).2.length - 1, by omega⟩
        have := tl.2.2
        rw [hj, List.take_succ_cons] at this
        exact ⟨_, this.symm⟩
      generalize hts : toks ((c :: r).drop (tokAt (c :: r)).2.length) (k + (tokAt (c :: r)).2.length) = ts at ih
      cases ts with
      | nil =>
        show (toks ((tokAt (c :: r)).2 ++ []) k').map kt = _
        have e := tok_ext (c := c) (r := r) (r' := []) (.inr fun _ h => by cases h) (fun _ => .inr rfl)
        rw [em, List.cons_append] at e ⊢
        rw [toks_cons e32, e]
        rw [em, ← List.cons_append, List.append_nil, List.drop_of_length_le (Nat.le_refl _)]
        rfl
      | cons t ts =>
        have hq : ∀ x : List Nat, c = 34 → 34 ∈ r ∨ x = [] := fun x e => by
          subst e
          left
          refine Decidable.byContradiction fun hn => ?_
          have e2 : tokAt (34 :: r) = (("odd" : Str), 34 :: r) := by
            rw [tokAt_cons, if_neg (by decide), if_neg (by decide), if_pos rfl, if_neg hn]
          rw [e2] at hts
          dsimp only at hts
          rw [List.drop_of_length_le (Nat.le_refl _)] at hts
          cases hts
        have hcond : (isLet c = false ∧ isFig c = false) ∨ (∀ a ∈ (gapL ((tokAt (c :: r)).1, SX.S (tokAt (c :: r)).2) (kt t) ++ layL (t :: ts)).head?, isLet a = false ∧ isFig a = false) := by
          unfold gapL
          cases hap : apartB ((tokAt (c :: r)).1, SX.S (tokAt (c :: r)).2) (kt t) with
          | true =>
            right; intro a h
            have : a = 32 := by simpa using h.symm
            rw [this]; exact blank_sign
          | false =>
            by_cases hx : (kt t).2.cps.toList ++ layF (kt t) (ts.map kt) = []
            · right; intro a h
              have h : a ∈ ((kt t).2.cps.toList ++ layF (kt t) (ts.map kt)).head? := h
              rw [hx] at h; cases h
            · exact gap_sign hap hx
        have e := tok_ext (c := c) (r := r) (r' := gapL ((tokAt (c :: r)).1, SX.S (tokAt (c :: r)).2) (kt t) ++ layL (t :: ts)) hcond (hq _)
        have e2 : layL (((tokAt (c :: r)).1, SX.S (tokAt (c :: r)).2, k) :: t :: ts) = (tokAt (c :: r)).2 ++ (gapL ((tokAt (c :: r)).1, SX.S (tokAt (c :: r)).2) (kt t) ++ layL (t :: ts)) := rfl
        rw [e2]
        have key : ∀ k'', (toks (gapL ((tokAt (c :: r)).1, SX.S (tokAt (c :: r)).2) (kt t) ++ layL (t :: ts)) k'').map kt = (t :: ts).map kt := fun k'' => by
          unfold gapL
          split
          · show (toks (32 :: layL (t :: ts)) k'').map kt = _
            rw [toks_blank, ih]
          · exact ih k''
        generalize gapL ((tokAt (c :: r)).1, SX.S (tokAt (c :: r)).2) (kt t) ++ layL (t :: ts) = y at e key
        rw [em, List.cons_append] at e ⊢
        rw [toks_cons e32, e]
        rw [List.map_cons, em, ← List.cons_append, List.drop_left' rfl, key]
        rfl
/-- the row laid out, ss its stops -/
def laidL (l : List Nat) (ss : List (Str × Nat × Str)) : List Nat := if ss = [] then (if (layL (toks l 0)).length ≤ 60 then layL (toks l 0) else l) else l
theorem laid_same {l : List Nat} (ss : List (Str × Nat × Str)) : (toks (laidL l ss) 0).map kt = (toks l 0).map kt := by
  unfold laidL
  split
  · split
    · exact lay_toks _ l 0 0 (Nat.le_refl _)
    · rfl
  · rfl
theorem laid_whole {l : List Nat} {d : PyData} {ss : List (Str × Nat × Str)} (h : Whole (toks l 0) d ss) : Whole (toks (laidL l ss) 0) d ss :=
  Whole.alike (Alike.of_map (laid_same ss).symm) h
theorem laid_again (l : List Nat) (ss : List (Str × Nat × Str)) : laidL (laidL l ss) ss = laidL l ss := by
  have e : layL (toks (laidL l ss) 0) = layL (toks l 0) := by unfold layL; rw [laid_same]
  generalize hx : laidL l ss = x at e
  unfold laidL at hx ⊢
  by_cases hs : ss = []
  · rw [if_pos hs] at hx ⊢
    rw [e]
    by_cases hl : (layL (toks l 0)).length ≤ 60
    · rw [if_pos hl] at hx ⊢; exact hx
    · rw [if_neg hl] at hx ⊢
  · rw [if_neg hs]
theorem laid_len {l : List Nat} (h : l.length ≤ 60) (ss : List (Str × Nat × Str)) : (laidL l ss).length ≤ 60 := by
  unfold laidL
  split
  · split
    · assumption
    · exact h
  · exact h
end Tr

set_option maxHeartbeats 4000000
/-! Dw: how deep a row's tree is, by the weight of its signs; whatever stands in the row. -/
namespace Tr
open PySem PySem.Spec PyProof.Rows L2 Gx Tk
def wtc (c : Nat) : Nat := if c = 40 ∨ c = 91 ∨ c = 43 ∨ c = 45 ∨ c = 42 ∨ c = 38 ∨ c = 61 ∨ c = 60 then 4 else 1
def wtl (l : List Nat) : Nat := (l.map wtc).sum
def psi (ts : List Tkn) (n : Nat) : Nat := ((ts.drop n).map fun t => wtl t.2.1.cps.toList).sum
theorem wtl_app (a b : List Nat) : wtl (a ++ b) = wtl a + wtl b := by unfold wtl; rw [List.map_append, List.sum_append]
theorem wtl_cons (c : Nat) (r : List Nat) : wtl (c :: r) = wtc c + wtl r := by unfold wtl; rw [List.map_cons, List.sum_cons]
theorem psi_step {ts : List Tkn} {n : Nat} {t : Tkn} (h : ts[n]? = some t) : psi ts n = wtl t.2.1.cps.toList + psi ts (n + 1) := by
  obtain ⟨hn, e⟩ := List.getElem?_eq_some_iff.mp h
  unfold psi
  rw [List.drop_eq_getElem_cons hn, List.map_cons, List.sum_cons, e]
theorem psi_mono (ts : List Tkn) (n : Nat) : psi ts (n + 1) ≤ psi ts n := by
  cases h : ts[n]? with
  | some t => rw [psi_step h]; omega
  | none =>
    have := List.getElem?_eq_none_iff.mp h
    unfold psi
    rw [List.drop_of_length_le this, List.drop_of_length_le (by omega)]
    exact Nat.le_refl _
theorem psi_text {ts : List Tkn} {s : RS} {w : Str} (h : textAt ts s = w) (hw : w ≠ "") : psi ts s.at_ = wtl w.cps.toList + psi ts (step s).at_ := by
  unfold textAt at h
  cases e : ts[s.at_]? with
  | none => rw [e] at h; exact absurd h.symm hw
  | some t =>
    rw [e] at h
    have h : t.2.1 = w := h
    rw [psi_step e, h]
    rfl
theorem psi_sign (ts : List Tkn) (e : Str) (s : RS) : psi ts (sign ts e s).at_ ≤ psi ts s.at_ := by
  unfold sign
  split
  · exact psi_mono ts s.at_
  · exact Nat.le_refl _
theorem psi_want (ts : List Tkn) (b : Bool) (wd : Str) (s : RS) : psi ts (wantS b wd s).at_ ≤ psi ts s.at_ := by
  cases b with
  | true => exact psi_mono ts s.at_
  | false => exact Nat.le_refl _
theorem kd_text {ts : List Tkn} {s : RS} : (kd ts s = .sq → textAt ts s = "[") ∧ (kd ts s = .rd → textAt ts s = "(") ∧ (kd ts s = .iff → textAt ts s = "if") := by
  unfold kd
  split
  · exact ⟨(nomatch ·), (nomatch ·), (nomatch ·)⟩
  · split
    · exact ⟨(nomatch ·), (nomatch ·), (nomatch ·)⟩
    · split
      · rename_i h; exact ⟨fun _ => h, (nomatch ·), (nomatch ·)⟩
      · split
        · rename_i h; exact ⟨(nomatch ·), fun _ => h, (nomatch ·)⟩
        · split
          · rename_i h; exact ⟨(nomatch ·), (nomatch ·), fun _ => h⟩
          · exact ⟨(nomatch ·), (nomatch ·), (nomatch ·)⟩
theorem op_wt {w : Str} (h : w ∈ opsW) : w ≠ "" ∧ 2 ≤ wtl w.cps.toList := by
  have : opsW.all (fun w => decide (w ≠ "") && decide (2 ≤ wtl w.cps.toList)) = true := by decide +kernel
  have := List.all_eq_true.mp this w h
  rw [Bool.and_eq_true] at this
  exact ⟨of_decide_eq_true this.1, of_decide_eq_true this.2⟩
theorem dep_app (a b : List PyData) : PyData.depthAll (a ++ b) = max (PyData.depthAll a) (PyData.depthAll b) := by
  induction a with
  | nil => rw [List.nil_append, dep_nil]; omega
  | cons x a ih => rw [List.cons_append, dep_cons, dep_cons, ih]; omega
theorem can_app {a b : List PyData} (ha : PyData.canLayAll0 a = true) (hb : PyData.canLayAll0 b = true) : PyData.canLayAll0 (a ++ b) = true := by
  induction a with
  | nil => exact hb
  | cons x a ih =>
    rw [PyData.canLayAll0, Bool.and_eq_true] at ha
    rw [List.cons_append]
    exact can_cons ha.1 (ih ha.2)
theorem can_inv {d : PyData} {ds : List PyData} (h : PyData.canLayAll0 (d :: ds) = true) : d.canLay0 = true ∧ PyData.canLayAll0 ds = true := by
  rwa [PyData.canLayAll0, Bool.and_eq_true] at h
/-- what is deep behind a reading, twice, and the weight of what is left -/
def DwP (ts : List Tkn) (m : Md) (s : RS) (r : List PyData) (s1 : RS) : Prop :=
  match m with
  | .single => 2 * PyData.depthAll r + psi ts s1.at_ ≤ psi ts s.at_ + 2 ∧ psi ts s1.at_ ≤ psi ts s.at_ ∧ PyData.canLayAll0 r = true
  | .part => 2 * PyData.depthAll r + psi ts s1.at_ ≤ psi ts s.at_ + 2 ∧ psi ts s1.at_ ≤ psi ts s.at_ ∧ PyData.canLayAll0 r = true
  | .parts _ => 2 * PyData.depthAll r + psi ts s1.at_ ≤ psi ts s.at_ + 2 ∧ psi ts s1.at_ ≤ psi ts s.at_ ∧ PyData.canLayAll0 r = true
  | .ops d => d.canLay0 = true → 2 * PyData.depthAll r + psi ts s1.at_ ≤ max (2 * d.depth) 2 + psi ts s.at_ ∧ psi ts s1.at_ ≤ psi ts s.at_ ∧ PyData.canLayAll0 r = true
  | .more ds => PyData.canLayAll0 ds = true → 2 * PyData.depthAll r + psi ts s1.at_ ≤ max (2 * PyData.depthAll ds) 2 + psi ts s.at_ ∧ psi ts s1.at_ ≤ psi ts s.at_ ∧ PyData.canLayAll0 r = true
theorem dep_one (d : PyData) : PyData.depthAll [d] = d.depth := by rw [dep_cons, dep_nil]; omega
theorem can_one {d : PyData} (h : d.canLay0 = true) : PyData.canLayAll0 [d] = true := can_cons h can_nil
theorem dep_dN (n : Nat) : (dN n).depth = 0 := dep_int _
theorem can_dN (n : Nat) : (dN n).canLay0 = true := can_int _
theorem Rd.dw {ts : List Tkn} {m : Md} {s : RS} {r : List PyData} {s1 : RS} (h : Rd ts m s r s1) : DwP ts m s r s1 := by
  have ws : ∀ {w : Str}, w ∈ (["lone", "name", "call", "list", "round", "if", "hole", "op"] : List Str) → (PyData.str w).canLay0 = true := fun {w} hw => can_str (by
    have h : (["lone", "name", "call", "list", "round", "if", "hole", "op"] : List Str).all (fun x => x.cps.toList.all (fun c => decide (c < 1114112))) = true := by decide +kernel
    exact wc_lit (List.all_eq_true.mp h w hw))
  induction h with
  | @lone s k =>
    have := psi_mono ts s.at_
    refine ⟨?_, this, can_one (can_tup (can_cons (ws (by decide +kernel)) (can_cons (can_dN _) can_nil)))⟩
    rw [dep_one, dep_tup, dep_cons, dep_cons, dep_nil, dep_str, dep_dN]
    show 2 * _ + psi ts (s.at_ + 1) ≤ _
    omega
  | @name s k t =>
    have := psi_mono ts s.at_
    refine ⟨?_, this, can_one (can_tup (can_cons (ws (by decide +kernel)) (can_cons (can_dN _) can_nil)))⟩
    rw [dep_one, dep_tup, dep_cons, dep_cons, dep_nil, dep_str, dep_dN]
    show 2 * _ + psi ts (s.at_ + 1) ≤ _
    omega
  | @call s ds s1 k t _ ih =>
    obtain ⟨h1, h2, h3⟩ := ih
    have a := psi_mono ts s.at_
    have b := psi_text t (by decide +kernel)
    rw [show wtl ("(" : Str).cps.toList = 4 from by decide +kernel] at b
    have a : psi ts (step s).at_ ≤ psi ts s.at_ := a
    refine ⟨?_, by omega, can_one (can_tup (can_cons (ws (by decide +kernel)) (can_cons (can_dN _) (can_cons (can_tup h3) can_nil))))⟩
    rw [dep_one, dep_tup, dep_cons, dep_cons, dep_cons, dep_nil, dep_str, dep_dN, dep_tup]
    omega
  | @sq s ds s1 k _ ih =>
    obtain ⟨h1, h2, h3⟩ := ih
    have b := psi_text (kd_text.1 k) (by decide +kernel)
    rw [show wtl ("[" : Str).cps.toList = 4 from by decide +kernel] at b
    refine ⟨?_, by omega, can_one (can_tup (can_cons (ws (by decide +kernel)) (can_cons (can_dN _) (can_cons (can_tup h3) can_nil))))⟩
    rw [dep_one, dep_tup, dep_cons, dep_cons, dep_cons, dep_nil, dep_str, dep_dN, dep_tup]
    omega
  | @rd s d s1 k _ ih =>
    obtain ⟨h1, h2, h3⟩ := ih
    have b := psi_text (kd_text.2.1 k) (by decide +kernel)
    have c := psi_sign ts ")" s1
    rw [show wtl ("(" : Str).cps.toList = 4 from by decide +kernel] at b
    rw [dep_one] at h1
    refine ⟨?_, by omega, can_one (can_tup (can_cons (ws (by decide +kernel)) (can_cons (can_dN _) h3)))⟩
    rw [dep_one, dep_tup, dep_cons, dep_cons, dep_cons, dep_nil, dep_str, dep_dN]
    omega
  | @iff s a b c s1 s2 s3 k _ _ _ i1 i2 i3 =>
    obtain ⟨a1, a2, a3⟩ := i1
    obtain ⟨b1, b2, b3⟩ := i2
    obtain ⟨c1, c2, c3⟩ := i3
    have p := psi_text (kd_text.2.2 k) (by decide +kernel)
    have q1 := psi_sign ts "then" s1
    have q2 := psi_sign ts "else" s2
    rw [show wtl ("if" : Str).cps.toList = 2 from by decide +kernel] at p
    rw [dep_one] at a1 b1 c1
    refine ⟨?_, by omega, can_one (can_tup (can_cons (ws (by decide +kernel)) (can_cons (can_dN _) (can_cons (can_inv a3).1 (can_cons (can_inv b3).1 c3)))))⟩
    rw [dep_one, dep_tup, dep_cons, dep_cons, dep_cons, dep_cons, dep_cons, dep_nil, dep_str, dep_dN]
    omega
  | @hole s k =>
    refine ⟨?_, Nat.le_refl _, can_one (can_tup (can_cons (ws (by decide +kernel)) (can_cons (can_dN _) can_nil)))⟩
    rw [dep_one, dep_tup, dep_cons, dep_cons, dep_nil, dep_str, dep_dN]
    show 2 * _ + psi ts s.at_ ≤ _
    omega
  | part _ _ i1 i2 =>
    obtain ⟨a1, a2, a3⟩ := i1
    obtain ⟨b1, b2, b3⟩ := i2 (can_inv a3).1
    rw [dep_one] at a1
    exact ⟨by omega, by omega, b3⟩
  | opsEnd _ => exact fun hd => ⟨by rw [dep_one]; omega, Nat.le_refl _, can_one hd⟩
  | @opsMore s d d2 s1 d' s2 t _ _ i1 i2 =>
    intro hd
    obtain ⟨a1, a2, a3⟩ := i1
    have w := op_wt t
    have p := psi_text (rfl : textAt ts s = textAt ts s) w.1
    obtain ⟨b1, b2, b3⟩ := i2 (can_tup (can_cons (ws (by decide +kernel)) (can_cons (can_dN _) (can_cons hd a3))))
    rw [dep_one d', dep_tup, dep_cons, dep_cons, dep_cons, dep_cons, dep_nil, dep_str, dep_dN] at b1
    have hdd := dep_one d'
    rw [dep_one] at a1
    exact ⟨by omega, by omega, b3⟩
  | @parts s e d s1 ds s2 _ _ i1 i2 =>
    obtain ⟨a1, a2, a3⟩ := i1
    obtain ⟨b1, b2, b3⟩ := i2 a3
    have q := psi_sign ts e s2
    exact ⟨by omega, by omega, b3⟩
  | moreEnd _ => exact fun hd => ⟨by omega, Nat.le_refl _, hd⟩
  | @moreMore s ds d s1 ds' s2 t _ _ i1 i2 =>
    intro hd
    obtain ⟨a1, a2, a3⟩ := i1
    obtain ⟨b1, b2, b3⟩ := i2 (can_app hd a3)
    have p : psi ts (step s).at_ ≤ psi ts s.at_ := psi_mono ts s.at_
    rw [dep_app] at b1
    exact ⟨by omega, by omega, b3⟩
theorem dw_want (b : Bool) (s : RS) : dpOk (wantD b s) 0 := by
  cases b with
  | true => exact ⟨Nat.le_of_eq (dep_dN _), can_dN _⟩
  | false => exact ⟨by show PyData.none.depth ≤ 0; rw [PyData.depth]; exact Nat.le_refl _, by show PyData.none.canLay0 = true; rw [PyData.canLay0]⟩
theorem dw_param (ts : List Tkn) (s : RS) : dpOk (paramD ts s) 1 := by
  have a := dw_want (isN ts s) s
  have b := dw_want (isK ts (nameS ts s)) (nameS ts s)
  refine ⟨?_, can_tup (can_cons a.2 (can_cons b.2 can_nil))⟩
  unfold paramD
  rw [dep_tup, dep_cons, dep_cons, dep_nil]
  have := a.1
  have := b.1
  omega
theorem psi_param (ts : List Tkn) (s : RS) : psi ts (paramS ts s).at_ ≤ psi ts s.at_ := Nat.le_trans (psi_want ts _ _ _) (psi_want ts _ _ _)
theorem Pm.dw {ts : List Tkn} {ds : List PyData} {s : RS} {r : List PyData} {s1 : RS} (h : Pm ts ds s r s1) : PyData.depthAll ds ≤ 1 → PyData.canLayAll0 ds = true → PyData.depthAll r ≤ 1 ∧ PyData.canLayAll0 r = true ∧ psi ts s1.at_ ≤ psi ts s.at_ := by
  induction h with
  | done _ => exact fun a b => ⟨a, b, Nat.le_refl _⟩
  | @more ds s ds' s' t _ ih =>
    intro a b
    have p := dw_param ts (step s)
    have q := ih (by rw [dep_app, dep_one]; have := p.1; omega) (can_app b (can_one p.2))
    have q1 := psi_param ts (step s)
    have q2 : psi ts (step s).at_ ≤ psi ts s.at_ := psi_mono ts s.at_
    exact ⟨q.1, q.2.1, by omega⟩
theorem Rw.dw {ts : List Tkn} {wd : Str} {s : RS} {d : PyData} {s1 : RS} (h : Rw ts wd s d s1) : dpOk d (psi ts s.at_ / 2 + 3) := by
  have n1 := psi_want ts (isN ts s) "name" s
  have w1 := dw_want (isN ts s) s
  cases h with
  | take => exact ⟨by rw [dep_tup, dep_cons, dep_cons, dep_nil, dep_str]; have := w1.1; omega, can_tup (can_cons (can_str (wc_lit (by decide +kernel))) (can_cons w1.2 can_nil))⟩
  | @lets d5 _ _ rd =>
    have q := psi_sign ts "=" (nameS ts s)
    obtain ⟨a1, a2, a3⟩ := rd.dw
    rw [dep_one] at a1
    have n1 : psi ts (nameS ts s).at_ ≤ psi ts s.at_ := n1
    have e0 := w1.1
    exact ⟨by rw [dep_tup, dep_cons, dep_cons, dep_cons, dep_nil, dep_str]; omega, can_tup (can_cons (can_str (wc_lit (by decide +kernel))) (can_cons w1.2 a3))⟩
  | @defs _ ds s3 d5 _ pm rd =>
    have n1 : psi ts (nameS ts s).at_ ≤ psi ts s.at_ := n1
    have q1 := psi_sign ts "(" (nameS ts s)
    have p := dw_param ts (sign ts "(" (nameS ts s))
    have q2 := psi_param ts (sign ts "(" (nameS ts s))
    obtain ⟨b1, b2, b3⟩ := pm.dw (by rw [dep_one]; exact p.1) (can_one p.2)
    have q3 := psi_sign ts ")" s3
    have q4 := psi_sign ts "=" (sign ts ")" s3)
    obtain ⟨a1, a2, a3⟩ := rd.dw
    rw [dep_one] at a1
    have e0 := w1.1
    exact ⟨by rw [dep_tup, dep_cons, dep_cons, dep_cons, dep_cons, dep_nil, dep_str, dep_tup]; omega, can_tup (can_cons (can_str (wc_lit (by decide +kernel))) (can_cons w1.2 (can_cons (can_tup b2) a3)))⟩
theorem Whole.dw {ts : List Tkn} {d : PyData} {ss : List (Str × Nat × Str)} (h : Whole ts d ss) : dpOk d (psi ts 0 / 2 + 3) := by
  cases h with
  | bare _ => exact ⟨by rw [dep_tup, dep_cons, dep_nil, dep_str]; omega, can_tup (can_cons (can_str (wc_lit (by decide +kernel))) can_nil)⟩
  | odd _ _ => exact ⟨by rw [dep_tup, dep_cons, dep_nil, dep_str]; omega, can_tup (can_cons (can_str (wc_lit (by decide +kernel))) can_nil)⟩
  | row _ r =>
    have := r.dw
    have q : psi ts (step ⟨0, []⟩).at_ ≤ psi ts 0 := psi_mono ts 0
    exact ⟨by have := this.1; omega, this.2⟩
theorem psi_toks : ∀ (n : Nat) (l : List Nat) (k : Nat), l.length ≤ n → psi (toks l k) 0 ≤ wtl l
  | 0, [], _, _ => Nat.le_refl _
  | n + 1, [], _, _ => Nat.le_refl _
  | n + 1, c :: r, k, h => by
    have hr : r.length ≤ n := by rw [List.length_cons] at h; omega
    by_cases e : c = 32
    · subst e
      rw [toks_blank, wtl_cons]
      exact Nat.le_trans (psi_toks n r (k + 1) hr) (Nat.le_add_left _ _)
    · have t := tokAt_len c r
      have ih := psi_toks n ((c :: r).drop (tokAt (c :: r)).2.length) (k + (tokAt (c :: r)).2.length) (by rw [List.length_drop, List.length_cons]; omega)
      have e2 : wtl (c :: r) = wtl (tokAt (c :: r)).2 + wtl ((c :: r).drop (tokAt (c :: r)).2.length) := by
        conv => lhs; rw [← List.take_append_drop (tokAt (c :: r)).2.length (c :: r), wtl_app, t.2.2]
      rw [toks_cons e, e2]
      unfold psi at ih ⊢
      rw [List.drop_zero] at ih ⊢
      rw [List.map_cons, List.sum_cons]
      exact Nat.add_le_add_left ih _
/-- a tree can be compared: the row's signs weigh 122 at most -/
theorem Whole.shaped {l : List Nat} {d : PyData} {ss : List (Str × Nat × Str)} (h : Whole (toks l 0) d ss) (hw : wtl l ≤ 122) : SeqAt.shaped d = true := by
  have := h.dw
  have := psi_toks _ l 0 (Nat.le_refl _)
  unfold SeqAt.shaped
  rw [h.dw.2, Bool.true_and]
  exact decide_eq_true (by have := h.dw.1; omega)
end Tr

set_option maxHeartbeats 4000000
/-! Lb: a row laid out token by token: what is still to be written. -/
namespace Tr
open PySem PySem.Spec PyProof.Rows L2 Gx Tk
def restL (ts : List Tkn) : Nat → List Nat
  | 0 => layL ts
  | i + 1 => match ts[i]? with
    | some t => layF (kt t) ((ts.drop (i + 1)).map kt)
    | none => []
theorem rest_succ (ts : List Tkn) (i : Nat) : restL ts (i + 1) = match ts[i]? with
    | some t => layF (kt t) ((ts.drop (i + 1)).map kt)
    | none => [] := rfl
theorem rest_first {ts : List Tkn} {t : Tkn} (h : ts[0]? = some t) : restL ts 0 = t.2.1.cps.toList ++ restL ts 1 := by
  cases ts with
  | nil => cases h
  | cons a r =>
    cases h
    rfl
theorem rest_next {ts : List Tkn} {i : Nat} {a t : Tkn} (ha : ts[i]? = some a) (ht : ts[i + 1]? = some t) : restL ts (i + 1) = gapL (kt a) (kt t) ++ (t.2.1.cps.toList ++ restL ts (i + 2)) := by
  obtain ⟨hn, e⟩ := List.getElem?_eq_some_iff.mp ht
  have e1 : restL ts (i + 1) = layF (kt a) ((ts.drop (i + 1)).map kt) := by rw [rest_succ, ha]
  have e2 : restL ts (i + 2) = layF (kt t) ((ts.drop (i + 2)).map kt) := by rw [show i + 2 = (i + 1) + 1 from rfl, rest_succ, ht]
  rw [e1, e2, List.drop_eq_getElem_cons hn, e, List.map_cons]
  rfl
theorem rest_end (ts : List Tkn) : restL ts ts.length = [] := by
  cases h : ts.length with
  | zero => rw [List.eq_nil_of_length_eq_zero h]; rfl
  | succ n =>
    rw [rest_succ]
    cases e : ts[n]? with
    | none => rfl
    | some t => rw [List.drop_of_length_le (by omega)]; rfl
/-- how long it may come to be -/
theorem layF_len : ∀ (p : Str × Str) (r : List (Str × Str)), (layF p r).length ≤ ((r.map fun a => a.2.cps.toList.length).sum) + r.length
  | _, [] => Nat.le_refl _
  | p, a :: r => by
    have := layF_len a r
    have hg : (gapL p a).length ≤ 1 := by unfold gapL; split <;> simp
    show (gapL p a ++ (a.2.cps.toList ++ layF a r)).length ≤ _
    rw [List.length_append, List.length_append, List.map_cons, List.sum_cons, List.length_cons]
    omega
theorem layK_len (r : List (Str × Str)) : (layK r).length ≤ ((r.map fun a => a.2.cps.toList.length).sum) + r.length := by
  cases r with
  | nil => exact Nat.le_refl _
  | cons a r =>
    have := layF_len a r
    show (a.2.cps.toList ++ layF a r).length ≤ _
    rw [List.length_append, List.map_cons, List.sum_cons, List.length_cons]
    omega
theorem toks_sum : ∀ (n : Nat) (l : List Nat) (k : Nat), l.length ≤ n → ((toks l k).map fun t => t.2.1.cps.toList.length).sum ≤ l.length
  | 0, [], _, _ => Nat.le_refl _
  | n + 1, [], _, _ => Nat.le_refl _
  | n + 1, c :: r, k, h => by
    have hr : r.length ≤ n := by rw [List.length_cons] at h; omega
    by_cases e : c = 32
    · subst e
      rw [toks_blank, List.length_cons]
      exact Nat.le_succ_of_le (toks_sum n r (k + 1) hr)
    · have t := tokAt_len c r
      have ih := toks_sum n ((c :: r).drop (tokAt (c :: r)).2.length) (k + (tokAt (c :: r)).2.length) (by rw [List.length_drop, List.length_cons]; omega)
      rw [toks_cons e, List.map_cons, List.sum_cons]
      rw [List.length_drop, List.length_cons] at ih
      rw [List.length_cons]
      have : (SX.S (tokAt (c :: r)).2).cps.toList = (tokAt (c :: r)).2 := rfl
      dsimp only
      omega
theorem lay_len (l : List Nat) (k : Nat) : (layL (toks l k)).length ≤ 2 * l.length := by
  have a := layK_len ((toks l k).map kt)
  have b := toks_sum _ l k (Nat.le_refl _)
  have c := toks_many _ l k (Nat.le_refl _)
  rw [List.map_map, List.length_map] at a
  have e : ((fun a : Str × Str => a.2.cps.toList.length) ∘ kt) = fun t : Tkn => t.2.1.cps.toList.length := rfl
  rw [e] at a
  show (layK _).length ≤ _
  omega
end Tr

set_option maxHeartbeats 4000000
namespace K12
open PySem PySem.Spec PyProof.Rows L2 Gx Tk Tr
variable {P : Program} {w : World} {K : PySem.W.Frag} {mg : Str → Option Value} {base : Heap}
theorem ap_yes {a b : Str × Str} (h : a.2 ∈ (["(", "["] : List Str) ∨ b.2 ∈ ([")", "]", ","] : List Str)) : apartB a b = false := by
  simp only [List.mem_cons, List.not_mem_nil, or_false] at h
  unfold apartB
  rw [if_pos (by rcases h with (h | h) | h | h | h <;> simp [h])]
theorem ap_no {a b : Str × Str} (h : a.2 ∉ (["(", "["] : List Str)) (h' : b.2 ∉ ([")", "]", ","] : List Str)) : apartB a b = decide (¬ (a.1 = "name" ∧ b.2 = "(")) := by
  simp only [List.mem_cons, List.not_mem_nil, or_false, not_or] at h h'
  unfold apartB
  rw [if_neg (by simp [h, h'])]
theorem pget {α : Type} {F : Addr → α → Prop} : ∀ {as : List Addr} {ts : List α} {i : Nat} {a : Addr}, Paired F as ts → as[i]? = some a → ∃ t, ts[i]? = some t ∧ F a t
  | _, _, _, _, .nil, h => by simp at h
  | _, _, 0, _, .cons h t, e => by
    simp only [List.getElem?_cons_zero, Option.some.injEq] at e
    subst e
    exact ⟨_, rfl, h⟩
  | _, _, i + 1, _, .cons h t, e => by
    rw [List.getElem?_cons_succ] at e
    obtain ⟨x, h1, h2⟩ := pget t e
    exact ⟨x, by rw [List.getElem?_cons_succ]; exact h1, h2⟩
theorem map_get {as : List Addr} {i : Nat} {y : V} (h : (as.map V.ref)[i]? = some y) : ∃ a, y = .ref a ∧ as[i]? = some a := by
  rw [List.getElem?_map] at h
  cases e : as[i]? with
  | none => rw [e] at h; cases h
  | some a => rw [e] at h; exact ⟨a, (Option.some.inj h).symm, rfl⟩
theorem join0 (ys : List Str) : (Txt.join "" ys).cps.toList = (ys.map fun z => z.cps.toList).flatten := by
  rw [TL.join_eq]
  show TL.tl _ = _
  rw [TL.tl_join]
  exact joinL0 _
theorem flat_sum (ys : List Str) : (ys.map (·.length)).sum = ((ys.map fun z => z.cps.toList).flatten).length := by
  rw [List.length_flatten, List.map_map]
  congr 1
def sp_apart : Sp := fun vs H Q _ => ∃ (pa pb : Addr) (a b : Tkn), vs = [.ref pa, .ref pb] ∧ TokAt H pa a ∧ TokAt H pb b ∧ ∀ H', Same H H' → Q (.bl (apartB (kt a) (kt b))) H'
theorem ok_apart (T : Facts K mg w) : FnG P w K mg base 1 T.f_apart T.d_apart ["left", "right"] sp_apart := by
  refine fnG_of T.F_apart sc_apart (fun vs H Q E h => ?_) (fun cdv A outer s H vs Q hG hr h => ?_)
  · obtain ⟨_, _, _, _, rfl, _⟩ := h; rfl
  · obtain ⟨pa, pb, a, b, rfl, ha, hb, q⟩ := h
    refine ⟨_, (pss_cons (ps_if (PW.pt (pw_or (pt_cmpR op_in_seq (pe_ix ix_tup (pv 0) pe_int (fun _ _ => rfl)) (pe_tup (pa_cons pe_str (pa_cons pe_str pa_nil))) rfl) (pw_or1 (pt_cmpR op_in_seq (pe_ix ix_tup (pv 1) pe_int (fun _ _ => rfl)) (pe_tup (pa_cons pe_str (pa_cons pe_str (pa_cons pe_str pa_nil)))) rfl)))) (pss_one (ps_ret pe_bl)) pss_nil)
        (pss_one (ps_ret (pe_or (pe_cmpR op_ne (pe_ix ix_tup (pv 0) pe_int (fun _ _ => rfl)) pe_str (nomark _)) (pe_one (pe_cmpR op_ne (pe_ix ix_tup (pv 1) pe_int (fun _ _ => rfl)) pe_str (nomark _))))))), ?_⟩
    refine ⟨_, rfl, pa, _, _, _, rfl, rfl, SqT.of ha, atI_nat (j := 1) rfl, ?_⟩
    refine ⟨by show 2 ≤ sizeLine; decide, fun p1 hp1 => ?_⟩
    have s1 := same_new (o := .tup [.str "(", .str "["]) hp1
    have e1 : (upd H p1 (.tup [.str "(", .str "["])) p1 = some (.tup ((["(", "["] : List Str).map V.str)) := upd_same
    generalize upd H p1 (.tup [.str "(", .str "["]) = H1 at s1 e1 ⊢
    refine in_strs e1 ?_
    refine ⟨_, rfl, ite2 (fun h0 => ?_) (fun h0 => ?_)⟩
    · refine (?_ : Q _ _)
      rw [← ap_yes (a := kt a) (b := kt b) (.inl (of_decide_eq_true h0))]
      exact q _ s1
    refine ⟨_, rfl, pb, _, _, _, rfl, rfl, SqT.of (s1 _ _ hb), atI_nat (j := 1) rfl, ?_⟩
    refine ⟨by show 3 ≤ sizeLine; decide, fun p2 hp2 => ?_⟩
    have s2 := same_new (o := .tup [.str ")", .str "]", .str ","]) hp2
    have e2 : (upd H1 p2 (.tup [.str ")", .str "]", .str ","])) p2 = some (.tup (([")", "]", ","] : List Str).map V.str)) := upd_same
    generalize upd H1 p2 (.tup [.str ")", .str "]", .str ","]) = H2 at s2 e2 ⊢
    have sm := s1.trans s2
    refine in_strs e2 ?_
    refine ⟨_, rfl, ite2 (fun h1 => ?_) (fun h1 => ?_)⟩
    · refine (?_ : Q _ _)
      rw [← ap_yes (a := kt a) (b := kt b) (.inr (of_decide_eq_true h1))]
      exact q _ sm
    have h0 : (kt a).2 ∉ (["(", "["] : List Str) := fun e => h0 (decide_eq_true e)
    have h1 : (kt b).2 ∉ ([")", "]", ","] : List Str) := fun e => h1 (decide_eq_true e)
    have en := ap_no h0 h1
    have q := q _ sm
    rw [en] at q
    refine ⟨_, rfl, pa, _, _, _, rfl, rfl, SqT.of (sm _ _ ha), atI_nat (j := 0) rfl, ?_⟩
    have ev : ∀ x y : Str, decide (V.str x = V.str y) = decide (x = y) := fun x y => decide_eq_decide.mpr ⟨fun h => V.str.inj h, fun h => congrArg V.str h⟩
    refine ⟨rfl, _, rfl, ?_⟩
    rw [ev]
    by_cases h2 : a.1 = "name"
    · rw [decide_eq_true h2]
      refine ⟨_, rfl, pb, _, _, _, rfl, rfl, SqT.of (sm _ _ hb), atI_nat (j := 1) rfl, rfl, ?_⟩
      rw [ev]
      have e9 : decide (¬ ((kt a).1 = "name" ∧ (kt b).2 = "(")) = !decide (b.2.1 = "(") := by
        by_cases h3 : b.2.1 = "(" <;> simp [kt, h2, h3]
      rw [e9] at q
      exact q
    · rw [decide_eq_false h2]
      have e9 : decide (¬ ((kt a).1 = "name" ∧ (kt b).2 = "(")) = true := decide_eq_true fun h => h2 h.1
      rw [e9] at q
      exact q
def sp_joined : Sp := fun vs H Q _ => ∃ (p : Addr) (l : List Nat), vs = [.ref p] ∧ l.length ≤ 60 ∧ TokL H p (toks l 0) ∧ ∀ (x : Str) H', x.cps.toList = layL (toks l 0) → Same H H' → Q (.str x) H'
theorem ok_joined (T : Facts K mg w) : FnG P w K mg base 2 T.f_joined T.d_joined ["found"] sp_joined := by
  refine fnG_of T.F_joined sc_joined (fun vs H Q E h => ?_) (fun cdv A outer s H vs Q hG hr h => ?_)
  · obtain ⟨_, _, rfl, _⟩ := h; rfl
  · obtain ⟨p, l, rfl, hl60, tl, q⟩ := h
    refine ⟨_, (pss_cons (ps_set (i := 1) sc_joined.nd rfl (.inl rfl) (pe_lst pa_nil))
        (pss_cons (ps_for PassesOwn.never rfl (pi_enum (by rfl) T.n_enumerate (pa_cons (pv 0) pa_nil)) (pg_tup rfl (pgs_cons (pg_name (i := 2) sc_joined.nd rfl (.inl rfl)) (pgs_cons (pg_name (i := 3) sc_joined.nd rfl (.inl rfl)) pgs_nil))) (pss_cons (ps_if (PW.pt (pw_and (pt_cmpR op_gt (pv 2) pe_int (nomark _)) (pw_and1 (pt_val (pe_go (ok_apart T) hG (hr.mono (by decide)) (by rfl) T.g_apart T.F_apart.kp T.b_apart (pa_cons (pe_ix ix_list (pv 0) (pe_op op_sub (pv 2) pe_int) (fun _ _ => rfl)) (pa_cons (pv 3) pa_nil))))))) (pss_one (ps_expr (pe_bm PySem.F.plainAttrs_list PySem.F.slot_list_append PySem.F.type_list_append mt_append (pv 1) (pa_cons pe_str pa_nil)))) pss_nil)
        (pss_one (ps_expr (pe_bm PySem.F.plainAttrs_list PySem.F.slot_list_append PySem.F.type_list_append mt_append (pv 1) (pa_cons (pe_ix ix_tup (pv 3) pe_int (fun _ _ => rfl)) pa_nil))))))
        (pss_one (ps_ret (pe_join pe_str (pv 1)))))), ?_⟩
    have hsl : (5000000 : Nat) ≤ sizeLine := by decide
    have hm := toks_many _ l 0 (Nat.le_refl _)
    have hll := lay_len l 0
    generalize toks l 0 = ts at hm hll q tl
    refine ⟨by show 0 ≤ sizeLine; decide, fun p1 hp1 => ?_⟩
    have s1 := same_new (o := .lst []) hp1
    have e1 : (upd H p1 (.lst [])) p1 = some (.lst (([] : List Str).map V.str)) := upd_same
    generalize upd H p1 (.lst []) = H1 at s1 e1 ⊢
    obtain ⟨as, ea, pr⟩ := tl
    have hla : as.length = ts.length := pr.length
    have ea1 := s1 _ _ ea
    refine ⟨_, rfl, p, _, rfl, SqL.of ea1, ?_⟩
    refine for_it (walk_enum (K := K) (a := p) (xs := as.map V.ref)) (fun i σ H' => ∃ (ps : List Str) (y2 y3 : Option V), σ = [some (.ref p), some (.ref p1), y2, y3] ∧ H' p1 = some (.lst (ps.map V.str)) ∧ (ps.map fun z => z.cps.toList).flatten ++ restL ts i = layL ts ∧ ps.length ≤ 2 * i ∧ Same H H')
      ⟨[], none, none, rfl, e1, rfl, Nat.le_refl _, s1⟩ (fun i σ H' _ hP => ?_) (fun i v σ H2 H3 hi hP hy => ?_) (fun σ H2 hP => ?_)
    · obtain ⟨_, _, _, _, _, _, _, sm⟩ := hP; exact SqL.of (sm _ _ ea)
    · obtain ⟨ps, y2, y3, rfl, ep, hfl, hpl, sm⟩ := hP
      obtain ⟨t, x, y, rfl, ht, rfl, e3, e4⟩ := hy
      have ex : x = .int (i : Nat) := (Option.some.inj e3).symm
      obtain ⟨a, rfl, hga⟩ := map_get e4
      obtain ⟨tk, htk, hat⟩ := pget pr hga
      subst ex
      have smT := sm.trans (same_new (o := .tup [.int (i : Nat), .ref a]) ht)
      have hp1t : p1 ≠ t := ne_of_none ep ht
      have ept := (upd_ne (H := H2) (o := .tup [.int (i : Nat), .ref a]) hp1t).trans ep
      have et : (upd H2 t (.tup [.int (i : Nat), .ref a])) t = some (.tup [.int (i : Nat), .ref a]) := upd_same
      generalize upd H2 t (.tup [.int (i : Nat), .ref a]) = H3 at smT ept et ⊢
      have hi' : i < ts.length := by rw [← hla]; rw [List.length_map] at hi; exact hi
      refine ⟨t, _, rfl, SqT.of et, rfl, ?_⟩
      have ha3 : TokAt H3 a tk := smT _ _ hat
      refine ⟨_, _, rfl, _, _, rfl, rfl, ?_⟩
      refine seq_viaR (fun σ' H' => ∃ ps' : List Str, σ' = [some (.ref p), some (.ref p1), some (.int (i : Nat)), some (.ref a)] ∧ H' p1 = some (.lst (ps'.map V.str)) ∧ (ps'.map fun z => z.cps.toList).flatten ++ (tk.2.1.cps.toList ++ restL ts (i + 1)) = layL ts ∧ ps'.length ≤ 2 * i + 1 ∧ Same H H') (fun D' kk => ?_) (fun σ' H' hP => ?_)
      · refine ⟨_, rfl, _, _, rfl, rfl, _, rfl, ?_⟩
        cases i with
        | zero =>
          rw [rest_first htk] at hfl
          exact kk _ _ ⟨ps, rfl, ept, hfl, by omega, smT⟩
        | succ j =>
          rw [if_pos (decide_eq_true (by omega))]
          obtain ⟨b, hgb⟩ : ∃ b, as[j]? = some b := ⟨_, List.getElem?_eq_getElem (by omega)⟩
          obtain ⟨tb, htb, hbt⟩ := pget pr hgb
          rw [rest_next htb htk] at hfl
          refine ⟨_, rfl, _, rfl, _, _, rfl, rfl, p, _, _, .ref b, rfl, rfl, SqL.of (smT _ _ ea), ?_, _, rfl, b, a, tb, tk, rfl, smT _ _ hbt, ha3, fun H4 s4 => ?_⟩
          · rw [show (((j + 1 : Nat)) : Int) - 1 = ((j : Nat) : Int) by omega]
            refine atI_nat ?_
            rw [List.getElem?_map, hgb]; rfl
          refine ⟨_, rfl, ite2 (fun hb => ?_) (fun hb => ?_)⟩
          · unfold gapL at hfl
            rw [if_pos hb] at hfl
            have ep4 := s4 _ _ ept
            refine ⟨_, rfl, .inl ⟨rfl, _, SqL.of ep4⟩, p1, _, _, rfl, rfl, ep4, by rw [List.length_map]; omega, ?_⟩
            refine kk _ _ ⟨ps ++ ([" "] : List Str), rfl, by rw [upd_same, List.map_append]; rfl, ?_, by rw [List.length_append, List.length_singleton]; omega, same_at (smT.trans s4) hp1⟩
            rw [List.map_append, List.flatten_append, List.append_assoc]
            exact hfl
          · unfold gapL at hfl
            rw [if_neg hb] at hfl
            exact kk _ _ ⟨ps, rfl, s4 _ _ ept, hfl, by omega, smT.trans s4⟩
      · obtain ⟨ps', rfl, ep', hfl', hpl', sm'⟩ := hP
        refine ⟨_, rfl, .inl ⟨rfl, _, SqL.of ep'⟩, _, rfl, a, _, _, _, rfl, rfl, SqT.of (sm' _ _ hat), atI_nat (j := 1) rfl, p1, _, _, rfl, rfl, ep', by rw [List.length_map]; omega, ?_⟩
        refine ⟨ps' ++ [tk.2.1], _, _, rfl, by rw [upd_same, List.map_append]; rfl, ?_, by rw [List.length_append, List.length_singleton]; omega, same_at sm' hp1⟩
        rw [List.map_append, List.flatten_append, List.append_assoc]
        exact (by simpa using hfl')
    · obtain ⟨ps, y2, y3, rfl, ep, hfl, hpl, sm⟩ := hP
      rw [List.length_map, hla, rest_end, List.append_nil] at hfl
      rw [List.length_map, hla] at hpl
      refine ⟨⟨"", rfl⟩, _, rfl, "", p1, ps, rfl, rfl, .inl (SqL.of ep), ?_, ?_⟩
      · rw [flat_sum, hfl, show ("" : Str).length = 0 from by decide +kernel]; omega
      · exact q _ _ ((join0 ps).trans hfl) sm
end K12

set_option maxHeartbeats 4000000
namespace K12
open PySem PySem.Spec PyProof.Rows L2 Gx Tk Tr
variable {P : Program} {w : World} {K : PySem.W.Frag} {mg : Str → Option Value} {base : Heap}
def sp_laid : Sp := fun vs H Q _ => ∃ x : Str, vs = [.str x] ∧ x.length ≤ 60 ∧ ∀ (y : Str) d ss H', Whole (toks x.cps.toList 0) d ss → y.cps.toList = laidL x.cps.toList ss → Same H H' → Q (.str y) H'
theorem ok_laid (T : Facts K mg w) : FnG P w K mg base 191 T.f_laid T.d_laid ["row"] sp_laid := by
  obtain ⟨tS, c_MOST_SIGNS⟩ := T.c_MOST_SIGNS
  refine fnG_of (k := 190) T.F_laid sc_laid (fun vs H Q E h => ?_) (fun cdv A outer s H vs Q hG hr h => ?_)
  · obtain ⟨_, rfl, _⟩ := h; rfl
  · obtain ⟨x, rfl, hx, q⟩ := h
    refine ⟨_, (pss_cons (ps_if (pt_truth (pe_go (ok_stops T) hG (hr.mono (by decide)) (by rfl) T.g_stops T.F_stops.kp T.b_stops (pa_cons (pv 0) pa_nil)) (by intro _; rfl)) (pss_one (ps_ret (pv 0))) pss_nil)
        (pss_cons (ps_set (i := 1) sc_laid.nd rfl (.inl rfl) (pe_go (ok_joined T) hG (hr.mono (by decide)) (by rfl) T.g_joined T.F_joined.kp T.b_joined (pa_cons (pe_go (ok_tokens T) hG (hr.mono (by decide)) (by rfl) T.g_tokens T.F_tokens.kp T.b_tokens (pa_cons (pv 0) pa_nil)) pa_nil)))
        (pss_one (ps_ret (pe_ifExp (pt_cmpR op_le (pe_callB call_len_str (by rfl) T.n_len PySem.boot_len (pa_cons (pv 1) pa_nil)) (pe_glob (v := .int 60) rfl c_MOST_SIGNS ⟨_, rfl⟩) (nomark _)) (pv 1) (pv 0)))))), ?_⟩
    have hR : x.cps.toList.length = x.length := Array.length_toList
    have hm := toks_many _ x.cps.toList 0 (Nat.le_refl _)
    refine ⟨_, rfl, x, rfl, hx, fun sl d ss H1 _ wh sL s1 => ?_⟩
    obtain ⟨as, ea, pr⟩ := sL
    have hla : as.length = ss.length := pr.length
    refine ⟨_, .inl ⟨_, SqL.of ea, rfl⟩, ?_⟩
    refine ite2 (fun h0 => ?_) (fun h0 => ?_)
    · have hne : ss ≠ [] := fun e => by
        rw [e] at hla
        rw [List.eq_nil_of_length_eq_zero hla] at h0
        exact absurd h0 (by decide)
      exact ⟨_, rfl, q x d ss H1 wh (by unfold laidL; rw [if_neg hne]) s1⟩
    have hnil : ss = [] := by
      cases as with
      | nil => exact List.eq_nil_of_length_eq_zero hla.symm
      | cons _ _ => exact absurd rfl h0
    subst hnil
    refine ⟨_, rfl, x, rfl, by omega, fun p H2 hp s2 tl => ?_⟩
    refine ⟨p, x.cps.toList, rfl, by omega, tl, fun y H3 hy s3 => ?_⟩
    have hyl : y.length ≤ 120 := by
      have a := lay_len x.cps.toList 0
      rw [← hy] at a
      have b : y.cps.toList.length = y.length := Array.length_toList
      omega
    have hsl : (5000000 : Nat) ≤ sizeLine := by decide
    have e : (layL (toks x.cps.toList 0)).length = y.length := by rw [← hy]; exact Array.length_toList
    have sm := (s1.trans s2).trans s3
    refine ⟨_, rfl, y, rfl, by omega, _, _, rfl, rfl, _, rfl, ?_⟩
    dsimp only
    by_cases h : y.length ≤ 60
    · rw [if_pos (decide_eq_true (by omega))]
      exact ⟨_, rfl, q y d [] H3 wh (by unfold laidL; rw [if_pos rfl, e, if_pos h]; exact hy) sm⟩
    · rw [if_neg (by rw [decide_eq_false (by omega)]; decide)]
      exact ⟨_, rfl, q x d [] H3 wh (by unfold laidL; rw [if_pos rfl, e, if_neg h]) sm⟩
end K12

set_option maxHeartbeats 4000000
/-! Ts: how deep a tree is. -/
namespace Tr
open PySem PySem.Spec PyProof.Rows L2 Gx Tk
theorem Sm.mono : ∀ {n m : Nat} {d : PyData}, Sm n d → n ≤ m → Sm m d
  | 0, _, _, h, _ => h.elim
  | n + 1, 0, _, _, hm => by omega
  | n + 1, m + 1, d, h, hm => by
    rcases h with rfl | ⟨i, rfl⟩ | ⟨x, rfl⟩ | ⟨ds, hd, hl, ha⟩
    · exact .inl rfl
    · exact .inr (.inl ⟨i, rfl⟩)
    · exact .inr (.inr (.inl ⟨x, rfl⟩))
    · exact .inr (.inr (.inr ⟨ds, hd, hl, fun e he => Sm.mono (ha e he) (by omega)⟩))
theorem Sm.str (x : Str) (n : Nat) : Sm (n + 1) (.str x) := .inr (.inr (.inl ⟨x, rfl⟩))
theorem Sm.num (i : Int) (n : Nat) : Sm (n + 1) (.int i) := .inr (.inl ⟨i, rfl⟩)
theorem Sm.tup {n : Nat} {ds : List PyData} (hl : ds.length ≤ 1000) (h : ∀ e ∈ ds, Sm n e) : Sm (n + 1) (.tuple ds) := .inr (.inr (.inr ⟨ds, .inr rfl, hl, h⟩))
/-- what a reading may tell, by the tokens that it took -/
def SmR (ts : List Tkn) : Md → RS → List PyData → RS → Prop
  | .single, s, r, s1 => ∀ d ∈ r, Sm (2 * (s1.at_ - s.at_) + 2) d
  | .part, s, r, s1 => ∀ d ∈ r, Sm (2 * (s1.at_ - s.at_) + 2) d
  | .ops d0, s, r, s1 => ∀ k, 2 ≤ k → Sm k d0 → ∀ d ∈ r, Sm (k + 2 * (s1.at_ - s.at_)) d
  | .parts _, s, r, s1 => r.length ≤ 1 + (s1.at_ - s.at_) ∧ ∀ d ∈ r, Sm (2 * (s1.at_ - s.at_) + 2) d
  | .more ds, s, r, s1 => ∀ k, 2 ≤ k → (∀ d ∈ ds, Sm k d) → r.length ≤ ds.length + (s1.at_ - s.at_) ∧ ∀ d ∈ r, Sm (k + 2 * (s1.at_ - s.at_)) d
theorem sign_at (ts : List Tkn) (e : Str) (s : RS) : s.at_ ≤ (sign ts e s).at_ := by
  unfold sign
  split
  · exact Nat.le_succ _
  · exact Nat.le_refl _
theorem Rd.at_le {ts : List Tkn} {m : Md} {s : RS} {r : List PyData} {s1 : RS} (h : Rd ts m s r s1) : s.at_ ≤ s1.at_ := by
  induction h with
  | lone _ => exact Nat.le_succ _
  | name _ _ => exact Nat.le_succ _
  | call _ _ _ ih => have : _ + 1 + 1 ≤ _ := ih; omega
  | sq _ _ ih => have : _ + 1 ≤ _ := ih; omega
  | @rd s d s1 _ _ ih => have : _ + 1 ≤ _ := ih; have := sign_at ts ")" s1; omega
  | @iff s a b c s1 s2 s3 _ _ _ _ i1 i2 i3 =>
    have : _ + 1 ≤ _ := i1
    have h1 := sign_at ts "then" s1
    have h2 := sign_at ts "else" s2
    omega
  | hole _ => exact Nat.le_refl _
  | part _ _ i1 i2 => omega
  | opsEnd _ => exact Nat.le_refl _
  | opsMore _ _ _ i1 i2 => have : _ + 1 ≤ _ := i1; omega
  | @parts s e d s1 ds s2 _ _ i1 i2 => have := sign_at ts e s2; omega
  | moreEnd _ => exact Nat.le_refl _
  | moreMore _ _ _ i1 i2 => have : _ + 1 ≤ _ := i1; omega
theorem Rd.sm {ts : List Tkn} {m : Md} {s : RS} {r : List PyData} {s1 : RS} (hts : ts.length ≤ 60) (h : Rd ts m s r s1) : s1.at_ ≤ s.at_ + 900 → SmR ts m s r s1 := by
  have t2 : ∀ {n : Nat} {x : Str} {i : Nat}, 2 ≤ n → Sm n (.tuple [.str x, dN i]) := fun {n x i} hn => by
    obtain ⟨k, rfl⟩ : ∃ k, n = k + 2 := ⟨n - 2, by omega⟩
    refine Sm.tup (by show 2 ≤ 1000; decide) fun e he => ?_
    simp only [List.mem_cons, List.not_mem_nil, or_false] at he
    rcases he with rfl | rfl
    · exact Sm.str _ _
    · exact Sm.num _ _
  have t3 : ∀ {n : Nat} {x : Str} {i : Nat} {d : PyData}, Sm n d → 1 ≤ n → Sm (n + 1) (.tuple [.str x, dN i, d]) := fun {n x i d} hd hn => by
    obtain ⟨k, rfl⟩ : ∃ k, n = k + 1 := ⟨n - 1, by omega⟩
    refine Sm.tup (by show 3 ≤ 1000; decide) fun e he => ?_
    simp only [List.mem_cons, List.not_mem_nil, or_false] at he
    rcases he with rfl | rfl | rfl
    · exact Sm.str _ _
    · exact Sm.num _ _
    · exact hd
  induction h with
  | lone _ => intro _ d hd; rw [List.mem_singleton.mp hd]; exact t2 (by omega)
  | name _ _ => intro _ d hd; rw [List.mem_singleton.mp hd]; exact t2 (by omega)
  | @call s ds s1 _ _ hr ih =>
    intro hb d hd
    rw [List.mem_singleton.mp hd]
    have hle : s.at_ + 1 + 1 ≤ s1.at_ := hr.at_le
    have := ih (by show s1.at_ ≤ s.at_ + 1 + 1 + 900; omega)
    have e : (step (step s)).at_ = s.at_ + 2 := rfl
    obtain ⟨h1, h2⟩ := this
    rw [e] at h1 h2
    exact Sm.mono (t3 (Sm.tup (by omega) h2) (by omega)) (by omega)
  | @sq s ds s1 _ hr ih =>
    intro hb d hd
    rw [List.mem_singleton.mp hd]
    have hle : s.at_ + 1 ≤ s1.at_ := hr.at_le
    have := ih (by show s1.at_ ≤ s.at_ + 1 + 900; omega)
    have e : (step s).at_ = s.at_ + 1 := rfl
    obtain ⟨h1, h2⟩ := this
    rw [e] at h1 h2
    have h3 := t3 (x := "list") (i := s.at_) (Sm.tup (by omega) h2) (by omega)
    exact Sm.mono h3 (by omega)
  | @rd s d0 s1 _ hr ih =>
    intro hb d hd
    rw [List.mem_singleton.mp hd]
    have hle : s.at_ + 1 ≤ s1.at_ := hr.at_le
    have hs := sign_at ts ")" s1
    have := ih (by show s1.at_ ≤ s.at_ + 1 + 900; omega) d0 List.mem_cons_self
    have e : (step s).at_ = s.at_ + 1 := rfl
    rw [e] at this
    exact Sm.mono (t3 this (by omega)) (by omega)
  | @iff s a b c s1 s2 s3 _ h1 h2 h3 i1 i2 i3 =>
    intro hb d hd
    rw [List.mem_singleton.mp hd]
    have l1 : s.at_ + 1 ≤ s1.at_ := h1.at_le
    have l2 := h2.at_le
    have l3 := h3.at_le
    have g1 := sign_at ts "then" s1
    have g2 := sign_at ts "else" s2
    have e : (step s).at_ = s.at_ + 1 := rfl
    have j1 := i1 (by rw [e]; omega) a List.mem_cons_self
    have j2 := i2 (by omega) b List.mem_cons_self
    have j3 := i3 (by omega) c List.mem_cons_self
    rw [e] at j1
    obtain ⟨k, hk⟩ : ∃ k, 2 * (s3.at_ - s.at_) + 2 = k + 2 := ⟨_, rfl⟩
    rw [hk]
    refine Sm.tup (by show 5 ≤ 1000; decide) fun e he => ?_
    simp only [List.mem_cons, List.not_mem_nil, or_false] at he
    rcases he with rfl | rfl | rfl | rfl | rfl
    · exact Sm.str _ _
    · exact Sm.num _ _
    · exact Sm.mono j1 (by omega)
    · exact Sm.mono j2 (by omega)
    · exact Sm.mono j3 (by omega)
  | hole _ => intro _ d hd; rw [List.mem_singleton.mp hd]; exact t2 (by omega)
  | @part s d s1 d' s2 h1 h2 i1 i2 =>
    intro hb e he
    have l1 := h1.at_le
    have l2 := h2.at_le
    have j1 := i1 (by omega) d List.mem_cons_self
    exact Sm.mono (i2 (by omega) _ (by omega) j1 e he) (by omega)
  | opsEnd _ => intro _ k hk hd e he; rw [List.mem_singleton.mp he]; exact Sm.mono hd (by omega)
  | @opsMore s d d2 s1 d' s2 _ h1 h2 i1 i2 =>
    intro hb k hk hd e he
    have l1 : s.at_ + 1 ≤ s1.at_ := h1.at_le
    have l2 := h2.at_le
    have ee : (step s).at_ = s.at_ + 1 := rfl
    have j1 := i1 (by rw [ee]; omega) d2 List.mem_cons_self
    rw [ee] at j1
    have hop : Sm (k + 2 * (s1.at_ - s.at_)) (.tuple [.str "op", dN s.at_, d, d2]) := by
      obtain ⟨n, hn⟩ : ∃ n, k + 2 * (s1.at_ - s.at_) = n + 1 + 1 := ⟨k + 2 * (s1.at_ - s.at_) - 2, by omega⟩
      rw [hn]
      refine Sm.tup (by show 4 ≤ 1000; decide) fun z hz => ?_
      simp only [List.mem_cons, List.not_mem_nil, or_false] at hz
      rcases hz with rfl | rfl | rfl | rfl
      · exact Sm.str _ _
      · exact Sm.num _ _
      · exact Sm.mono hd (by omega)
      · exact Sm.mono j1 (by omega)
    exact Sm.mono (i2 (by omega) _ (by omega) hop e he) (by omega)
  | @parts s e0 d s1 ds s2 h1 h2 i1 i2 =>
    intro hb
    have l1 := h1.at_le
    have l2 := h2.at_le
    have g := sign_at ts e0 s2
    have j1 := i1 (by omega) d List.mem_cons_self
    have j2 := i2 (by omega) (2 * (s1.at_ - s.at_) + 2) (by omega) (fun z hz => by rw [List.mem_singleton.mp hz]; exact j1)
    refine ⟨by have := j2.1; rw [List.length_singleton] at this; omega, fun z hz => Sm.mono (j2.2 z hz) (by omega)⟩
  | moreEnd _ => intro _ k hk hd; exact ⟨by omega, fun e he => Sm.mono (hd e he) (by omega)⟩
  | @moreMore s ds d s1 ds' s2 _ h1 h2 i1 i2 =>
    intro hb k hk hd
    have l1 : s.at_ + 1 ≤ s1.at_ := h1.at_le
    have l2 := h2.at_le
    have ee : (step s).at_ = s.at_ + 1 := rfl
    have j1 := i1 (by rw [ee]; omega) d List.mem_cons_self
    rw [ee] at j1
    have j2 := i2 (by omega) (k + 2 * (s1.at_ - s.at_)) (by omega) (fun z hz => by
      rcases List.mem_append.mp hz with h | h
      · exact Sm.mono (hd z h) (by omega)
      · rw [List.mem_singleton.mp h]; exact Sm.mono j1 (by omega))
    refine ⟨by have := j2.1; rw [List.length_append, List.length_singleton] at this; omega, fun z hz => Sm.mono (j2.2 z hz) (by omega)⟩
end Tr

set_option maxHeartbeats 4000000
/-! Tz: whole rows: how deep, how many stops. -/
namespace Tr
open PySem PySem.Spec PyProof.Rows L2 Gx Tk
theorem sm_want (b : Bool) (s : RS) (n : Nat) : Sm (n + 1) (wantD b s) := by
  cases b with
  | true => exact Sm.num _ _
  | false => exact .inl rfl
theorem sm_param (ts : List Tkn) (s : RS) : Sm 2 (paramD ts s) := Sm.tup (by show 2 ≤ 1000; decide) fun e he => by
  simp only [List.mem_cons, List.not_mem_nil, or_false] at he
  rcases he with rfl | rfl
  · exact sm_want _ _ _
  · exact sm_want _ _ _
theorem Pm.phi {ts : List Tkn} {ds : List PyData} {s : RS} {r : List PyData} {s1 : RS} (h : Pm ts ds s r s1) : s.at_ ≤ ts.length → (∀ d ∈ ds, Sm 2 d) → s1.at_ ≤ ts.length ∧ s.at_ ≤ s1.at_ ∧ Tr.phi ts s1 ≤ Tr.phi ts s ∧ r.length ≤ ds.length + (s1.at_ - s.at_) ∧ ∀ d ∈ r, Sm 2 d := by
  induction h with
  | done _ => intro hs hd; exact ⟨hs, Nat.le_refl _, Nat.le_refl _, by omega, hd⟩
  | @more ds s ds' s' t _ ih =>
    intro hs hd
    have hst := step_phi (text_lt (ts := ts) (s := s) (by rw [t]; decide +kernel))
    have gp := paramS_phi hst.1
    have := ih gp.1 (fun d hd' => by
      rcases List.mem_append.mp hd' with h | h
      · exact hd d h
      · rw [List.mem_singleton.mp h]; exact sm_param _ _)
    rw [List.length_append, List.length_singleton] at this
    refine ⟨this.1, by omega, by omega, by omega, this.2.2.2.2⟩
theorem Rw.phi {ts : List Tkn} (hts : ts.length ≤ 60) {wd : Str} {s : RS} {d : PyData} {s1 : RS} (h : Rw ts wd s d s1) (hs : s.at_ ≤ ts.length) : s1.at_ ≤ ts.length ∧ Tr.phi ts s1 ≤ Tr.phi ts s + 10 ∧ Sm 130 d := by
  have g1 := nameS_phi hs
  have hgr : grow .part = 1 := rfl
  cases h with
  | take =>
    refine ⟨g1.1, by omega, Sm.tup (by show 2 ≤ 1000; decide) fun e he => ?_⟩
    simp only [List.mem_cons, List.not_mem_nil, or_false] at he
    rcases he with rfl | rfl
    · exact Sm.str _ _
    · exact sm_want _ _ _
  | lets rd =>
    rename_i d5
    have g2 := sign_phi ts (e := "=") (by decide +kernel) _ g1.1
    have g3 := rd.phi trivial g2.1
    have hsm := rd.sm hts (by omega) _ List.mem_cons_self
    refine ⟨g3.1, by omega, Sm.tup (by show 3 ≤ 1000; decide) fun e he => ?_⟩
    simp only [List.mem_cons, List.not_mem_nil, or_false] at he
    rcases he with rfl | rfl | rfl
    · exact Sm.str _ _
    · exact sm_want _ _ _
    · exact Sm.mono hsm (by omega)
  | defs pm rd =>
    rename_i ds s3 d5
    have g2 := sign_phi ts (e := "(") (by decide +kernel) _ g1.1
    have gp := paramS_phi g2.1
    have gm := pm.phi gp.1 (fun d hd => by rw [List.mem_singleton.mp hd]; exact sm_param _ _)
    have g5 := sign_phi ts (e := ")") (by decide +kernel) _ gm.1
    have g6 := sign_phi ts (e := "=") (by decide +kernel) _ g5.1
    have g7 := rd.phi trivial g6.1
    have hsm := rd.sm hts (by omega) _ List.mem_cons_self
    have hlen := gm.2.2.2.1
    rw [List.length_singleton] at hlen
    refine ⟨g7.1, by omega, Sm.tup (by show 4 ≤ 1000; decide) fun e he => ?_⟩
    simp only [List.mem_cons, List.not_mem_nil, or_false] at he
    rcases he with rfl | rfl | rfl | rfl
    · exact Sm.str _ _
    · exact sm_want _ _ _
    · exact Sm.mono (Sm.tup (n := 2) (by omega) gm.2.2.2.2) (by decide)
    · exact Sm.mono hsm (by omega)
theorem Whole.sm {ts : List Tkn} (hts : ts.length ≤ 60) {d : PyData} {ss : List (Str × Nat × Str)} (h : Whole ts d ss) : Sm 130 d ∧ ss.length ≤ 900 := by
  cases h with
  | bare _ => exact ⟨Sm.tup (by show 1 ≤ 1000; decide) fun e he => by rw [List.mem_singleton.mp he]; exact Sm.str _ _, by show 0 ≤ 900; decide⟩
  | odd _ _ => exact ⟨Sm.tup (by show 1 ≤ 1000; decide) fun e he => by rw [List.mem_singleton.mp he]; exact Sm.str _ _, by show 1 ≤ 900; decide⟩
  | @row d s hw r =>
    have hlt : (⟨0, []⟩ : RS).at_ < ts.length := by
      cases ts with
      | nil => exact absurd hw (by decide +kernel)
      | cons _ _ => exact Nat.succ_pos _
    have hst := step_phi hlt
    have hph0 : Tr.phi ts ⟨0, []⟩ ≤ 480 := by
      show 0 + 8 * (ts.length - 0) ≤ 480
      omega
    have := r.phi hts hst.1
    refine ⟨this.2.2, ?_⟩
    have hs : s.stops.length ≤ 500 := by
      have := this.2.1
      unfold Tr.phi at this hst hph0
      unfold Tr.phi at *
      omega
    split
    · show (s.stops ++ ([("extra", s.at_, "")] : List (Str × Nat × Str))).length ≤ 900
      rw [List.length_append]; show _ + 1 ≤ _; omega
    · omega
def stopD (t : Str × Nat × Str) : PyData := .tuple [.str t.1, .int (t.2.1 : Int), .str t.2.2]
theorem stop_dpA {K : PySem.W.Frag} {H : Hp} : ∀ {as : List Addr} {ss : List (Str × Nat × Str)}, Paired (StopAt H) as ss → DpAll K H (as.map V.ref) (ss.map stopD)
  | _, _, .nil => .nil
  | _, _, .cons h t => .cons (.tup (SqT.of h) (.cons (.str _) (.cons (.int _) (.cons (.str _) .nil)))) (stop_dpA t)
theorem StopL.dp {K : PySem.W.Frag} {H : Hp} {sl : Addr} {ss : List (Str × Nat × Str)} (h : StopL H sl ss) : Dp K H (.ref sl) (.list (ss.map stopD)) := by
  obtain ⟨as, e, p⟩ := h
  exact .lst (SqL.of e) (stop_dpA p)
theorem sm_stops {ss : List (Str × Nat × Str)} (h : ss.length ≤ 900) (n : Nat) : Sm (n + 3) (.list (ss.map stopD)) := .inr (.inr (.inr ⟨_, .inl rfl, by rw [List.length_map]; omega, fun e he => by
  obtain ⟨t, _, rfl⟩ := List.mem_map.mp he
  refine Sm.tup (by show 3 ≤ 1000; decide) fun e he => ?_
  simp only [List.mem_cons, List.not_mem_nil, or_false] at he
  rcases he with rfl | rfl | rfl
  · exact Sm.str _ _
  · exact Sm.num _ _
  · exact Sm.str _ _⟩))
theorem StopL.same {H H' : Hp} {sl : Addr} {ss : List (Str × Nat × Str)} (h : StopL H sl ss) (s : Same H H') : StopL H' sl ss := by
  obtain ⟨as, e, p⟩ := h
  exact ⟨as, s _ _ e, pkeep (fun _ _ q => s _ _ q) p⟩
theorem TrV.same {H H' : Hp} {v : V} {d : PyData} (h : TrV H v d) (s : Same H H') : TrV H' v d := h.keep fun p vs => s p _
end Tr

set_option maxHeartbeats 4000000
/-! Rt: whatever stands in a row, it is read in some way. -/
namespace Tr
open PySem PySem.Spec PyProof.Rows L2 Gx Tk
structure Tot (ts : List Tkn) (n : Nat) : Prop where
  single : ∀ s : RS, s.at_ ≤ ts.length → ts.length - s.at_ ≤ n → ∃ d s1, Rd ts .single s [d] s1
  ops : ∀ (s : RS) (d : PyData), s.at_ ≤ ts.length → ts.length - s.at_ ≤ n → ∃ d' s1, Rd ts (.ops d) s [d'] s1
  more : ∀ (s : RS) (ds : List PyData), s.at_ ≤ ts.length → ts.length - s.at_ ≤ n → ∃ ds' s1, Rd ts (.more ds) s ds' s1
theorem Tot.part {ts : List Tkn} {n : Nat} (t : Tot ts n) (s : RS) (h : s.at_ ≤ ts.length) (hn : ts.length - s.at_ ≤ n) : ∃ d s1, Rd ts .part s [d] s1 ∧ s1.at_ ≤ ts.length ∧ s.at_ ≤ s1.at_ := by
  obtain ⟨d, s1, r⟩ := t.single s h hn
  have p := r.phi trivial h
  obtain ⟨d', s2, r'⟩ := t.ops s1 d p.1 (by omega)
  have p' := r'.phi trivial p.1
  exact ⟨d', s2, .part r r', p'.1, by omega⟩
theorem Tot.parts {ts : List Tkn} {n : Nat} (t : Tot ts n) (e : Str) (s : RS) (h : s.at_ ≤ ts.length) (hn : ts.length - s.at_ ≤ n) : ∃ ds s1, Rd ts (.parts e) s ds s1 := by
  obtain ⟨d, s1, r, p1, p2⟩ := t.part s h hn
  obtain ⟨ds, s2, r'⟩ := t.more s1 [d] p1 (by omega)
  exact ⟨ds, _, .parts r r'⟩
theorem kd_cases (ts : List Tkn) (s : RS) : kd ts s = .lone ∨ kd ts s = .name ∨ kd ts s = .sq ∨ kd ts s = .rd ∨ kd ts s = .iff ∨ kd ts s = .hole := by
  cases kd ts s <;> simp
theorem tot (ts : List Tkn) : ∀ n, Tot ts n := by
  intro n
  induction n with
  | zero =>
    have nk : ∀ s : RS, s.at_ ≤ ts.length → ts.length - s.at_ ≤ 0 → kd ts s = .hole := fun s h hn => by
      refine Decidable.byContradiction fun hk => ?_
      have := kd_lt hk
      omega
    have nt : ∀ s : RS, s.at_ ≤ ts.length → ts.length - s.at_ ≤ 0 → ∀ w : Str, w ≠ "" → textAt ts s ≠ w := fun s h hn w hw e => by
      have := text_lt (ts := ts) (s := s) (by rw [e]; exact hw)
      omega
    refine ⟨fun s h hn => ⟨_, _, .hole (nk s h hn)⟩, fun s d h hn => ⟨_, _, .opsEnd fun e => ?_⟩, fun s ds h hn => ⟨_, _, .moreEnd (nt s h hn "," (by decide +kernel))⟩⟩
    have := op_lt' e
    omega
  | succ n ih =>
    have single : ∀ s : RS, s.at_ ≤ ts.length → ts.length - s.at_ ≤ n + 1 → ∃ d s1, Rd ts .single s [d] s1 := fun s h hn => by
      by_cases hh : kd ts s = .hole
      · exact ⟨_, _, .hole hh⟩
      have hlt := kd_lt hh
      have h1 : (step s).at_ ≤ ts.length := hlt
      have h2 : ts.length - (step s).at_ ≤ n := by show ts.length - (s.at_ + 1) ≤ n; omega
      rcases kd_cases ts s with k | k | k | k | k | k
      · exact ⟨_, _, .lone k⟩
      · by_cases ht : textAt ts (step s) = "("
        · have hl2 := text_lt (ts := ts) (s := step s) (by rw [ht]; decide +kernel)
          obtain ⟨ds, s1, r⟩ := ih.parts ")" (step (step s)) hl2 (by show ts.length - ((step s).at_ + 1) ≤ n; omega)
          exact ⟨_, _, .call k ht r⟩
        · exact ⟨_, _, .name k ht⟩
      · obtain ⟨ds, s1, r⟩ := ih.parts "]" (step s) h1 h2
        exact ⟨_, _, .sq k r⟩
      · obtain ⟨d, s1, r, _, _⟩ := ih.part (step s) h1 h2
        exact ⟨_, _, .rd k r⟩
      · obtain ⟨a, s1, r1, p1, p2⟩ := ih.part (step s) h1 h2
        have g1 := sign_phi ts (e := "then") (by decide +kernel) s1 p1
        obtain ⟨b, s2, r2, p3, p4⟩ := ih.part (sign ts "then" s1) g1.1 (by omega)
        have g2 := sign_phi ts (e := "else") (by decide +kernel) s2 p3
        obtain ⟨c, s3, r3, _, _⟩ := ih.part (sign ts "else" s2) g2.1 (by omega)
        exact ⟨_, _, .iff k r1 r2 r3⟩
      · exact absurd k hh
    refine ⟨single, fun s d h hn => ?_, fun s ds h hn => ?_⟩
    · by_cases ho : textAt ts s ∈ opsW
      · have hlt := op_lt' ho
        have h2 : ts.length - (step s).at_ ≤ n := by show ts.length - (s.at_ + 1) ≤ n; omega
        obtain ⟨d2, s1, r⟩ := ih.single (step s) hlt h2
        have p := r.phi trivial hlt
        obtain ⟨d', s2, r'⟩ := ih.ops s1 _ p.1 (by omega)
        exact ⟨_, _, .opsMore ho r r'⟩
      · exact ⟨_, _, .opsEnd ho⟩
    · by_cases hc : textAt ts s = ","
      · have hlt := text_lt (ts := ts) (s := s) (by rw [hc]; decide +kernel)
        have h2 : ts.length - (step s).at_ ≤ n := by show ts.length - (s.at_ + 1) ≤ n; omega
        obtain ⟨d, s1, r, p1, p2⟩ := ih.part (step s) hlt h2
        obtain ⟨ds', s2, r'⟩ := ih.more s1 (ds ++ [d]) p1 (by omega)
        exact ⟨_, _, .moreMore hc r r'⟩
      · exact ⟨_, _, .moreEnd hc⟩
theorem Rd.some (ts : List Tkn) (s : RS) (h : s.at_ ≤ ts.length) : ∃ d s1, Rd ts .part s [d] s1 := by
  obtain ⟨d, s1, r, _, _⟩ := (tot ts _).part s h (Nat.le_refl _)
  exact ⟨d, s1, r⟩
theorem Pm.some (ts : List Tkn) : ∀ (n : Nat) (s : RS) (ds : List PyData), s.at_ ≤ ts.length → ts.length - s.at_ ≤ n → ∃ r s1, Pm ts ds s r s1 ∧ s1.at_ ≤ ts.length := by
  intro n
  induction n with
  | zero =>
    intro s ds h hn
    refine ⟨_, _, .done fun e => ?_, h⟩
    have := text_lt (ts := ts) (s := s) (by rw [e]; decide +kernel)
    omega
  | succ n ih =>
    intro s ds h hn
    by_cases hc : textAt ts s = ","
    · have hlt := text_lt (ts := ts) (s := s) (by rw [hc]; decide +kernel)
      have gp := paramS_phi (ts := ts) (s := step s) hlt
      obtain ⟨r, s1, q, hq⟩ := ih (paramS ts (step s)) (ds ++ [paramD ts (step s)]) gp.1 (by
        have : (step s).at_ = s.at_ + 1 := rfl
        omega)
      exact ⟨r, s1, .more hc q, hq⟩
    · exact ⟨_, _, .done hc, h⟩
theorem Whole.some (ts : List Tkn) : ∃ d ss, Whole ts d ss := by
  by_cases h0 : ts = []
  · exact ⟨_, _, .bare h0⟩
  by_cases hw : word0 ts ∈ rowW
  · have hlt : (⟨0, []⟩ : RS).at_ < ts.length := by
      cases ts with
      | nil => exact absurd rfl h0
      | cons _ _ => exact Nat.succ_pos _
    have h1 : (step (⟨0, []⟩ : RS)).at_ ≤ ts.length := hlt
    have g1 := nameS_phi (ts := ts) (s := step ⟨0, []⟩) h1
    have : ∃ d s, Rw ts (word0 ts) (step ⟨0, []⟩) d s := by
      have hw' := hw
      simp only [rowW, List.mem_cons, List.not_mem_nil, or_false] at hw'
      rcases hw' with e | e | e
      · rw [e]; exact ⟨_, _, .take⟩
      · rw [e]
        have g2 := sign_phi ts (e := "=") (by decide +kernel) _ g1.1
        obtain ⟨d, s1, r⟩ := Rd.some ts _ g2.1
        exact ⟨_, _, .lets r⟩
      · rw [e]
        have g2 := sign_phi ts (e := "(") (by decide +kernel) _ g1.1
        have gp := paramS_phi g2.1
        obtain ⟨ds, s3, pm, hp⟩ := Pm.some ts _ _ [paramD ts (sign ts "(" (nameS ts (step ⟨0, []⟩)))] gp.1 (Nat.le_refl _)
        have g5 := sign_phi ts (e := ")") (by decide +kernel) _ hp
        have g6 := sign_phi ts (e := "=") (by decide +kernel) _ g5.1
        obtain ⟨d, s1, r⟩ := Rd.some ts _ g6.1
        exact ⟨_, _, .defs pm r⟩
    obtain ⟨d, s, r⟩ := this
    exact ⟨_, _, .row hw r⟩
  · exact ⟨_, _, .odd h0 hw⟩
end Tr

set_option maxHeartbeats 4000000
/-! Lt: signs of a row laid out are the row's, or blanks. -/
namespace Tr
open PySem PySem.Spec PyProof.Rows L2 Gx Tk
theorem toks_mem : ∀ (n : Nat) (l : List Nat) (k : Nat), l.length ≤ n → ∀ t ∈ toks l k, ∀ c ∈ t.2.1.cps.toList, c ∈ l
  | 0, [], _, _, t, ht, _, _ => absurd ht List.not_mem_nil
  | n + 1, [], _, _, t, ht, _, _ => absurd ht List.not_mem_nil
  | n + 1, c :: r, k, h, t, ht, x, hx => by
    have hr : r.length ≤ n := by rw [List.length_cons] at h; omega
    by_cases e : c = 32
    · subst e
      rw [toks_blank] at ht
      exact List.mem_cons_of_mem _ (toks_mem n r (k + 1) hr t ht x hx)
    · have tl := tokAt_len c r
      rw [toks_cons e] at ht
      rcases List.mem_cons.mp ht with rfl | ht
      · have hx : x ∈ (tokAt (c :: r)).2 := hx
        rw [← tl.2.2] at hx
        exact List.mem_of_mem_take hx
      · exact List.mem_of_mem_drop (toks_mem n _ _ (by rw [List.length_drop, List.length_cons]; omega) t ht x hx)
theorem layF_mem : ∀ (p : Str × Str) (r : List (Str × Str)) (x : Nat), x ∈ layF p r → x = 32 ∨ ∃ a ∈ r, x ∈ a.2.cps.toList
  | _, [], _, h => absurd h List.not_mem_nil
  | p, a :: r, x, h => by
    have h : x ∈ gapL p a ++ (a.2.cps.toList ++ layF a r) := h
    rcases List.mem_append.mp h with h | h
    · left
      unfold gapL at h
      split at h
      · exact List.mem_singleton.mp h
      · exact absurd h List.not_mem_nil
    · rcases List.mem_append.mp h with h | h
      · exact .inr ⟨a, List.mem_cons_self, h⟩
      · rcases layF_mem a r x h with h | ⟨b, hb, h⟩
        · exact .inl h
        · exact .inr ⟨b, List.mem_cons_of_mem _ hb, h⟩
theorem layK_mem (r : List (Str × Str)) (x : Nat) (h : x ∈ layK r) : x = 32 ∨ ∃ a ∈ r, x ∈ a.2.cps.toList := by
  cases r with
  | nil => exact absurd h List.not_mem_nil
  | cons a r =>
    have h : x ∈ a.2.cps.toList ++ layF a r := h
    rcases List.mem_append.mp h with h | h
    · exact .inr ⟨a, List.mem_cons_self, h⟩
    · rcases layF_mem a r x h with h | ⟨b, hb, h⟩
      · exact .inl h
      · exact .inr ⟨b, List.mem_cons_of_mem _ hb, h⟩
theorem lay_mem {l : List Nat} {k x : Nat} (h : x ∈ layL (toks l k)) : x = 32 ∨ x ∈ l := by
  rcases layK_mem _ _ h with h | ⟨a, ha, h⟩
  · exact .inl h
  · obtain ⟨t, ht, rfl⟩ := List.mem_map.mp ha
    exact .inr (toks_mem _ l k (Nat.le_refl _) t ht x h)
theorem laid_mem {l : List Nat} {ss : List (Str × Nat × Str)} {x : Nat} (h : x ∈ laidL l ss) : x = 32 ∨ x ∈ l := by
  unfold laidL at h
  split at h
  · split at h
    · exact lay_mem h
    · exact .inr h
  · exact .inr h
end Tr

set_option maxHeartbeats 4000000
/-! Sa: texts of signs that are told as they stand: 32 to 126. -/
namespace Gx
open PySem PySem.Spec PyProof.Rows L2 Tk Tr
def oka (c : Nat) : Bool := decide (32 ≤ c) && decide (c ≤ 126)
def Oka (x : Str) : Prop := x.cps.toList.all oka = true
theorem Oka.app {x y : Str} (h : Oka x) (h' : Oka y) : Oka (x ++ y) := by
  unfold Oka at *
  rw [show (x ++ y).cps.toList = x.cps.toList ++ y.cps.toList from TL.tl_append x y, List.all_append, h, h']; rfl
theorem Oka.cut {x : Str} (h : Oka x) (lo hi : Option Int) : Oka (cutS x lo hi) := by
  unfold Oka cutS at *
  exact List.all_eq_true.mpr fun c hc => List.all_eq_true.mp h c (List.mem_of_mem_drop (List.mem_of_mem_take hc))
theorem oka_okq {x : Str} (h : Okq x) : Oka x := List.all_eq_true.mpr fun c hc => by
  have := List.all_eq_true.mp h c hc
  unfold okq at this
  unfold oka
  simp only [Bool.and_eq_true, decide_eq_true_eq] at this ⊢
  omega
theorem oka_nm {x : Str} (h : NmS x) : Oka x := List.all_eq_true.mpr fun c hc => by
  have := List.all_eq_true.mp h.1 c hc
  unfold isLet at this
  unfold oka
  simp only [Bool.and_eq_true, decide_eq_true_eq] at this ⊢
  omega
theorem oka_wc {x : Str} (h : Oka x) : Wc x := fun c hc => by
  have := List.all_eq_true.mp h c hc
  unfold oka at this
  simp only [Bool.and_eq_true, decide_eq_true_eq] at this
  omega
theorem oka_10 {x : Str} (h : Oka x) : 10 ∉ x.cps.toList := fun hc => by
  have := List.all_eq_true.mp h 10 hc
  exact absurd this (by decide)
theorem oka_laid {x y : Str} {ss : List (Str × Nat × Str)} (h : Oka x) (e : y.cps.toList = laidL x.cps.toList ss) : Oka y := List.all_eq_true.mpr fun c hc => by
  rw [e] at hc
  rcases laid_mem hc with rfl | hc
  · decide
  · exact List.all_eq_true.mp h c hc
def RetA (st c : Addr) (b N : Nat) (H : Hp) (Q : VK) : Prop := ∀ (x : Str) H', x.length ≤ 60 → Oka x → Dr st c (b + N) H H' → Q (.str x) H'
end Gx

set_option maxHeartbeats 4000000
/-! Ls: the row that a row is laid out to. -/
namespace Tr
open PySem PySem.Spec PyProof.Rows L2 Gx Tk Lx
def LaidR (x y : Str) : Prop := ∃ d ss, Whole (toks x.cps.toList 0) d ss ∧ y.cps.toList = laidL x.cps.toList ss
theorem LaidR.some (x : Str) : ∃ y, LaidR x y := by
  obtain ⟨d, ss, h⟩ := Whole.some (toks x.cps.toList 0)
  exact ⟨SX.S (laidL x.cps.toList ss), d, ss, h, rfl⟩
theorem LaidR.det {x y z : Str} (h : LaidR x y) (h' : LaidR x z) : y = z := by
  obtain ⟨d, ss, w, e⟩ := h
  obtain ⟨d', ss', w', e'⟩ := h'
  obtain ⟨rfl, rfl⟩ := w.det w'
  exact TL.ext_tl (e.trans e'.symm)
noncomputable def laidS (x : Str) : Str := Classical.choose (LaidR.some x)
theorem laidS_ok (x : Str) : LaidR x (laidS x) := Classical.choose_spec (LaidR.some x)
theorem laidS_eq {x y : Str} (h : LaidR x y) : y = laidS x := h.det (laidS_ok x)
theorem laidS_again (x : Str) : laidS (laidS x) = laidS x := by
  obtain ⟨d, ss, w, e⟩ := laidS_ok x
  exact (laidS_eq ⟨d, ss, by rw [e]; exact laid_whole w, by rw [e, laid_again]⟩).symm
theorem laidS_oka {x : Str} (h : Oka x) : Oka (laidS x) := by
  obtain ⟨d, ss, w, e⟩ := laidS_ok x
  exact oka_laid h e
theorem laidS_len {x : Str} (h : x.length ≤ 60) : (laidS x).length ≤ 60 := by
  obtain ⟨d, ss, w, e⟩ := laidS_ok x
  have := laid_len (l := x.cps.toList) (by have : x.cps.toList.length = x.length := Array.length_toList
                                           omega) ss
  rw [← e] at this
  have h2 : (laidS x).cps.toList.length = (laidS x).length := Array.length_toList
  omega
/-- rows of a text that can be laid out -/
def RowsK (rs : List Str) : Prop := rs ≠ [] ∧ rs.length ≤ 24 ∧ ∀ r ∈ rs, r.length ≤ 60 ∧ Oka r
theorem RowsK.laid {rs : List Str} (h : RowsK rs) : RowsK (rs.map laidS) := ⟨fun e => h.1 (List.map_eq_nil_iff.mp e), by rw [List.length_map]; exact h.2.1, fun r hr => by
  obtain ⟨x, hx, rfl⟩ := List.mem_map.mp hr
  exact ⟨laidS_len (h.2.2 x hx).1, laidS_oka (h.2.2 x hx).2⟩⟩
theorem RowsK.split {rs : List Str} (h : RowsK rs) : Txt.split (Txt.join nl rs) nl = rs := by
  have e1 : rs = (rs.map fun r => r.cps.toList).map SX.S := by
    rw [List.map_map]
    exact (List.map_id' rs).symm.trans (List.map_congr_left fun r _ => (TL.ext_tl rfl))
  have e2 : Txt.join nl rs = SX.S (TL.joinL [10] (rs.map fun r => r.cps.toList)) := by
    conv => lhs; rw [e1]
    exact join_S "" _
  rw [split_lines, e2]
  show (lines (TL.joinL [10] (rs.map fun r => r.cps.toList))).map SX.S = rs
  rw [lines_join (fun e => h.1 (List.map_eq_nil_iff.mp e)) (fun r hr => by
    obtain ⟨x, hx, rfl⟩ := List.mem_map.mp hr
    exact oka_10 (h.2.2 x hx).2), ← e1]
theorem RowsK.sum {rs : List Str} (h : RowsK rs) : (rs.map (·.length)).sum + rs.length * nl.length ≤ 1500 := by
  have a := sum_le 60 rs fun r hr => (h.2.2 r hr).1
  have b := h.2.1
  have c : nl.length = 1 := rfl
  rw [c]
  have : rs.length * 60 ≤ 24 * 60 := Nat.mul_le_mul_right 60 b
  omega
end Tr

set_option maxHeartbeats 4000000
namespace K12
open PySem PySem.Spec PyProof.Rows L2 Gx Tk Tr Lx
variable {P : Program} {w : World} {K : PySem.W.Frag} {mg : Str → Option Value} {base : Heap}
def sp_rows_of : Sp := fun vs H Q _ => ∃ x : Str, vs = [.str x] ∧ x.length ≤ 100000 ∧ ∀ p H', H p = none → Same H H' → H' p = some (.lst ((Txt.split x nl).map V.str)) → Q (.ref p) H'
theorem ok_rows_of (T : Facts K mg w) : FnG P w K mg base 1 T.f_rows_of T.d_rows_of ["text"] sp_rows_of := by
  refine fnG_of T.F_rows_of sc_rows_of (fun vs H Q E h => ?_) (fun cdv A outer s H vs Q hG hr h => ?_)
  · obtain ⟨_, rfl, _⟩ := h; rfl
  · obtain ⟨x, rfl, hx, q⟩ := h
    refine ⟨_, (pss_one (ps_ret (pe_split (pv 0) pe_str))), ?_⟩
    have hsl : (5000000 : Nat) ≤ sizeLine := by decide
    exact ⟨_, rfl, ⟨_, rfl⟩, x, "\n", rfl, rfl, by decide, by omega, fun p hp => q p _ hp (same_new hp) upd_same⟩
def sp_text_of : Sp := fun vs H Q _ => ∃ (p : Addr) (ys : List Str), vs = [.ref p] ∧ H p = some (.lst (ys.map V.str)) ∧ (ys.map (·.length)).sum + ys.length * nl.length ≤ 16777216 ∧ Q (.str (Txt.join nl ys)) H
theorem ok_text_of (T : Facts K mg w) : FnG P w K mg base 1 T.f_text_of T.d_text_of ["rows"] sp_text_of := by
  refine fnG_of T.F_text_of sc_text_of (fun vs H Q E h => ?_) (fun cdv A outer s H vs Q hG hr h => ?_)
  · obtain ⟨_, _, rfl, _⟩ := h; rfl
  · obtain ⟨p, ys, rfl, e, hz, q⟩ := h
    refine ⟨_, (pss_one (ps_ret (pe_join pe_str (pv 0)))), ?_⟩
    exact ⟨⟨"\n", rfl⟩, _, rfl, "\n", p, ys, rfl, rfl, .inl (SqL.of e), hz, q⟩
/-- a text of such rows, laid out -/
noncomputable def laidT (rs : List Str) : Str := Txt.join nl (rs.map laidS)
def sp_laid_text : Sp := fun vs H Q _ => ∃ rs : List Str, vs = [.str (Txt.join nl rs)] ∧ RowsK rs ∧ ∀ H', Same H H' → Q (.str (laidT rs)) H'
theorem ok_laid_text (T : Facts K mg w) : FnG P w K mg base 192 T.f_laid_text T.d_laid_text ["text"] sp_laid_text := by
  refine fnG_of (k := 191) T.F_laid_text sc_laid_text (fun vs H Q E h => ?_) (fun cdv A outer s H vs Q hG hr h => ?_)
  · obtain ⟨_, rfl, _⟩ := h; rfl
  · obtain ⟨rs, rfl, hrs, q⟩ := h
    refine ⟨_, (pss_one (ps_ret (pe_go (ok_text_of T) hG (hr.mono (by decide)) (by rfl) T.g_text_of T.F_text_of.kp T.b_text_of (pa_cons (pe_lc (own := [("row", 1)]) rfl sc_laid_text.nd (pi_list (pe_go (ok_rows_of T) hG (hr.mono (by decide)) (by rfl) T.g_rows_of T.F_rows_of.kp T.b_rows_of (pa_cons (pv 0) pa_nil))) (blkOk_by (own := [("row", 1)]) (N := ["text", "row"]) (sc := defScope s_laid_text) (by decide +kernel)) (fun _ _ _ _ _ => (pg_name (i := 1) sc_laid_text.nd rfl (.inl rfl))) (fun _ _ _ _ _ => pts_nil) (fun _ _ _ _ _ => (pe_go (ok_laid T) hG (hr.mono (by decide)) (by rfl) T.g_laid T.F_laid.kp T.b_laid (pa_cons (pv 1) pa_nil)))) pa_nil)))), ?_⟩
    have hjl : (Txt.join nl rs).length ≤ 1500 := Nat.le_trans (join_len nl rs) hrs.sum
    have hsp := hrs.split
    have h24 := hrs.2.1
    dsimp only [tRet, tGo, tCons, tNil]
    refine lc_pre (fun u Hx => Same H Hx ∧ Hx u = some (.lst (rs.map V.str))) (fun R k => ⟨_, rfl, _, rfl, by omega, fun p H1 hp s1 e1 => k p H1 ⟨s1, by rw [hsp] at e1; exact e1⟩⟩) (fun u H1 hu => ?_)
    obtain ⟨s1, e1⟩ := hu
    refine lc_gen (xs := rs.map V.str) (fun i => (rs[i]?).map fun r => V.str (laidS r)) (fun j => [some (.str (Txt.join nl rs)), (rs[j]?).map V.str]) (SqL.of e1) (by rw [List.length_map]; omega) (fun i z HA Qn hz sa qa => ?_) (fun i => rfl) (fun i z HA Qb hz sa qa => ?_) (fun i z y HA Qv hz hy sa qa => ?_) (fun D HJ hD sa eD => ?_)
    · rw [List.getElem?_map] at hz
      obtain ⟨r, hr', rfl⟩ := Option.map_eq_some_iff.mp hz
      rw [hr'] at qa
      exact qa
    · rw [List.getElem?_map] at hz
      obtain ⟨r, hr', rfl⟩ := Option.map_eq_some_iff.mp hz
      rw [hr'] at qa
      exact qa _ (Same.refl _)
    · rw [List.getElem?_map] at hz
      obtain ⟨r, hr', rfl⟩ := Option.map_eq_some_iff.mp hz
      rw [hr'] at hy ⊢
      cases hy
      refine ⟨_, rfl, r, rfl, (hrs.2.2 r (List.mem_of_getElem? hr')).1, fun y d ss H3 wh hy s3 => ?_⟩
      obtain rfl : y = laidS r := laidS_eq ⟨d, ss, wh, hy⟩
      exact qa _ s3
    · have ek : kept (fun i => (rs[i]?).map fun r => V.str (laidS r)) (rs.map V.str).length = (rs.map laidS).map V.str := by
        rw [List.length_map, kept_map (ts := rs) (p := fun _ => true) (g := fun r => V.str (laidS r)) (fun i t ht => by rw [ht]; rfl) _ (Nat.le_refl _), List.take_length, List.filter_eq_self.mpr (fun _ _ => rfl), List.map_map]
        rfl
      rw [ek] at eD
      exact ⟨D, rs.map laidS, rfl, eD, Nat.le_trans hrs.laid.sum (by decide), q _ (s1.trans sa)⟩
end K12

set_option maxHeartbeats 4000000
namespace K12
open PySem PySem.Spec PyProof.Rows L2 Gx Tk
variable {P : Program} {w : World} {K : PySem.W.Frag} {mg : Str → Option Value} {base : Heap}
abbrev stD (c : Addr) (t : Nat) : List (L2.Key × V) := [(.inr "cells", .ref c), (.inr "turn", .int (t : Int))]
theorem get_cells {H : Hp} {st c : Addr} {t : Nat} (h : H st = some (.dK (stD c t))) : DGet H st (.str "cells") (some (.ref c)) := .inl ⟨_, .inr "cells", .inl h, rfl, rfl⟩
theorem get_turn {H : Hp} {st c : Addr} {t : Nat} (h : H st = some (.dK (stD c t))) : DGet H st (.str "turn") (some (.int (t : Int))) := .inl ⟨_, .inr "turn", .inl h, rfl, rfl⟩
theorem put_turn {H : Hp} {st c : Addr} {t t' : Nat} (h : H st = some (.dK (stD c t))) : DPut H st (.str "turn") (.int (t' : Int)) (upd H st (.dK (stD c t'))) := .inl ⟨_, .inr "turn", h, rfl, by show 2 < sizeLine; decide, rfl⟩
theorem md (i : Int) {j : Int} (h : 0 < j) : 0 ≤ i % j ∧ i % j < j := ⟨Int.emod_nonneg _ (by omega), Int.emod_lt_of_pos _ h⟩
theorem ok_L_take (T : Facts K mg w) : FnG P w K mg base 1 T.f_L_take T.d_L_take ["_law_state", "_law_below"] spD_take := by
  refine fnG_of T.F_L_take sc_L_take (fun vs H Q E h => ?_) (fun cdv A outer s H vs Q hG hr h => ?_)
  · obtain ⟨_, _, _, _, rfl, _⟩ := h; rfl
  · obtain ⟨st, c, b, n, rfl, ⟨t, ns, htb, est, ec, hn0, hn1⟩, hb, h0, h1, q⟩ := h
    refine ⟨_, (pss_cons (ps_set (i := 2) sc_L_take.nd rfl (.inl rfl) (pe_op op_add (pe_dget (hu_of hr) (pv 0) pe_str (fun _ _ => rfl)) pe_int))
        (pss_cons (ps_dput (hu_of hr) (pv 0) pe_str (pv 2) rfl)
        (pss_cons (ps_set (i := 3) sc_L_take.nd rfl (.inl rfl) (pe_op op_mod (pv 2) (pe_callB call_len_seq (by rfl) T.n_len PySem.boot_len (pa_cons (pe_dget (hu_of hr) (pv 0) pe_str (fun _ _ => rfl)) pa_nil))))
        (pss_cons (ps_set (i := 4) sc_L_take.nd rfl (.inl rfl) (pe_ix ix_list (pe_dget (hu_of hr) (pv 0) pe_str (fun _ _ => rfl)) (pv 3) (fun _ _ => rfl)))
        (pss_cons (ps_if (pt_cmpR op_ge (pv 4) (pe_op op_pow pe_int pe_int) (nomark _)) (pss_cons (ps_asg (pe_callB call_divmod (by rfl) T.n_divmod (by decide +kernel) (pa_cons (pv 4) (pa_cons (pv 1) pa_nil))) (pg_tup rfl (pgs_cons (pg_sub (pe_dget (hu_of hr) (pv 0) pe_str (fun _ _ => rfl)) (pv 3) set_list) (pgs_cons (pg_name (i := 5) sc_L_take.nd rfl (.inl rfl)) pgs_nil))))
        (pss_one (ps_ret (pv 5)))) pss_nil)
        (pss_cons (ps_set (i := 6) sc_L_take.nd rfl (.inl rfl) (pe_op op_add (pe_op op_mod (pv 4) pe_int) (pe_op op_mulW (pe_op op_mod (pe_op op_fdivW (pv 4) pe_int) pe_int) pe_int)))
        (pss_cons (ps_set (i := 7) sc_L_take.nd rfl (.inl rfl) (pe_op op_mod (pe_op op_mulW (pe_op op_add (pe_op op_add (pv 6) (pe_op op_mulW (pe_op op_mulW (pv 2) (pv 2)) pe_int)) pe_int) pe_int) pe_int))
        (pss_cons (ps_set (i := 7) sc_L_take.nd rfl (.inl rfl) (pe_op op_mod (pe_op op_mulW (pv 7) (pv 7)) pe_int))
        (pss_one (ps_ret (pe_op op_mod (pe_op op_fdivW (pe_op op_mod (pe_op op_mulW (pe_op op_add (pv 7) (pe_op op_mulW (pv 2) pe_int)) pe_int) pe_int) pe_int) (pv 1)))))))))))), ?_⟩
    have hcs : c ≠ st := fun e => by subst e; rw [est] at ec; cases ec
    refine ⟨_, rfl, st, _, rfl, get_turn est, _, _, rfl, rfl, ?_⟩
    dsimp only
    rw [show (t : Int) + 1 = ((t + 1 : Nat) : Int) by omega]
    refine ⟨_, rfl, _, rfl, st, _, rfl, put_turn est, ?_⟩
    have est1 : (upd H st (.dK (stD c (t + 1)))) st = some (.dK (stD c (t + 1))) := upd_same
    have ec1 : (upd H st (.dK (stD c (t + 1)))) c = some (.lst (ns.map V.int)) := (upd_ne hcs).trans ec
    have st1 : ∀ a o, a ≠ st → a ≠ c → H a = some o → (upd H st (.dK (stD c (t + 1)))) a = some o := fun a o na _ h => by rw [upd_ne na]; exact h
    generalize upd H st (.dK (stD c (t + 1))) = H1 at est1 ec1 st1 ⊢
    have elen : (ns.map V.int).length = ns.length := List.length_map _
    refine ⟨_, rfl, _, rfl, st, _, rfl, get_cells est1, c, _, rfl, .inl (SqL.of ec1), _, _, rfl, rfl, by rw [elen]; omega, ?_⟩
    dsimp only
    rw [elen, show ((t + 1 : Nat) : Int) % (ns.length : Int) = (((t + 1) % ns.length : Nat) : Int) by omega]
    have hlt : (t + 1) % ns.length < ns.length := Nat.mod_lt _ hn0
    have hget : (ns.map V.int)[(t + 1) % ns.length]? = some (.int ns[(t + 1) % ns.length]) := by rw [List.getElem?_map, List.getElem?_eq_getElem hlt]; rfl
    generalize ns[(t + 1) % ns.length] = cell at hget
    generalize (t + 1) % ns.length = ix at hlt hget ⊢
    refine ⟨_, rfl, st, _, rfl, get_cells est1, _, rfl, c, _, _, _, rfl, rfl, SqL.of ec1, atI_nat hget, ?_⟩
    refine ⟨_, rfl, _, _, rfl, rfl, ⟨by decide, by decide, by decide⟩, _, _, rfl, rfl, _, rfl, ite2 (fun hbig => ?_) (fun hbig => ?_)⟩
    · refine ⟨_, rfl, _, rfl, _, _, rfl, ⟨h0, h1⟩, fun p hp => ?_⟩
      have est2 := (upd_ne (H := H1) (o := .tup [.int (cell / n), .int (cell % n)]) (ne_of_none est1 hp)).trans est1
      have ec2 := (upd_ne (H := H1) (o := .tup [.int (cell / n), .int (cell % n)]) (ne_of_none ec1 hp)).trans ec1
      have st2 : ∀ a o, a ≠ st → a ≠ c → H a = some o → (upd H1 p (.tup [.int (cell / n), .int (cell % n)])) a = some o := fun a o na nc h => by
        have := st1 a o na nc h
        rw [upd_ne (ne_of_none this hp)]; exact this
      have ept : (upd H1 p (.tup [.int (cell / n), .int (cell % n)])) p = _ := upd_same
      generalize upd H1 p (.tup [.int (cell / n), .int (cell % n)]) = H2 at est2 ec2 st2 ept ⊢
      have m1 := md cell h0
      have hix : ixN (ns.map V.int).length ((ix : Nat) : Int) = some ix := by
        unfold ixN
        rw [if_pos (by omega), if_pos (by omega)]
        simp
      refine ⟨p, _, rfl, SqT.of ept, rfl, _, _, rfl, _, rfl, st, _, rfl, get_cells est2, _, rfl, c, _, _, ix, rfl, rfl, ec2, hix, _, _, rfl, rfl, _, rfl, ?_⟩
      refine q _ _ m1.1 m1.2 ⟨⟨t + 1, ns.set ix (cell / n), by omega, (upd_ne (Ne.symm hcs)).trans est2, ?_, by rw [List.length_set]; exact hn0, by rw [List.length_set]; exact hn1⟩, fun a o na nc h => (upd_ne nc).trans (st2 a o na nc h)⟩
      rw [upd_same, List.map_set]
    · have fin : ∀ v, 0 ≤ v → v < n → Q (.int v) H1 := fun v v0 v1 => q v H1 v0 v1 ⟨⟨t + 1, ns, by omega, est1, ec1, hn0, hn1⟩, st1⟩
      clear hbig q
      have m1 := md cell (show (0 : Int) < 2147483629 by decide)
      have m2 := md (cell / 2147483629) (show (0 : Int) < 40009 by decide)
      refine ⟨_, rfl, _, _, rfl, rfl, (by decide : (0 : Int) < 2147483629), _, rfl, _, _, rfl, rfl, ⟨by decide, by decide⟩, _, _, rfl, rfl, (by decide : (0 : Int) < 40009), _, _, rfl, rfl, wide_mul (a := 16) (b := 10) (by omega) (by decide) (by decide) (by decide) (by decide), _, _, rfl, rfl, ?_⟩
      dsimp only
      generalize cell % 2147483629 = a1 at m1 ⊢
      generalize cell / 2147483629 % 40009 = a2 at m2 ⊢
      have ht : ((t + 1 : Nat) : Int).natAbs < 2 ^ 31 := by rw [Int.natAbs_natCast]; unfold cap at hb; omega
      have ht2 : (((t + 1 : Nat) : Int) * ((t + 1 : Nat) : Int)).natAbs < 2 ^ 62 := by
        rw [Int.natAbs_mul]
        exact Nat.lt_of_lt_of_le (Nat.mul_lt_mul'' ht ht) (by decide)
      refine ⟨_, rfl, _, rfl, _, rfl, _, _, rfl, rfl, wide_mul ht ht (by decide) (by decide) (by decide), _, _, rfl, rfl, wide_mul (b := 13) ht2 (by decide) (by decide) (by decide) (by decide), _, _, rfl, rfl, _, _, rfl, rfl, _, _, rfl, rfl, wide_mul (a := 77) (b := 16) (by omega) (by decide) (by decide) (by decide) (by decide), _, _, rfl, rfl, (by decide : (0 : Int) < 2147483647), ?_⟩
      have m3 := md ((a1 + a2 * 977 + ((t + 1 : Nat) : Int) * ((t + 1 : Nat) : Int) * 6007 + 29) * 48271) (show (0 : Int) < 2147483647 by decide)
      dsimp only
      generalize (a1 + a2 * 977 + ((t + 1 : Nat) : Int) * ((t + 1 : Nat) : Int) * 6007 + 29) * 48271 % 2147483647 = a3 at m3 ⊢
      have h3 : a3.natAbs < 2 ^ 31 := by omega
      refine ⟨_, rfl, _, rfl, _, _, rfl, rfl, wide_mul h3 h3 (by decide) (by decide) (by decide), _, _, rfl, rfl, (by decide : (0 : Int) < 2147483579), ?_⟩
      have m4 := md (a3 * a3) (show (0 : Int) < 2147483579 by decide)
      dsimp only
      generalize a3 * a3 % 2147483579 = a4 at m4 ⊢
      have h5 : (((t + 1 : Nat) : Int) * 103049).natAbs < 2 ^ 48 := by
        rw [Int.natAbs_mul]
        exact Nat.lt_of_lt_of_le (Nat.mul_lt_mul'' ht (show (103049 : Int).natAbs < 2 ^ 17 by decide)) (by decide)
      refine ⟨_, rfl, _, rfl, _, _, rfl, rfl, wide_mul (b := 17) ht (by decide) (by decide) (by decide) (by decide), _, _, rfl, rfl, _, _, rfl, rfl, wide_mul (a := 50) (b := 17) (by omega) (by decide) (by decide) (by decide) (by decide), _, _, rfl, rfl, (by decide : (0 : Int) < 2147483629), _, _, rfl, rfl, ⟨by decide, by decide⟩, _, rfl, _, _, rfl, rfl, h0, ?_⟩
      exact fin _ (md _ h0).1 (md _ h0).2
end K12

set_option maxHeartbeats 4000000
namespace K12
open PySem PySem.Spec PyProof.Rows L2 Gx Tk
variable {P : Program} {w : World} {K : PySem.W.Frag} {mg : Str → Option Value} {base : Heap}
theorem ok_L_some (T : Facts K mg w) : FnG P w K mg base 2 T.f_L_some T.d_L_some ["_law_state", "_law_things"] spD_some := by
  refine fnG_of T.F_L_some sc_L_some (fun vs H Q E h => ?_) (fun cdv A outer s H vs Q hG hr h => ?_)
  · obtain ⟨_, _, _, _, _, rfl, _⟩ := h; rfl
  · obtain ⟨st, c, b, v, xs, rfl, hst, hb, hne, hlen, hv, q⟩ := h
    refine ⟨_, (pss_one (ps_ret (pe_ix ix_seq (pv 1) (pe_go (ok_L_take T) hG (hr.mono (by decide)) (by rfl) T.g_L_take T.F_L_take.kp T.b_L_take (pa_cons (pv 0) (pa_cons (pe_callB call_len (by rfl) T.n_len PySem.boot_len (pa_cons (pv 1) pa_nil)) pa_nil))) (fun _ _ => rfl)))), ?_⟩
    have hpos : 0 < xs.length := List.length_pos_iff.mpr hne
    have hline : (1000000 : Nat) ≤ sizeLine := by decide
    rcases hv with ⟨a, rfl, hab, ha⟩ | ⟨x, rfl, hx⟩
    · refine ⟨_, rfl, _, rfl, _, rfl, _, xs.length, rfl, .inl ⟨_, SqL.of ha, rfl⟩, st, c, b, _, rfl, hst, hb, by omega, by omega, fun z H' h0 h1 hd => ?_⟩
      have hz : xs[z.toNat]? = some (xs[z.toNat]'(by omega)) := List.getElem?_eq_getElem (by omega)
      exact .inl ⟨a, xs, z, _, rfl, rfl, SqL.of (hd.2 _ _ hab.1 hab.2 ha), at_of (j := z.toNat) (by omega) hz, q _ _ (List.getElem_mem _) hd⟩
    · have hxl : x.length = xs.length := by rw [hx, List.length_map, Array.length_toList]; rfl
      refine ⟨_, rfl, _, rfl, _, rfl, _, xs.length, rfl, ⟨by omega, hxl.symm⟩, st, c, b, _, rfl, hst, hb, by omega, by omega, fun z H' h0 h1 hd => ?_⟩
      have hz2 : z.toNat < x.cps.toList.length := by rw [Array.length_toList]; show z.toNat < x.length; omega
      obtain ⟨d, hz⟩ : ∃ d, x.cps.toList[z.toNat]? = some d := ⟨_, List.getElem?_eq_getElem hz2⟩
      have ez := atI_nat (j := z.toNat) hz
      rw [show ((z.toNat : Nat) : Int) = z by omega] at ez
      exact .inr (.inr ⟨x, z, d, rfl, rfl, by omega, ez, q _ _ (by rw [hx]; exact List.mem_map.mpr ⟨_, List.mem_of_getElem? hz, rfl⟩) hd⟩)
def dIntL (ns : List Int) : PyData := .list (ns.map .int)
theorem dp_intL {H : Hp} {p : Addr} {ns : List Int} (h : SqL K H p (ns.map V.int)) : Dp K H (.ref p) (dIntL ns) := by
  refine .lst h ?_
  clear h
  induction ns with
  | nil => exact .nil
  | cons n ns ih => exact .cons (.int _) ih
theorem shaped_intL (ns : List Int) : SeqAt.shaped (dIntL ns) = true := by
  have h1 : ∀ ns : List Int, PyData.canLayAll0 (ns.map PyData.int) = true := by
    intro ns
    induction ns with
    | nil => rfl
    | cons n ns ih => rw [List.map_cons, PyData.canLayAll0, ih, PyData.canLay0]; rfl
  have h2 : ∀ ns : List Int, PyData.depthAll (ns.map PyData.int) = 0 := by
    intro ns
    induction ns with
    | nil => rfl
    | cons n ns ih => rw [List.map_cons, PyData.depthAll, ih, PyData.depth]; rfl
  unfold SeqAt.shaped dIntL
  rw [PyData.canLay0, h1, Bool.true_and, PyData.depth, h2]; rfl
theorem eq_bare {H : Hp} {p q : Addr} {ns : List Int} {Q : VK} (hp : SqL K H p (ns.map V.int)) (hq : SqL K H q []) (k : Q (.bl ns.isEmpty) H) : rEqD K (.ref p) (.ref q) H Q := by
  refine ⟨dIntL ns, .list [], dp_intL hp, .lst hq .nil, shaped_intL ns, by decide +kernel, ?_⟩
  cases ns with
  | nil => exact k
  | cons f fs => exact k
def sp_begin (K : PySem.W.Frag) : Sp := fun vs H Q _ => ∃ (a : Addr) (ns : List Int), vs = [.ref a] ∧ SqL K H a (ns.map V.int) ∧ ns.length ≤ 63 ∧ ∀ (st c : Addr) (H' : Hp), H st = none → Same H H' → IsSt H' st c 0 → Q (.ref st) H'
theorem ok_L_begin (T : Facts K mg w) : FnG P w K mg base 1 T.f_L_begin T.d_L_begin ["_law_script"] (sp_begin K) := by
  refine fnG_of T.F_L_begin sc_L_begin (fun vs H Q E h => ?_) (fun cdv A outer s H vs Q hG hr h => ?_)
  · obtain ⟨c, _, rfl, _⟩ := h; rfl
  · obtain ⟨a, ns, rfl, hS, hz, q⟩ := h
    refine ⟨_, (pss_cons (ps_set (i := 1) sc_L_begin.nd rfl (.inl rfl) (pe_callTy call_list_of (by rfl) T.n_list (by decide +kernel) (pa_cons (pe_slice sl_list (pv 0) po_none (po_some pe_int)) pa_nil)))
        (pss_cons (ps_if (pt_cmpR (op_eqD hr.units) (pv 1) (pe_lst pa_nil) (nomark _)) (pss_one (ps_set (i := 1) sc_L_begin.nd rfl (.inl rfl) (pe_lst (pa_cons pe_int pa_nil)))) pss_nil)
        (pss_one (ps_ret (pe_disp (pps_cons pe_str (pv 1) (pps_cons pe_str pe_int pps_nil)) (by rfl) (by rfl) (fun z => by cases z) (by decide)))))), ?_⟩
    refine ⟨.ref a, rfl, 63, rfl, a, _, rfl, hS, fun p1 hp1 => ?_⟩
    rw [show (63 : Int) = ((63 : Nat) : Int) from rfl, cutV_to, ← List.map_take, List.take_of_length_le hz]
    refine ⟨p1, _, rfl, .inl (SqL.of upd_same), fun l hl => ?_⟩
    have sm := (same_new (o := .lst (ns.map V.int)) hp1).trans (same_new (o := .lst (ns.map V.int)) hl)
    have el : (upd (upd H p1 (.lst (ns.map V.int))) l (.lst (ns.map V.int))) l = some (.lst (ns.map V.int)) := upd_same
    generalize upd (upd H p1 (.lst (ns.map V.int))) l (.lst (ns.map V.int)) = H1 at sm el ⊢
    clear hl hp1
    have fin : ∀ (c : Addr) (ms : List Int) (H2 : Hp), Same H H2 → H2 c = some (.lst (ms.map V.int)) → 0 < ms.length → ms.length ≤ 63 → ∀ p, H2 p = none → Q (.ref p) (upd H2 p (.dK [(.inr "cells", .ref c), (.inr "turn", .int 0)])) := fun c ms H2 s2 e2 h0 h1 p hp => by
      refine q p c _ (s2.free hp) (s2.trans (same_new hp)) ⟨0, ms, Nat.le_refl _, upd_same, ?_, h0, h1⟩
      rw [upd_ne (ne_of_none e2 hp)]; exact e2
    have disp : ∀ (c : Addr) (ms : List Int) (H2 : Hp), Same H H2 → H2 c = some (.lst (ms.map V.int)) → 0 < ms.length → ms.length ≤ 63 → ∀ p, H2 p = none → Q (.ref p) (upd (upd H2 p (.dK [])) p (.dK (mergeK [] [(.inr "cells", .ref c), (.inr "turn", .int 0)]))) := fun c ms H2 s2 e2 h0 h1 p hp => by
      rw [upd_upd]
      exact fin c ms H2 s2 e2 h0 h1 p hp
    refine ⟨_, rfl, Nat.zero_le _, fun pb hpb => ?_⟩
    have s2 := same_new (o := .lst []) hpb
    have eb : (upd H1 pb (.lst [])) pb = some (.lst []) := upd_same
    have el2 := s2 _ _ el
    generalize upd H1 pb (.lst []) = H2 at s2 eb el2 ⊢
    have s3 := sm.trans s2
    refine eq_bare (SqL.of el2) (SqL.of eb) ⟨_, rfl, ite2 (fun h => ?_) (fun h => ?_)⟩
    · refine ⟨by show 1 ≤ sizeLine; decide, fun p17 hp17 => ?_⟩
      have s4 := s3.trans (same_new (o := .lst [.int 17]) hp17)
      have e17 : (upd H2 p17 (.lst [.int 17])) p17 = some (.lst ([(17 : Int)].map V.int)) := upd_same
      generalize upd H2 p17 (.lst [.int 17]) = H3 at s4 e17 ⊢
      exact fun p hp => ⟨_, rfl, upd_same, [(.inr "cells", .ref p17), (.inr "turn", .int 0)], rfl, by show 2 ≤ 15; decide, disp p17 [17] H3 s4 e17 (by decide) (by decide) p hp⟩
    · have h0 : 0 < ns.length := by
        cases ns with
        | nil => exact absurd rfl h
        | cons n r => simp
      exact fun p hp => ⟨_, rfl, upd_same, [(.inr "cells", .ref l), (.inr "turn", .int 0)], rfl, by show 2 ≤ 15; decide, disp l ns H2 s3 el2 h0 hz p hp⟩
end K12

set_option maxHeartbeats 4000000
namespace K12
open PySem PySem.Spec PyProof.Rows L2 Gx Tk
variable {P : Program} {w : World} {K : PySem.W.Frag} {mg : Str → Option Value} {base : Heap}
/-- a new list of words, so many draws later -/
def RetW (st c : Addr) (b N : Nat) (H : Hp) (Q : VK) (R : List Str → Prop) : Prop := ∀ p ws H', H p = none → (p ≠ st ∧ p ≠ c) → Dr st c (b + N) H H' → H' p = some (.lst (ws.map V.str)) → R ws → Q (.ref p) H'
def sp_names : Sp := fun vs H Q _ => ∃ (st c : Addr) (b m : Nat), vs = [.ref st, .int (m : Int)] ∧ IsSt H st c b ∧ b + 20 ≤ cap ∧ m ≤ 100 ∧ RetW st c b 20 H Q (fun ns => ns.length = m ∧ NmL ns)
theorem ok_L_names (T : Facts K mg w) : FnG P w K mg base 2 T.f_L_names T.d_L_names ["_law_state", "_law_many"] sp_names := by
  refine fnG_of T.F_L_names sc_L_names (fun vs H Q E h => ?_) (fun cdv A outer s H vs Q hG hr h => ?_)
  · obtain ⟨_, _, _, _, rfl, _⟩ := h; rfl
  · obtain ⟨st, c, b, m, rfl, hst, hb, hm, q⟩ := h
    refine ⟨_, (pss_cons (ps_asg (pe_tup (pa_cons pe_str (pa_cons (pe_go (ok_L_take T) hG (hr.mono (by decide)) (by rfl) T.g_L_take T.F_L_take.kp T.b_L_take (pa_cons (pv 0) (pa_cons pe_int pa_nil))) (pa_cons (pe_go (ok_L_take T) hG (hr.mono (by decide)) (by rfl) T.g_L_take T.F_L_take.kp T.b_L_take (pa_cons (pv 0) (pa_cons pe_int pa_nil))) pa_nil)))) (pg_tup rfl (pgs_cons (pg_name (i := 2) sc_L_names.nd rfl (.inr rfl)) (pgs_cons (pg_name (i := 3) sc_L_names.nd rfl (.inr rfl)) (pgs_cons (pg_name (i := 4) sc_L_names.nd rfl (.inl rfl)) pgs_nil)))))
        (pss_cons (ps_set (i := 5) sc_L_names.nd rfl (.inl rfl) (pe_join pe_str (pe_lc (own := [("_law_turn", 13)]) rfl sc_L_names.nd (pi_range1 (by rfl) T.n_range (pa_cons (pe_go (ok_L_take T) hG (hr.mono (by decide)) (by rfl) T.g_L_take T.F_L_take.kp T.b_L_take (pa_cons (pv 0) (pa_cons pe_int pa_nil))) pa_nil)) (blkOk_by (own := [("_law_turn", 13)]) (N := ["_law_state", "_law_many", "_law_letters", "_law_begun", "_law_way", "_law_stem", "_law_some_here", "_law_k", "_law_heads", "_law_tails", "_law_found", "_law_head", "_law_tail", "_law_turn"]) (sc := defScope s_L_names) (by decide +kernel)) (fun _ _ _ _ _ => (pg_name (i := 13) sc_L_names.nd rfl (.inl rfl))) (fun _ _ _ _ _ => pts_nil) (fun _ _ _ _ _ => (pe_ix ix_str (pv 2) (pe_go (ok_L_take T) hG (hr.mono (by decide)) (by rfl) T.g_L_take T.F_L_take.kp T.b_L_take (pa_cons (pv 0) (pa_cons pe_int pa_nil))) (fun _ _ => rfl))))))
        (pss_cons (ps_set (i := 6) sc_L_names.nd rfl (.inr rfl) (pe_lst (pa_cons pe_str (pa_cons pe_str (pa_cons pe_str (pa_cons pe_str (pa_cons pe_str (pa_cons pe_str (pa_cons pe_str (pa_cons pe_str (pa_cons pe_str (pa_cons pe_str (pa_cons pe_str (pa_cons pe_str (pa_cons pe_str (pa_cons (pe_op op_add_str pe_str pe_str) pa_nil))))))))))))))))
        (pss_cons (ps_if (pt_cmpR op_eq (pv 4) pe_int (nomark _)) (pss_one (ps_ret (pe_lc (own := [("_law_k", 7)]) rfl sc_L_names.nd (pi_range1 (by rfl) T.n_range (pa_cons (pv 1) pa_nil)) (blkOk_by (own := [("_law_k", 7)]) (N := ["_law_state", "_law_many", "_law_letters", "_law_begun", "_law_way", "_law_stem", "_law_some_here", "_law_k", "_law_heads", "_law_tails", "_law_found", "_law_head", "_law_tail", "_law_turn"]) (sc := defScope s_L_names) (by decide +kernel)) (fun _ _ _ _ _ => (pg_name (i := 7) sc_L_names.nd rfl (.inl rfl))) (fun _ _ _ _ _ => pts_nil) (fun _ _ _ _ _ => (pe_ix (ix_listK (K := K) rfl) (pv 6) (pe_op op_mod (pe_op op_add (pv 3) (pv 7)) pe_int) (fun _ _ => rfl)))))) pss_nil)
        (pss_cons (ps_par (i := 8) (j := 9) (by rfl) sc_L_names.nd rfl rfl (by decide) rfl rfl (pa_cons (pe_lst (pa_cons (pv 5) (pa_cons pe_str (pa_cons pe_str pa_nil)))) (pa_cons (pe_lst (pa_cons (pe_lst (pa_cons pe_str (pa_cons pe_str pa_nil))) (pa_cons (pe_lst (pa_cons pe_str (pa_cons pe_str pa_nil))) (pa_cons (pe_lst (pa_cons pe_str (pa_cons pe_str pa_nil))) pa_nil)))) pa_nil)) (by rfl))
        (pss_cons (ps_par3 (i := 10) (j := 11) (l := 12) (by rfl) sc_L_names.nd rfl rfl rfl (by decide) (by decide) (by decide) rfl rfl rfl (pa_cons (pe_lst pa_nil) (pa_cons (pe_ix ix_list (pv 8) (pe_op op_sub (pv 4) pe_int) (fun _ _ => rfl)) (pa_cons (pe_ix ix_list (pv 9) (pe_op op_sub (pv 4) pe_int) (fun _ _ => rfl)) pa_nil))) (by rfl))
        (pss_cons (ps_for PassesOwn.never rfl (pi_range1 (by rfl) T.n_range (pa_cons (pv 1) pa_nil)) (pg_name (i := 7) sc_L_names.nd rfl (.inl rfl)) (pss_one (ps_expr (pe_bm PySem.F.plainAttrs_list PySem.F.slot_list_append PySem.F.type_list_append mt_append (pv 10) (pa_cons (pe_op op_add_str (pe_op op_add_str (pv 11) (pe_ix ix_str (pv 2) (pe_op op_mod (pe_op op_add (pv 3) (pe_op op_mul pe_int (pv 7))) pe_int) (fun _ _ => rfl))) (pe_ix ix_list (pv 12) (pe_op op_mod (pv 7) pe_int) (fun _ _ => rfl))) pa_nil)))))
        (pss_one (ps_ret (pv 10)))))))))), ?_⟩
    have hsl : (5000000 : Nat) ≤ sizeLine := by decide
    have hc : cap = 1000000000 := rfl
    refine ⟨_, rfl, st, c, b, 26, rfl, hst, by omega, by decide, by decide, fun v1 H1 v10 v11 d1 => ?_⟩
    refine ⟨_, rfl, st, c, _, 4, rfl, d1.1, by omega, by decide, by decide, fun v2 H2 v20 v21 d2 => ?_⟩
    have dA := d1.trans d2
    clear d1 d2
    refine ⟨by show 3 ≤ sizeLine; decide, fun t ht => ?_⟩
    have dB := dA.new (o := .tup [.str "abcdefghijklmnopqrstuvwxyz", .int v1, .int v2]) ht
    refine ⟨t, _, rfl, SqT.of upd_same, rfl, _, _, rfl, _, _, rfl, _, _, rfl, rfl, ?_⟩
    generalize upd H2 t (.tup [.str "abcdefghijklmnopqrstuvwxyz", .int v1, .int v2]) = H3 at dB ⊢
    clear dA ht
    have h26 : ("abcdefghijklmnopqrstuvwxyz" : Str).length = 26 := by decide +kernel
    refine ⟨⟨_, rfl⟩, ?_⟩
    refine lc_Dr (st := st) (c := c) (b + 1 + 1 + 1) 5 1 (fun n => n ≤ 5) (fun v => ∃ y : Str, v = .str y ∧ y.length = 1 ∧ y.cps.toList.all isLet = true) ⟨_, dB.1⟩ (fun _ h => h) (by decide) (by omega) (fun R' r => ?_) (fun k b' H' hk0 hk hs' hb' Qv qv => ?_) (fun D xs H' hD hDn hl hall eD dC => ?_)
    · refine ⟨_, rfl, st, c, _, 6, rfl, dB.1, by omega, by decide, by decide, fun v H' h0 h1 d => ?_⟩
      have := r H' v.toNat (by omega) d
      rw [show ((v.toNat : Nat) : Int) = v by omega] at this
      exact this
    · refine ⟨_, rfl, _, rfl, st, c, b', 26, rfl, hs'.1, by omega, by decide, by decide, fun v H'' h0 h1 d => ?_⟩
      obtain ⟨ch, hch, hcm⟩ := item_at (xs := ("abcdefghijklmnopqrstuvwxyz" : Str).cps.toList) h0 (by rw [show (("abcdefghijklmnopqrstuvwxyz" : Str).cps.toList).length = 26 from h26]; exact h1)
      have hcl := List.all_eq_true.mp az_let ch hcm
      exact ⟨_, v, ch, rfl, rfl, by decide +kernel, hch, qv _ _ ⟨_, rfl, rfl, by show [ch].all isLet = true; rw [List.all_cons, hcl]; rfl⟩ d⟩
    · obtain ⟨ys, rfl, hys⟩ := strs_of hall
      rw [List.length_map] at hl
      have hsum := sum_le 1 ys fun y hy => by rw [(hys y hy).1]; exact Nat.le_refl _
      have hjl := join_all fun y hy => (hys y hy).2
      have hj := join_len "" ys
      have hz : ("" : Str).length = 0 := rfl
      rw [hz, Nat.mul_zero] at hj
      refine ⟨"", D, ys, rfl, rfl, .inl (SqL.of eD), by rw [hz]; omega, ?_⟩
      have hstem : (Txt.join "" ys).length ≤ 5 := by omega
      generalize Txt.join "" ys = stem at hstem hjl ⊢
      have dD := dB.trans dC
      clear dB dC eD hall hys hsum hj
      have e14 : ("then" : Str) ++ ("s" : Str) = "thens" := by decide +kernel
      refine ⟨_, _, rfl, rfl, by decide +kernel, by show 14 ≤ sizeLine; decide, fun p1 hp1 => ?_⟩
      rw [e14]
      have dE := dD.new (o := .lst [.str "le", .str "de", .str "i", .str "el", .str "ta", .str "ye", .str "iff", .str "lets", .str "deff", .str "nu", .str "wor", .str "fla", .str "att", .str "thens"]) hp1
      have e1 : (upd H' p1 (.lst [.str "le", .str "de", .str "i", .str "el", .str "ta", .str "ye", .str "iff", .str "lets", .str "deff", .str "nu", .str "wor", .str "fla", .str "att", .str "thens"])) p1 = some (.lst ((["le", "de", "i", "el", "ta", "ye", "iff", "lets", "deff", "nu", "wor", "fla", "att", "thens"] : List Str).map V.str)) := upd_same
      have n1 := dD.nb hp1
      generalize upd H' p1 (.lst [.str "le", .str "de", .str "i", .str "el", .str "ta", .str "ye", .str "iff", .str "lets", .str "deff", .str "nu", .str "wor", .str "fla", .str "att", .str "thens"]) = H4 at dE e1 ⊢
      clear dD hp1 hD hDn hl
      refine ⟨_, rfl, rfl, _, rfl, ite2 (fun hw => ?_) (fun hw => ?_)⟩
      · refine lc_Dr (st := st) (c := c) (b + 3 + 5 * 1) m 0 (fun n => n = m) (fun v => ∃ y : Str, v = .str y ∧ NmS y) ⟨_, dE.1⟩ (fun _ h => Nat.le_of_eq h) (by omega) (by omega) (fun R' r => ?_) (fun k b' H' hk0 hk d' hb' Qv qv => ?_) (fun D xs H' hD hDn hl hall eD dC => ?_)
        · exact ⟨_, rfl, r _ m rfl (Dr.refl dE.1)⟩
        · obtain ⟨y, hy, hm2⟩ := item_at (xs := (["le", "de", "i", "el", "ta", "ye", "iff", "lets", "deff", "nu", "wor", "fla", "att", "thens"] : List Str).map V.str) (v := (v1 + k) % 14) (md _ (by decide)).1 (by show (v1 + k) % 14 < 14; exact (md _ (by decide)).2)
          obtain ⟨z, hz, rfl⟩ := List.mem_map.mp hm2
          exact ⟨_, rfl, _, rfl, _, rfl, _, _, rfl, rfl, _, _, rfl, rfl, (by decide : (0 : Int) < 14), p1, _, _, _, rfl, rfl, SqL.of (d'.2 _ _ n1.1 n1.2 e1), hy, qv _ _ ⟨z, rfl, some_nm z hz⟩ (Dr.refl d'.1)⟩
        · obtain ⟨ys, rfl, hys⟩ := strs_of hall
          rw [List.length_map] at hl
          have dZ := (dE.trans dC).mono (b' := b + 20) (by omega)
          exact q D ys H' (dE.free hD) hDn dZ eD ⟨hl, hys⟩
      · have hw1 : v2 = 1 ∨ v2 = 2 ∨ v2 = 3 := by
          have : ¬ (v2 = 0) := fun h => hw (by rw [h]; rfl)
          omega
        refine ⟨_, rfl, by show 3 ≤ sizeLine; decide, fun p2 hp2 => ?_⟩
        have dF := dE.new (o := .lst [.str stem, .str "", .str "x"]) hp2
        have e2 : (upd H4 p2 (.lst [.str stem, .str "", .str "x"])) p2 = _ := upd_same
        generalize upd H4 p2 (.lst [.str stem, .str "", .str "x"]) = H5 at dF e2 ⊢
        refine ⟨by show 2 ≤ sizeLine; decide, fun p3 hp3 => ?_⟩
        have s3 := same_new (o := .lst [.str "q", .str "qz"]) hp3
        have e3 : (upd H5 p3 (.lst [.str "q", .str "qz"])) p3 = _ := upd_same
        generalize upd H5 p3 (.lst [.str "q", .str "qz"]) = H6 at s3 e3 ⊢
        refine ⟨by show 2 ≤ sizeLine; decide, fun p4 hp4 => ?_⟩
        have s4 := same_new (o := .lst [.str "", .str "z"]) hp4
        have e4 : (upd H6 p4 (.lst [.str "", .str "z"])) p4 = _ := upd_same
        generalize upd H6 p4 (.lst [.str "", .str "z"]) = H7 at s4 e4 ⊢
        refine ⟨by show 2 ≤ sizeLine; decide, fun p5 hp5 => ?_⟩
        have s5 := same_new (o := .lst [.str "", .str "z"]) hp5
        have e5 : (upd H7 p5 (.lst [.str "", .str "z"])) p5 = _ := upd_same
        generalize upd H7 p5 (.lst [.str "", .str "z"]) = H8 at s5 e5 ⊢
        refine ⟨by show 3 ≤ sizeLine; decide, fun p6 hp6 => ?_⟩
        have s6 := same_new (o := .lst [.ref p3, .ref p4, .ref p5]) hp6
        have e6 : (upd H8 p6 (.lst [.ref p3, .ref p4, .ref p5])) p6 = _ := upd_same
        generalize upd H8 p6 (.lst [.ref p3, .ref p4, .ref p5]) = H9 at s6 e6 ⊢
        have s49 := s4.trans (s5.trans s6)
        have dG := dF.same (s3.trans s49)
        have f2 := (s3.trans s49) _ _ e2
        have f3 := s49 _ _ e3
        have f4 := (s5.trans s6) _ _ e4
        have f5 := s6 _ _ e5
        clear e2 e3 e4 e5 s3 s4 s5 s6 s49 hp2 hp3 hp4 hp5 hp6 dF dE e1
        refine ⟨_, _, rfl, ?_⟩
        refine ⟨Nat.zero_le _, fun F hF => ?_⟩
        have s7 := same_new (o := .lst []) hF
        have eF : (upd H9 F (.lst [])) F = some (.lst []) := upd_same
        have dH := dG.same s7
        have nF := dG.nb hF
        have hFf : H F = none := dG.free hF
        have n3 : p3 ≠ F := ne_of_none f3 hF
        have n4 : p4 ≠ F := ne_of_none f4 hF
        have n5 : p5 ≠ F := ne_of_none f5 hF
        have g2 := s7 _ _ f2
        have g3 := s7 _ _ f3
        have g4 := s7 _ _ f4
        have g5 := s7 _ _ f5
        have g6 := s7 _ _ e6
        generalize upd H9 F (.lst []) = H10 at dH eF g2 g3 g4 g5 g6 ⊢
        clear f2 f3 f4 f5 e6 dG hF s7
        have hv : ∃ (hd : Str) (pt : Addr) (ta tb : Str), NmP hd ta ∧ NmP hd tb ∧ hd.length ≤ 5 ∧ ta.length ≤ 2 ∧ tb.length ≤ 2 ∧ atI [V.str stem, .str "", .str "x"] (v2 - 1) = some (.str hd) ∧ atI [V.ref p3, .ref p4, .ref p5] (v2 - 1) = some (.ref pt) ∧ H10 pt = some (.lst [.str ta, .str tb]) ∧ pt ≠ F := by
          rcases hw1 with rfl | rfl | rfl
          · exact ⟨_, p3, "q", "qz", nmp hjl (by decide +kernel) (by rw [show (("q" : Str).cps.toList).length = 1 by decide +kernel]; have : stem.cps.toList.length = stem.length := Array.length_toList; omega) (.inl (by decide +kernel)), nmp hjl (by decide +kernel) (by rw [show (("qz" : Str).cps.toList).length = 2 by decide +kernel]; have : stem.cps.toList.length = stem.length := Array.length_toList; omega) (.inr (.inl (by decide +kernel))), hstem, by decide +kernel, by decide +kernel, atI_nat (j := 0) rfl, atI_nat (j := 0) rfl, g3, n3⟩
          · exact ⟨"", p4, "", "z", nmp (by decide +kernel) (by decide +kernel) (by decide +kernel) (.inr (.inr (.inr (by decide +kernel)))), nmp (by decide +kernel) (by decide +kernel) (by decide +kernel) (.inr (.inl (by decide +kernel))), by decide +kernel, by decide +kernel, by decide +kernel, atI_nat (j := 1) rfl, atI_nat (j := 1) rfl, g4, n4⟩
          · exact ⟨"x", p5, "", "z", nmp (by decide +kernel) (by decide +kernel) (by decide +kernel) (.inr (.inr (.inl (by decide +kernel)))), nmp (by decide +kernel) (by decide +kernel) (by decide +kernel) (.inr (.inl (by decide +kernel))), by decide +kernel, by decide +kernel, by decide +kernel, atI_nat (j := 2) rfl, atI_nat (j := 2) rfl, g5, n5⟩
        obtain ⟨hd, pt, ta, tb, np1, np2, l1, l2, l3, a1, a2, ept, nF2⟩ := hv
        refine ⟨_, rfl, _, rfl, _, _, rfl, rfl, p2, _, _, _, rfl, rfl, SqL.of g2, a1, _, rfl, _, rfl, _, _, rfl, rfl, p6, _, _, _, rfl, rfl, SqL.of g6, a2, _, _, _, rfl, ?_⟩
        have hptn : pt ≠ st ∧ pt ≠ c := by
          obtain ⟨tt, nss, _, x2, x3, _⟩ := dH.1
          refine ⟨fun e => ?_, fun e => ?_⟩
          · subst e; rw [ept] at x2; cases x2
          · subst e
            rw [ept] at x3
            injection x3 with x3
            injection x3 with x3
            cases nss with
            | nil => cases x3
            | cons z zs => injection x3 with x3 _; cases x3
        clear a1 a2 g2 g3 g4 g5 g6 n3 n4 n5
        refine ⟨_, rfl, (m : Int), rfl, by omega, by omega, for_it walk_range (fun i σ H' => ∃ (ns : List Str) (y7 y13 : Option V), ns.length = i ∧ NmL ns ∧ Dr st c (b + 8) H H' ∧ H' F = some (.lst (ns.map V.str)) ∧ H' pt = some (.lst [.str ta, .str tb]) ∧ σ = [some (.ref st), some (.int (m : Int)), some (.str "abcdefghijklmnopqrstuvwxyz"), some (.int v1), some (.int v2), some (.str stem), some (.ref p1), y7, some (.ref p2), some (.ref p6), some (.ref F), some (.str hd), some (.ref pt), y13]) ⟨[], none, none, rfl, fun _ h => absurd h List.not_mem_nil, dH.mono (by omega), eF, ept, rfl⟩ (fun _ _ _ _ _ => trivial) (fun i v σ HA HB hi hP hy => ?_) (fun σ HA hP => ?_)⟩
        · obtain ⟨ns, y7, y13, hnl, hns, dI, eF', ept', rfl⟩ := hP
          obtain ⟨rfl, rfl⟩ := hy
          have m26 := md (v1 + 7 * (0 + (i : Int))) (show (0 : Int) < 26 by decide)
          have m2 := md (0 + (i : Int)) (show (0 : Int) < 2 by decide)
          obtain ⟨ch, hch, hcm⟩ := item_at (xs := ("abcdefghijklmnopqrstuvwxyz" : Str).cps.toList) m26.1 (by rw [show (("abcdefghijklmnopqrstuvwxyz" : Str).cps.toList).length = 26 from h26]; exact m26.2)
          have hcl := List.all_eq_true.mp az_let ch hcm
          obtain ⟨tx, htx, hlt, hnp⟩ : ∃ tx : Str, atI [V.str ta, .str tb] ((0 + (i : Int)) % 2) = some (.str tx) ∧ tx.length ≤ 2 ∧ NmP hd tx := by
            have : (0 + (i : Int)) % 2 = 0 ∨ (0 + (i : Int)) % 2 = 1 := by omega
            rcases this with e | e
            · rw [e]; exact ⟨ta, atI_nat (j := 0) rfl, l2, np1⟩
            · rw [e]; exact ⟨tb, atI_nat (j := 1) rfl, l3, np2⟩
          have hch1 : (({ cps := #[ch] } : Str)).length = 1 := rfl
          refine ⟨_, rfl, .inl ⟨rfl, _, SqL.of eF'⟩, _, rfl, _, rfl, _, rfl, _, rfl, _, _, rfl, rfl, .inl ⟨by decide, by decide⟩, _, _, rfl, rfl, _, _, rfl, rfl, (by decide : (0 : Int) < 26), _, _, ch, rfl, rfl, by decide +kernel, hch, _, _, rfl, rfl, by rw [hch1]; omega, ?_⟩
          refine ⟨_, rfl, _, rfl, _, _, rfl, rfl, (by decide : (0 : Int) < 2), pt, _, _, _, rfl, rfl, SqL.of ept', htx, _, _, rfl, rfl, by rw [app_len, hch1]; omega, F, _, _, rfl, rfl, eF', by rw [List.length_map]; omega, ?_⟩
          refine ⟨ns ++ [hd ++ { cps := #[ch] } ++ tx], _, _, by rw [List.length_append, hnl]; rfl, hns.app fun x hx => ?_, dI.at hFf nF _, ?_, (upd_ne nF2).trans ept', rfl⟩
          · rw [List.mem_singleton.mp hx]
            exact hnp ch hcl
          · rw [upd_same, List.map_append]; rfl
        · obtain ⟨ns, y7, y13, hnl, hns, dI, eF', ept', rfl⟩ := hP
          exact ⟨_, rfl, q F ns HA hFf nF (dI.mono (by omega)) eF' ⟨by rw [hnl]; exact Int.toNat_natCast m, hns⟩⟩
end K12

set_option maxHeartbeats 4000000
namespace K12
open PySem PySem.Spec PyProof.Rows L2 Gx Tk
variable {P : Program} {w : World} {K : PySem.W.Frag} {mg : Str → Option Value} {base : Heap}
theorem ws_all {xs : List Str} (h : xs.all (fun x => decide (1 ≤ x.length) && decide (x.length ≤ 8)) = true) : WsL 8 xs := fun x hx => by
  have := List.all_eq_true.mp h x hx
  rw [Bool.and_eq_true, decide_eq_true_eq, decide_eq_true_eq] at this
  exact this
/-- what a draw leaves of a list that it has just laid -/
structure At (st c : Addr) (b : Nat) (H H' : Hp) (p : Addr) (ws : List Str) : Prop where
  dr : Dr st c b H H'
  at_ : H' p = some (.lst (ws.map V.str))
  nb : p ≠ st ∧ p ≠ c
theorem At.go {st c : Addr} {b b' : Nat} {H H' H2 : Hp} {p : Addr} {ws : List Str} (x : At st c b H H' p ws) (d : Dr st c b' H' H2) : At st c b' H H2 p ws := ⟨x.dr.trans d, d.2 _ _ x.nb.1 x.nb.2 x.at_, x.nb⟩
theorem comma_all (T : Facts K mg w) {k N Np : Nat} {n : Int} {spp : Sp} (hk : 2 ≤ k) (R_L_part_words : FnG P w K mg base k T.f_L_part_words T.d_L_part_words ["_law_state", "_law_names_here", "_law_deep"] spp) (hp : ∀ vs H Q E, spG Gp Np n vs H Q E → spp vs H Q E) (hN : 3 * Np + 3 ≤ N) (hcap : N ≤ 100000) :
    FnG P w K mg base (k + 1) T.f_L_comma_words T.d_L_comma_words ["_law_state", "_law_names_here", "_law_deep"] (spG Gc N n) := by
  refine fnG_of T.F_L_comma_words sc_L_comma_words (fun vs H Q E h => ?_) (fun cdv A outer s H vs Q hG hr h => ?_)
  · obtain ⟨_, _, _, _, _, _, rfl, _⟩ := h; rfl
  · obtain ⟨st, c, nm, b, ns, deep, rfl, hst, hb, hnm, hdeep, q⟩ := h
    have RR_L_part_words := hr
    replace hr := hr.mono hk
    refine ⟨_, (pss_cons (ps_set (i := 3) sc_L_comma_words.nd rfl (.inl rfl) (pe_go R_L_part_words hG RR_L_part_words (by rfl) T.g_L_part_words T.F_L_part_words.kp T.b_L_part_words (pa_cons (pv 0) (pa_cons (pv 1) (pa_cons (pv 2) pa_nil)))))
        (pss_cons (ps_for PassesOwn.never rfl (pi_range1 (by rfl) T.n_range (pa_cons (pe_ix ix_list (pe_lst (pa_cons pe_int (pa_cons pe_int (pa_cons pe_int pa_nil)))) (pe_go (ok_L_take T) hG (hr.mono (by decide)) (by rfl) T.g_L_take T.F_L_take.kp T.b_L_take (pa_cons (pv 0) (pa_cons pe_int pa_nil))) (fun _ _ => rfl)) pa_nil)) (pg_name (i := 4) sc_L_comma_words.nd rfl (.inl rfl)) (pss_one (ps_set (i := 3) sc_L_comma_words.nd rfl (.inl rfl) (pe_op op_cat (pe_op op_cat (pv 3) (pe_lst (pa_cons pe_str pa_nil))) (pe_go R_L_part_words hG RR_L_part_words (by rfl) T.g_L_part_words T.F_L_part_words.kp T.b_L_part_words (pa_cons (pv 0) (pa_cons (pv 1) (pa_cons (pv 2) pa_nil))))))))
        (pss_one (ps_ret (pv 3))))), ?_⟩
    have hsl : (5000000 : Nat) ≤ sizeLine := by decide
    have hc : cap = 1000000000 := rfl
    refine ⟨_, rfl, _, rfl, _, rfl, hp _ _ _ _ ⟨st, c, nm, b, ns, deep, rfl, hst, by omega, hnm, hdeep, fun p ws H1 hpf hpn d1 ep hl hws => ?_⟩⟩
    refine ⟨by show 3 ≤ sizeLine; decide, fun p2 hp2 => ?_⟩
    have d2 := d1.new (o := .lst [.int 0, .int 1, .int 2]) hp2
    have e2 : (upd H1 p2 (.lst [.int 0, .int 1, .int 2])) p2 = some (.lst [.int 0, .int 1, .int 2]) := upd_same
    have ep2 := (upd_ne (H := H1) (o := .lst [.int 0, .int 1, .int 2]) (ne_of_none ep hp2)).trans ep
    have n2 := d1.nb hp2
    generalize upd H1 p2 (.lst [.int 0, .int 1, .int 2]) = H2 at d2 e2 ep2 ⊢
    refine ⟨_, rfl, st, c, _, 3, rfl, d2.1, by omega, by decide, by decide, fun v H3 v0 v1 d3 => ?_⟩
    have d4 := d2.trans d3
    obtain ⟨m, hm, hm2⟩ : ∃ m : Nat, atI [V.int 0, .int 1, .int 2] v = some (.int (m : Int)) ∧ m ≤ 2 := by
      have : v = 0 ∨ v = 1 ∨ v = 2 := by omega
      rcases this with rfl | rfl | rfl
      · exact ⟨0, atI_nat (j := 0) rfl, by omega⟩
      · exact ⟨1, atI_nat (j := 1) rfl, by omega⟩
      · exact ⟨2, atI_nat (j := 2) rfl, by omega⟩
    refine ⟨p2, _, v, _, rfl, rfl, SqL.of (d3.2 _ _ n2.1 n2.2 e2), hm, ?_⟩
    have ep4 := d3.2 _ _ hpn.1 hpn.2 ep2
    refine ⟨(m : Int), rfl, by omega, by omega, for_it walk_range (fun i σ H' => ∃ (p : Addr) (ws : List Str) (y4 : Option V), Dr st c (b + Np + 1 + i * Np) H H' ∧ H' p = some (.lst (ws.map V.str)) ∧ (p ≠ st ∧ p ≠ c) ∧ H p = none ∧ ws.length ≤ Np + i * (Np + 1) ∧ Gc ws ∧ σ = [some (.ref st), some (.ref nm), some (.int deep), some (.ref p), y4]) ⟨p, ws, none, by rw [Nat.zero_mul]; exact d4, ep4, hpn, hpf, by rw [Nat.zero_mul]; exact hl, .base hws, rfl⟩ (fun _ _ _ _ _ => trivial) (fun i v σ HA HB hi hP hy => ?_) (fun σ HA hP => ?_)⟩
    · obtain ⟨p, ws, y4, dA, ep, hpn, hpf, hl, hws, rfl⟩ := hP
      obtain ⟨rfl, rfl⟩ := hy
      have him : i ≤ 1 := by omega
      have hi1 : i * Np ≤ 1 * Np := Nat.mul_le_mul_right _ him
      have hi2 : i * (Np + 1) ≤ 1 * (Np + 1) := Nat.mul_le_mul_right _ him
      refine ⟨_, rfl, by show 1 ≤ sizeLine; decide, fun p1 hp1 => ?_⟩
      have dB := dA.new (o := .lst [.str ","]) hp1
      have e1 : (upd HB p1 (.lst [.str ","])) p1 = some (.lst (([","] : List Str).map V.str)) := upd_same
      have ep1 := (upd_ne (H := HB) (o := .lst [.str ","]) (ne_of_none ep hp1)).trans ep
      generalize upd HB p1 (.lst [.str ","]) = H5 at dB e1 ep1 ⊢
      refine rcat ep1 e1 (by show _ + 1 ≤ _; omega) fun p3 H6 hp3 s3 e3 => ?_
      have dC := dB.same s3
      have n3 := dB.nb hp3
      refine ⟨_, rfl, _, rfl, _, rfl, hp _ _ _ _ ⟨st, c, nm, _, ns, deep, rfl, dC.1, by omega, hnm.dr dC, hdeep, fun p4 ws4 H7 hp4f hp4n d5 e4 hl4 hws4 => ?_⟩⟩
      have e3' := d5.2 _ _ n3.1 n3.2 e3
      refine rcat e3' e4 (by rw [List.length_append, List.length_singleton]; omega) fun p5 H8 hp5 s5 e5 => ?_
      have dD := dC.trans d5
      refine ⟨p5, (ws ++ ([","] : List Str)) ++ ws4, _, (dD.same s5).mono ?_, e5, dD.nb hp5, dD.free hp5, ?_, .more hws hws4, rfl⟩
      · rw [Nat.add_mul]; omega
      · rw [List.length_append, List.length_append, List.length_singleton, Nat.add_mul i]; omega
    · obtain ⟨p, ws, y4, dA, ep, hpn, hpf, hl, hws, rfl⟩ := hP
      have him : ((m : Int)).toNat ≤ 2 := by omega
      have hi1 : ((m : Int)).toNat * Np ≤ 2 * Np := Nat.mul_le_mul_right _ him
      have hi2 : ((m : Int)).toNat * (Np + 1) ≤ 2 * (Np + 1) := Nat.mul_le_mul_right _ him
      exact ⟨_, rfl, q p ws HA hpf hpn (dA.mono (by omega)) ep (by omega) hws⟩
theorem part_all (T : Facts K mg w) {k N Np : Nat} {n : Int} {spp : Sp} (hk : 2 ≤ k) (R_L_single_words : FnG P w K mg base k T.f_L_single_words T.d_L_single_words ["_law_state", "_law_names_here", "_law_deep"] spp) (hp : ∀ vs H Q E, spG Gs Np n vs H Q E → spp vs H Q E) (hN : 3 * Np + 6 ≤ N) (hcap : N ≤ 100000) :
    FnG P w K mg base (k + 1) T.f_L_part_words T.d_L_part_words ["_law_state", "_law_names_here", "_law_deep"] (spG Gp N n) := by
  refine fnG_of T.F_L_part_words sc_L_part_words (fun vs H Q E h => ?_) (fun cdv A outer s H vs Q hG hr h => ?_)
  · obtain ⟨_, _, _, _, _, _, rfl, _⟩ := h; rfl
  · obtain ⟨st, c, nm, b, ns, deep, rfl, hst, hb, hnm, hdeep, q⟩ := h
    have RR_L_single_words := hr
    replace hr := hr.mono hk
    refine ⟨_, (pss_cons (ps_set (i := 3) sc_L_part_words.nd rfl (.inl rfl) (pe_go R_L_single_words hG RR_L_single_words (by rfl) T.g_L_single_words T.F_L_single_words.kp T.b_L_single_words (pa_cons (pv 0) (pa_cons (pv 1) (pa_cons (pv 2) pa_nil)))))
        (pss_cons (ps_for PassesOwn.never rfl (pi_range1 (by rfl) T.n_range (pa_cons (pe_ix ix_list (pe_lst (pa_cons pe_int (pa_cons pe_int (pa_cons pe_int (pa_cons pe_int pa_nil))))) (pe_go (ok_L_take T) hG (hr.mono (by decide)) (by rfl) T.g_L_take T.F_L_take.kp T.b_L_take (pa_cons (pv 0) (pa_cons pe_int pa_nil))) (fun _ _ => rfl)) pa_nil)) (pg_name (i := 4) sc_L_part_words.nd rfl (.inl rfl)) (pss_cons (ps_set (i := 3) sc_L_part_words.nd rfl (.inl rfl) (pe_op op_cat (pv 3) (pe_lst (pa_cons (pe_go (ok_L_some T) hG (hr.mono (by decide)) (by rfl) T.g_L_some T.F_L_some.kp T.b_L_some (pa_cons (pv 0) (pa_cons (pe_lst (pa_cons pe_str (pa_cons pe_str (pa_cons pe_str (pa_cons pe_str (pa_cons pe_str (pa_cons pe_str (pa_cons pe_str pa_nil)))))))) pa_nil))) pa_nil))))
        (pss_one (ps_set (i := 3) sc_L_part_words.nd rfl (.inl rfl) (pe_op op_cat (pv 3) (pe_go R_L_single_words hG RR_L_single_words (by rfl) T.g_L_single_words T.F_L_single_words.kp T.b_L_single_words (pa_cons (pv 0) (pa_cons (pv 1) (pa_cons (pe_op op_sub (pv 2) pe_int) pa_nil)))))))))
        (pss_one (ps_ret (pv 3))))), ?_⟩
    have hsl : (5000000 : Nat) ≤ sizeLine := by decide
    have hc : cap = 1000000000 := rfl
    refine ⟨_, rfl, _, rfl, _, rfl, hp _ _ _ _ ⟨st, c, nm, b, ns, deep, rfl, hst, by omega, hnm, hdeep, fun p ws H1 hpf hpn d1 ep hl hws => ?_⟩⟩
    refine ⟨by show 4 ≤ sizeLine; decide, fun p2 hp2 => ?_⟩
    have d2 := d1.new (o := .lst [.int 0, .int 0, .int 1, .int 2]) hp2
    have e2 : (upd H1 p2 (.lst [.int 0, .int 0, .int 1, .int 2])) p2 = some (.lst [.int 0, .int 0, .int 1, .int 2]) := upd_same
    have ep2 := (upd_ne (H := H1) (o := .lst [.int 0, .int 0, .int 1, .int 2]) (ne_of_none ep hp2)).trans ep
    have n2 := d1.nb hp2
    generalize upd H1 p2 (.lst [.int 0, .int 0, .int 1, .int 2]) = H2 at d2 e2 ep2 ⊢
    refine ⟨_, rfl, st, c, _, 4, rfl, d2.1, by omega, by decide, by decide, fun v H3 v0 v1 d3 => ?_⟩
    have d4 := d2.trans d3
    obtain ⟨m, hm, hm2⟩ : ∃ m : Nat, atI [V.int 0, .int 0, .int 1, .int 2] v = some (.int (m : Int)) ∧ m ≤ 2 := by
      have : v = 0 ∨ v = 1 ∨ v = 2 ∨ v = 3 := by omega
      rcases this with rfl | rfl | rfl | rfl
      · exact ⟨0, atI_nat (j := 0) rfl, by omega⟩
      · exact ⟨0, atI_nat (j := 1) rfl, by omega⟩
      · exact ⟨1, atI_nat (j := 2) rfl, by omega⟩
      · exact ⟨2, atI_nat (j := 3) rfl, by omega⟩
    refine ⟨p2, _, v, _, rfl, rfl, SqL.of (d3.2 _ _ n2.1 n2.2 e2), hm, ?_⟩
    have ep4 := d3.2 _ _ hpn.1 hpn.2 ep2
    refine ⟨(m : Int), rfl, by omega, by omega, for_it walk_range (fun i σ H' => ∃ (p : Addr) (ws : List Str) (y4 : Option V), Dr st c (b + Np + 1 + i * (Np + 1)) H H' ∧ H' p = some (.lst (ws.map V.str)) ∧ (p ≠ st ∧ p ≠ c) ∧ H p = none ∧ ws.length ≤ Np + i * (Np + 1) ∧ Gp ws ∧ σ = [some (.ref st), some (.ref nm), some (.int deep), some (.ref p), y4]) ⟨p, ws, none, by rw [Nat.zero_mul]; exact d4, ep4, hpn, hpf, by rw [Nat.zero_mul]; exact hl, .base hws, rfl⟩ (fun _ _ _ _ _ => trivial) (fun i v σ HA HB hi hP hy => ?_) (fun σ HA hP => ?_)⟩
    · obtain ⟨p, ws, y4, dA, ep, hpn, hpf, hl, hws, rfl⟩ := hP
      obtain ⟨rfl, rfl⟩ := hy
      have him : i ≤ 1 := by omega
      have hi2 : i * (Np + 1) ≤ 1 * (Np + 1) := Nat.mul_le_mul_right _ him
      refine ⟨_, rfl, _, rfl, by show 7 ≤ sizeLine; decide, fun p1 hp1 => ?_⟩
      have dB := dA.new (o := .lst [.str "+", .str "-", .str "*", .str "&", .str "=", .str "<", .str "at"]) hp1
      have e1 : (upd HB p1 (.lst [.str "+", .str "-", .str "*", .str "&", .str "=", .str "<", .str "at"])) p1 = some (.lst ((["+", "-", "*", "&", "=", "<", "at"] : List Str).map V.str)) := upd_same
      have ep1 := (upd_ne (H := HB) (o := .lst [.str "+", .str "-", .str "*", .str "&", .str "=", .str "<", .str "at"]) (ne_of_none ep hp1)).trans ep
      have n1 := dA.nb hp1
      generalize upd HB p1 (.lst [.str "+", .str "-", .str "*", .str "&", .str "=", .str "<", .str "at"]) = H5 at dB e1 ep1 ⊢
      refine ⟨st, c, _, _, _, rfl, dB.1, by omega, by simp, by show 7 ≤ 100000; decide, .inl ⟨p1, rfl, n1, e1⟩, fun y H6 hy d6 => ?_⟩
      obtain ⟨op, hop, rfl⟩ := List.mem_map.mp hy
      have ep6 := d6.2 _ _ hpn.1 hpn.2 ep1
      have dC := dB.trans d6
      refine ⟨by show 1 ≤ sizeLine; decide, fun p7 hp7 => ?_⟩
      have dD := dC.new (o := .lst [.str op]) hp7
      have e7 : (upd H6 p7 (.lst [.str op])) p7 = some (.lst (([op] : List Str).map V.str)) := upd_same
      have ep7 := (upd_ne (H := H6) (o := .lst [.str op]) (ne_of_none ep6 hp7)).trans ep6
      generalize upd H6 p7 (.lst [.str op]) = H7 at dD e7 ep7 ⊢
      refine rcat ep7 e7 (by show _ + 1 ≤ _; omega) fun p8 H8 hp8 s8 e8 => ?_
      have dE := dD.same s8
      have n8 := dD.nb hp8
      have f8 := dD.free hp8
      refine ⟨_, rfl, _, rfl, _, rfl, _, rfl, _, _, rfl, rfl, hp _ _ _ _ ⟨st, c, nm, _, ns, _, rfl, dE.1, by omega, hnm.dr dE, by omega, fun p4 ws4 H9 hp4f hp4n d5 e4 hl4 hws4 => ?_⟩⟩
      have e3' := d5.2 _ _ n8.1 n8.2 e8
      refine rcat e3' e4 (by rw [List.length_append, List.length_singleton]; omega) fun p5 HC hp5 s5 e5 => ?_
      have dF := dE.trans d5
      refine ⟨p5, (ws ++ [op]) ++ ws4, _, (dF.same s5).mono ?_, e5, dF.nb hp5, dF.free hp5, ?_, .more hws hop hws4, rfl⟩
      · rw [Nat.add_mul i]; omega
      · rw [List.length_append, List.length_append, List.length_singleton, Nat.add_mul i]; omega
    · obtain ⟨p, ws, y4, dA, ep, hpn, hpf, hl, hws, rfl⟩ := hP
      have him : ((m : Int)).toNat ≤ 2 := by omega
      have hi2 : ((m : Int)).toNat * (Np + 1) ≤ 2 * (Np + 1) := Nat.mul_le_mul_right _ him
      exact ⟨_, rfl, q p ws HA hpf hpn (dA.mono (by omega)) ep (by omega) hws⟩
theorem single_all (T : Facts K mg w) {k N Nc Np : Nat} {n : Int} {spc spp : Sp} (hk : 2 ≤ k) (R_L_comma_words : FnG P w K mg base k T.f_L_comma_words T.d_L_comma_words ["_law_state", "_law_names_here", "_law_deep"] spc) (R_L_part_words : FnG P w K mg base k T.f_L_part_words T.d_L_part_words ["_law_state", "_law_names_here", "_law_deep"] spp)
    (hc : 1 ≤ n → ∀ vs H Q E, spG Gc Nc (n - 1) vs H Q E → spc vs H Q E) (hp : 1 ≤ n → ∀ vs H Q E, spG Gp Np (n - 1) vs H Q E → spp vs H Q E) (hN : 5 ≤ N) (hNc : Nc + 5 ≤ N) (hNp : 3 * Np + 6 ≤ N) (hcap : N ≤ 100000) :
    FnG P w K mg base (k + 1) T.f_L_single_words T.d_L_single_words ["_law_state", "_law_names_here", "_law_deep"] (spG Gs N n) := by
  refine fnG_of T.F_L_single_words sc_L_single_words (fun vs H Q E h => ?_) (fun cdv A outer s H vs Q hG hr h => ?_)
  · obtain ⟨_, _, _, _, _, _, rfl, _⟩ := h; rfl
  · obtain ⟨st, c, nm, b, ns, deep, rfl, hst, hb, hnm, hdeep, q⟩ := h
    have RR_L_comma_words := hr
    have RR_L_part_words := hr
    replace hr := hr.mono hk
    refine ⟨_, (pss_cons (ps_par (i := 3) (j := 4) (by rfl) sc_L_single_words.nd rfl rfl (by decide) rfl rfl (pa_cons (pe_go (ok_L_take T) hG (hr.mono (by decide)) (by rfl) T.g_L_take T.F_L_take.kp T.b_L_take (pa_cons (pv 0) (pa_cons pe_int pa_nil))) (pa_cons (pe_go (ok_L_some T) hG (hr.mono (by decide)) (by rfl) T.g_L_some T.F_L_some.kp T.b_L_some (pa_cons (pv 0) (pa_cons (pv 1) pa_nil))) pa_nil)) (by rfl))
        (pss_cons (ps_if (PW.pt (pw_or (pt_cmpR op_lt (pv 3) pe_int (nomark _)) (pw_or1 (pt_cmpR op_lt (pv 2) pe_int (nomark _))))) (pss_cons (ps_set (i := 5) sc_L_single_words.nd rfl (.inl rfl) (pe_lst (pa_cons pe_str (pa_cons pe_str (pa_cons pe_str (pa_cons pe_str (pa_cons pe_str (pa_cons pe_str (pa_cons pe_str (pa_cons pe_str (pa_cons pe_str (pa_cons (pe_callTy call_strA (by rfl) T.n_str (by decide +kernel) (pa_cons (pe_go (ok_L_take T) hG (hr.mono (by decide)) (by rfl) T.g_L_take T.F_L_take.kp T.b_L_take (pa_cons (pv 0) (pa_cons pe_int pa_nil))) pa_nil)) pa_nil))))))))))))
        (pss_one (ps_ret (pe_lst (pa_cons (pe_go (ok_L_some T) hG (hr.mono (by decide)) (by rfl) T.g_L_some T.F_L_some.kp T.b_L_some (pa_cons (pv 0) (pa_cons (pe_op op_cat (pv 5) (pe_op op_rep (pe_lst (pa_cons (pv 4) pa_nil)) pe_int)) pa_nil))) pa_nil))))) pss_nil)
        (pss_cons (ps_if (pt_cmpR op_lt (pv 3) pe_int (nomark _)) (pss_one (ps_ret (pe_op op_cat (pe_op op_cat (pe_lst (pa_cons (pv 4) (pa_cons pe_str pa_nil))) (pe_go R_L_comma_words hG RR_L_comma_words (by rfl) T.g_L_comma_words T.F_L_comma_words.kp T.b_L_comma_words (pa_cons (pv 0) (pa_cons (pv 1) (pa_cons (pe_op op_sub (pv 2) pe_int) pa_nil))))) (pe_lst (pa_cons pe_str pa_nil))))) pss_nil)
        (pss_cons (ps_if (pt_cmpR op_lt (pv 3) pe_int (nomark _)) (pss_one (ps_ret (pe_op op_cat (pe_op op_cat (pe_lst (pa_cons pe_str pa_nil)) (pe_go R_L_comma_words hG RR_L_comma_words (by rfl) T.g_L_comma_words T.F_L_comma_words.kp T.b_L_comma_words (pa_cons (pv 0) (pa_cons (pv 1) (pa_cons (pe_op op_sub (pv 2) pe_int) pa_nil))))) (pe_lst (pa_cons pe_str pa_nil))))) pss_nil)
        (pss_cons (ps_if (pt_cmpR op_lt (pv 3) pe_int (nomark _)) (pss_one (ps_ret (pe_op op_cat (pe_op op_cat (pe_lst (pa_cons pe_str pa_nil)) (pe_go R_L_part_words hG RR_L_part_words (by rfl) T.g_L_part_words T.F_L_part_words.kp T.b_L_part_words (pa_cons (pv 0) (pa_cons (pv 1) (pa_cons (pe_op op_sub (pv 2) pe_int) pa_nil))))) (pe_lst (pa_cons pe_str pa_nil))))) pss_nil)
        (pss_cons (ps_set (i := 6) sc_L_single_words.nd rfl (.inl rfl) (pe_op op_cat (pe_op op_cat (pe_op op_cat (pe_lst (pa_cons pe_str pa_nil)) (pe_go R_L_part_words hG RR_L_part_words (by rfl) T.g_L_part_words T.F_L_part_words.kp T.b_L_part_words (pa_cons (pv 0) (pa_cons (pv 1) (pa_cons (pe_op op_sub (pv 2) pe_int) pa_nil))))) (pe_lst (pa_cons pe_str pa_nil))) (pe_go R_L_part_words hG RR_L_part_words (by rfl) T.g_L_part_words T.F_L_part_words.kp T.b_L_part_words (pa_cons (pv 0) (pa_cons (pv 1) (pa_cons (pe_op op_sub (pv 2) pe_int) pa_nil))))))
        (pss_one (ps_ret (pe_op op_cat (pe_op op_cat (pv 6) (pe_lst (pa_cons pe_str pa_nil))) (pe_go R_L_part_words hG RR_L_part_words (by rfl) T.g_L_part_words T.F_L_part_words.kp T.b_L_part_words (pa_cons (pv 0) (pa_cons (pv 1) (pa_cons (pe_op op_sub (pv 2) pe_int) pa_nil))))))))))))), ?_⟩
    have hsl : (5000000 : Nat) ≤ sizeLine := by decide
    have hcp : cap = 1000000000 := rfl
    refine ⟨_, rfl, st, c, b, 12, rfl, hst, by omega, by decide, by decide, fun way H1 w0 w1 d1 => ?_⟩
    have hnm1 := hnm.dr d1
    refine ⟨_, rfl, _, rfl, st, c, _, _, _, rfl, d1.1, by omega, by simpa using hnm1.2.2.1, by rw [List.length_map]; have := hnm1.2.2.2.1; omega, .inl ⟨nm, rfl, hnm1.2.1, hnm1.1⟩, fun y H2 hy d2 => ?_⟩
    obtain ⟨name, hname, rfl⟩ := List.mem_map.mp hy
    have hws := hnm1.2.2.2.2 name hname
    have dA := d1.trans d2
    have hnA := hnm.dr dA
    clear d1 d2 hnm1
    refine ⟨_, _, rfl, ?_⟩
    dsimp only
    refine seq_viaR (fun σ' H' => H' = H2 ∧ 1 ≤ deep ∧ σ' = [some (.ref st), some (.ref nm), some (.int deep), some (.int way), some (.str name), none, none]) (fun D' kk => ?_) (fun σ' H' hP => ?_)
    · refine ⟨_, rfl, _, _, rfl, rfl, _, rfl, ite2 (fun h1 => ?l1) (fun h1 => ⟨_, rfl, _, _, rfl, rfl, _, rfl, ite2 (fun h2 => ?l2) (fun h2 => ?kx)⟩)⟩
      case kx =>
        have h2 : ¬ deep < 1 := fun h => h2 (decide_eq_true h)
        exact kk _ _ ⟨rfl, by omega, rfl⟩
      all_goals (
        refine ⟨_, rfl, st, c, _, 1000000, rfl, dA.1, by omega, by decide, by decide, fun v H3 v0 v1 d3 => ⟨v, .inl ⟨rfl, by have := log_small (n := v.natAbs) (by omega); omega, ?_⟩⟩⟩
        have hvw := num_low v0 v1
        refine ⟨by show 10 ≤ sizeLine; decide, fun p1 hp1 => ?_⟩
        have dB := dA.trans d3
        have dC := dB.new (o := .lst [.str "0", .str "7", .str "000", .str "999999", .str "\"\"", .str "\"a b\"", .str "\"let (\"", .str "yes", .str "no", .str (toString v : String)]) hp1
        have e1 : (upd H3 p1 (.lst [.str "0", .str "7", .str "000", .str "999999", .str "\"\"", .str "\"a b\"", .str "\"let (\"", .str "yes", .str "no", .str (toString v : String)])) p1 = some (.lst ((["0", "7", "000", "999999", "\"\"", "\"a b\"", "\"let (\"", "yes", "no", (toString v : String)] : List Str).map V.str)) := upd_same
        generalize upd H3 p1 (.lst [.str "0", .str "7", .str "000", .str "999999", .str "\"\"", .str "\"a b\"", .str "\"let (\"", .str "yes", .str "no", .str (toString v : String)]) = H4 at dC e1 ⊢
        have hl10 : ∀ x ∈ (["0", "7", "000", "999999", "\"\"", "\"a b\"", "\"let (\"", "yes", "no", (toString v : String)] : List Str), LoW x := fun x hx => by
          rcases List.mem_append.mp (show x ∈ (["0", "7", "000", "999999", "\"\"", "\"a b\"", "\"let (\"", "yes", "no"] : List Str) ++ [((toString v : String) : Str)] from hx) with hx | hx
          · exact .inl hx
          · rw [List.mem_singleton.mp hx]; exact hvw
        refine ⟨_, rfl, _, rfl, _, rfl, by show 1 ≤ sizeLine; decide, fun p2 hp2 => ?_⟩
        have e2 : (upd H4 p2 (.lst [.str name])) p2 = some (.lst [.str name]) := upd_same
        have dD := dC.new (o := .lst [.str name]) hp2
        have e1' := (upd_ne (H := H4) (o := .lst [.str name]) (ne_of_none e1 hp2)).trans e1
        generalize upd H4 p2 (.lst [.str name]) = H5 at dD e2 e1' ⊢
        refine ⟨p2, 6, _, rfl, rfl, e2, by decide, by decide, by show 1 * 6 ≤ sizeLine; decide, fun p3 hp3 => ?_⟩
        have e3 : (upd H5 p3 (.lst (List.replicate (6 : Int).toNat [V.str name]).flatten)) p3 = some (.lst ((List.replicate 6 name).map V.str)) := upd_same
        have dE := dD.new (o := .lst (List.replicate (6 : Int).toNat [V.str name]).flatten) hp3
        have e1'' := (upd_ne (H := H5) (o := .lst (List.replicate (6 : Int).toNat [V.str name]).flatten) (ne_of_none e1' hp3)).trans e1'
        generalize upd H5 p3 (.lst (List.replicate (6 : Int).toNat [V.str name]).flatten) = H6 at dE e3 e1'' ⊢
        refine rcat e1'' e3 (by show 10 + 6 ≤ _; decide) fun p4 H7 hp4 s4 e4 => ?_
        have dF := dE.same s4
        refine ⟨st, c, _, _, _, rfl, dF.1, by omega, by simp, by show 16 ≤ 100000; decide, .inl ⟨p4, rfl, dE.nb hp4, e4⟩, fun y H8 hy d8 => ?_⟩
        obtain ⟨z, hz, rfl⟩ := List.mem_map.mp hy
        have hz8 : Gs [z] := by
          rcases List.mem_append.mp hz with hz | hz
          · exact .lone (hl10 z hz)
          · rw [List.eq_of_mem_replicate hz]; exact .name hws
        have dG := dF.trans d8
        refine ⟨by show 1 ≤ sizeLine; decide, fun p5 hp5 => ?_⟩
        exact q p5 [z] _ (dG.free hp5) (dG.nb hp5) ((dG.new hp5).mono (by omega)) upd_same (by show 1 ≤ N; omega) hz8)
    · obtain ⟨rfl, h1, rfl⟩ := hP
      have hn1 : 1 ≤ n := by omega
      refine seq_viaR (fun σ' H'' => H'' = H' ∧ σ' = [some (.ref st), some (.ref nm), some (.int deep), some (.int way), some (.str name), none, none]) (fun D' kk => ?_) (fun σ' H'' hP => ?_)
      · refine ⟨_, rfl, _, _, rfl, rfl, _, rfl, ite2 (fun h2 => ?_) (fun h2 => kk _ _ ⟨rfl, rfl⟩)⟩
        refine ⟨_, rfl, by show 2 ≤ sizeLine; decide, fun p1 hp1 => ?_⟩
        have dB := dA.new (o := .lst [.str name, .str "("]) hp1
        have e1 : (upd H' p1 (.lst [.str name, .str "("])) p1 = some (.lst (([name, "("] : List Str).map V.str)) := upd_same
        have n1 := dA.nb hp1
        generalize upd H' p1 (.lst [.str name, .str "("]) = H4 at dB e1 ⊢
        refine ⟨_, rfl, _, rfl, _, rfl, _, _, rfl, rfl, hc hn1 _ _ _ _ ⟨st, c, nm, _, ns, _, rfl, dB.1, by omega, hnm.dr dB, by omega, fun p4 ws4 H7 hp4f hp4n d5 e4 hl4 hws4 => ?_⟩⟩
        have e1' := d5.2 _ _ n1.1 n1.2 e1
        have dC := dB.trans d5
        refine rcat e1' e4 (by show 2 + _ ≤ _; omega) fun p5 H8 hp5 s5 e5 => ?_
        have dD := dC.same s5
        refine ⟨by show 1 ≤ sizeLine; decide, fun p6 hp6 => ?_⟩
        have dE := dD.new (o := .lst [.str ")"]) hp6
        have e6 : (upd H8 p6 (.lst [.str ")"])) p6 = some (.lst (([")"] : List Str).map V.str)) := upd_same
        have e5' := (upd_ne (H := H8) (o := .lst [.str ")"]) (ne_of_none e5 hp6)).trans e5
        generalize upd H8 p6 (.lst [.str ")"]) = H9 at dE e6 e5' ⊢
        refine rcat e5' e6 (by rw [List.length_append]; show 2 + _ + 1 ≤ _; omega) fun p7 HA hp7 s7 e7 => ?_
        have dF := dE.same s7
        refine q p7 _ HA (dE.free hp7) (dE.nb hp7) (dF.mono (by omega)) e7 ?_ (.call hws hws4)
        rw [List.length_append, List.length_append]; show 2 + _ + 1 ≤ _; omega
      · obtain ⟨rfl, rfl⟩ := hP
        refine seq_viaR (fun σ' H' => H' = H'' ∧ σ' = [some (.ref st), some (.ref nm), some (.int deep), some (.int way), some (.str name), none, none]) (fun D' kk => ?_) (fun σ' H' hP => ?_)
        · refine ⟨_, rfl, _, _, rfl, rfl, _, rfl, ite2 (fun h2 => ?_) (fun h2 => kk _ _ ⟨rfl, rfl⟩)⟩
          refine ⟨by show 1 ≤ sizeLine; decide, fun p1 hp1 => ?_⟩
          have dB := dA.new (o := .lst [.str "["]) hp1
          have e1 : (upd H'' p1 (.lst [.str "["])) p1 = some (.lst ((["["] : List Str).map V.str)) := upd_same
          have n1 := dA.nb hp1
          generalize upd H'' p1 (.lst [.str "["]) = H4 at dB e1 ⊢
          refine ⟨_, rfl, _, rfl, _, rfl, _, _, rfl, rfl, hc hn1 _ _ _ _ ⟨st, c, nm, _, ns, _, rfl, dB.1, by omega, hnm.dr dB, by omega, fun p4 ws4 H7 hp4f hp4n d5 e4 hl4 hws4 => ?_⟩⟩
          have e1' := d5.2 _ _ n1.1 n1.2 e1
          have dC := dB.trans d5
          refine rcat e1' e4 (by show 1 + _ ≤ _; omega) fun p5 H8 hp5 s5 e5 => ?_
          have dD := dC.same s5
          refine ⟨by show 1 ≤ sizeLine; decide, fun p6 hp6 => ?_⟩
          have dE := dD.new (o := .lst [.str "]"]) hp6
          have e6 : (upd H8 p6 (.lst [.str "]"])) p6 = some (.lst ((["]"] : List Str).map V.str)) := upd_same
          have e5' := (upd_ne (H := H8) (o := .lst [.str "]"]) (ne_of_none e5 hp6)).trans e5
          generalize upd H8 p6 (.lst [.str "]"]) = H9 at dE e6 e5' ⊢
          refine rcat e5' e6 (by rw [List.length_append]; show 1 + _ + 1 ≤ _; omega) fun p7 HA hp7 s7 e7 => ?_
          have dF := dE.same s7
          refine q p7 _ HA (dE.free hp7) (dE.nb hp7) (dF.mono (by omega)) e7 ?_ (.sq hws4)
          rw [List.length_append, List.length_append]; show 1 + _ + 1 ≤ _; omega
        · obtain ⟨rfl, rfl⟩ := hP
          refine seq_viaR (fun σ' H'' => H'' = H' ∧ σ' = [some (.ref st), some (.ref nm), some (.int deep), some (.int way), some (.str name), none, none]) (fun D' kk => ?_) (fun σ' H'' hP => ?_)
          · refine ⟨_, rfl, _, _, rfl, rfl, _, rfl, ite2 (fun h2 => ?_) (fun h2 => kk _ _ ⟨rfl, rfl⟩)⟩
            refine ⟨by show 1 ≤ sizeLine; decide, fun p1 hp1 => ?_⟩
            have dB := dA.new (o := .lst [.str "("]) hp1
            have e1 : (upd H' p1 (.lst [.str "("])) p1 = some (.lst ((["("] : List Str).map V.str)) := upd_same
            have n1 := dA.nb hp1
            generalize upd H' p1 (.lst [.str "("]) = H4 at dB e1 ⊢
            refine ⟨_, rfl, _, rfl, _, rfl, _, _, rfl, rfl, hp hn1 _ _ _ _ ⟨st, c, nm, _, ns, _, rfl, dB.1, by omega, hnm.dr dB, by omega, fun p4 ws4 H7 hp4f hp4n d5 e4 hl4 hws4 => ?_⟩⟩
            have e1' := d5.2 _ _ n1.1 n1.2 e1
            have dC := dB.trans d5
            refine rcat e1' e4 (by show 1 + _ ≤ _; omega) fun p5 H8 hp5 s5 e5 => ?_
            have dD := dC.same s5
            refine ⟨by show 1 ≤ sizeLine; decide, fun p6 hp6 => ?_⟩
            have dE := dD.new (o := .lst [.str ")"]) hp6
            have e6 : (upd H8 p6 (.lst [.str ")"])) p6 = some (.lst (([")"] : List Str).map V.str)) := upd_same
            have e5' := (upd_ne (H := H8) (o := .lst [.str ")"]) (ne_of_none e5 hp6)).trans e5
            generalize upd H8 p6 (.lst [.str ")"]) = H9 at dE e6 e5' ⊢
            refine rcat e5' e6 (by rw [List.length_append]; show 1 + _ + 1 ≤ _; omega) fun p7 HA hp7 s7 e7 => ?_
            have dF := dE.same s7
            refine q p7 _ HA (dE.free hp7) (dE.nb hp7) (dF.mono (by omega)) e7 ?_ (.rd hws4)
            rw [List.length_append, List.length_append]; show 1 + _ + 1 ≤ _; omega
          · obtain ⟨rfl, rfl⟩ := hP
            refine ⟨by show 1 ≤ sizeLine; decide, fun p1 hp1 => ?_⟩
            have dB := dA.new (o := .lst [.str "if"]) hp1
            have e1 : (upd H'' p1 (.lst [.str "if"])) p1 = some (.lst ((["if"] : List Str).map V.str)) := upd_same
            have n1 := dA.nb hp1
            generalize upd H'' p1 (.lst [.str "if"]) = H4 at dB e1 ⊢
            refine ⟨_, rfl, _, rfl, _, rfl, _, _, rfl, rfl, hp hn1 _ _ _ _ ⟨st, c, nm, _, ns, _, rfl, dB.1, by omega, hnm.dr dB, by omega, fun p4 ws4 H7 hp4f hp4n d5 e4 hl4 hws4 => ?_⟩⟩
            have e1' := d5.2 _ _ n1.1 n1.2 e1
            have dC := dB.trans d5
            refine rcat e1' e4 (by show 1 + _ ≤ _; omega) fun p5 H8 hp5 s5 e5 => ?_
            have dD := dC.same s5
            refine ⟨by show 1 ≤ sizeLine; decide, fun p6 hp6 => ?_⟩
            have dE := dD.new (o := .lst [.str "then"]) hp6
            have e6 : (upd H8 p6 (.lst [.str "then"])) p6 = some (.lst ((["then"] : List Str).map V.str)) := upd_same
            have e5' := (upd_ne (H := H8) (o := .lst [.str "then"]) (ne_of_none e5 hp6)).trans e5
            generalize upd H8 p6 (.lst [.str "then"]) = H9 at dE e6 e5' ⊢
            refine rcat e5' e6 (by rw [List.length_append]; show 1 + _ + 1 ≤ _; omega) fun p7 HA hp7 s7 e7 => ?_
            have dF := dE.same s7
            have n7 := dE.nb hp7
            have l7 : ((["if"] : List Str) ++ ws4 ++ (["then"] : List Str)).length ≤ Np + 2 := by rw [List.length_append, List.length_append]; show 1 + _ + 1 ≤ _; omega
            obtain ⟨wA, ewA⟩ : ∃ wA, wA = (["if"] : List Str) ++ ws4 ++ (["then"] : List Str) := ⟨_, rfl⟩
            rw [← ewA] at e7 l7
            clear e1 e1' e4 e5 e5' e6
            refine ⟨_, rfl, _, rfl, _, rfl, _, _, rfl, rfl, hp hn1 _ _ _ _ ⟨st, c, nm, _, ns, _, rfl, dF.1, by omega, hnm.dr dF, by omega, fun p8 ws8 HB hp8f hp8n d8 e8 hl8 hws8 => ?_⟩⟩
            have e7' := d8.2 _ _ n7.1 n7.2 e7
            have dG := dF.trans d8
            refine rcat e7' e8 (by omega) fun p9 HC hp9 s9 e9 => ?_
            have dH := dG.same s9
            have n9 := dG.nb hp9
            refine ⟨_, rfl, by show 1 ≤ sizeLine; decide, fun pA hpA => ?_⟩
            have dI := dH.new (o := .lst [.str "else"]) hpA
            have eA : (upd HC pA (.lst [.str "else"])) pA = some (.lst ((["else"] : List Str).map V.str)) := upd_same
            have e9' := (upd_ne (H := HC) (o := .lst [.str "else"]) (ne_of_none e9 hpA)).trans e9
            generalize upd HC pA (.lst [.str "else"]) = HD at dI eA e9' ⊢
            refine rcat e9' eA (by rw [List.length_append]; show _ + _ + 1 ≤ _; omega) fun pB HE hpB sB eB => ?_
            have dJ := dI.same sB
            have nB := dI.nb hpB
            have lB : (wA ++ ws8 ++ (["else"] : List Str)).length ≤ 2 * Np + 3 := by rw [List.length_append, List.length_append]; show _ + _ + 1 ≤ _; omega
            obtain ⟨wC, ewC⟩ : ∃ wC, wC = wA ++ ws8 ++ (["else"] : List Str) := ⟨_, rfl⟩
            rw [← ewC] at eB lB
            refine ⟨_, rfl, _, rfl, _, rfl, _, _, rfl, rfl, hp hn1 _ _ _ _ ⟨st, c, nm, _, ns, _, rfl, dJ.1, by omega, hnm.dr dJ, by omega, fun pC wsC HF hpCf hpCn dK eC hlC hwsC => ?_⟩⟩
            have eB' := dK.2 _ _ nB.1 nB.2 eB
            have dL := dJ.trans dK
            refine rcat eB' eC (by omega) fun pD HG hpD sD eD => ?_
            exact q pD _ HG (dL.free hpD) (dL.nb hpD) ((dL.same sD).mono (by omega)) eD (by rw [List.length_append]; omega) (by rw [ewC, ewA]; exact .iff hws4 hws8 hwsC)
/-- words of parts, to the depths that the law asks -/
theorem no_def {k : Nat} {f : Addr} {fd : FuncData} {a b c : Str} : FnG P w K mg base k f fd [a, b, c] (fun _ _ _ _ => False) := ⟨fun _ _ _ _ h => h.elim, fun _ _ _ _ _ _ _ _ _ _ _ _ _ h => h.elim⟩
theorem single_0 (T : Facts K mg w) : FnG P w K mg base 3 T.f_L_single_words T.d_L_single_words ["_law_state", "_law_names_here", "_law_deep"] (spG Gs 6 0) :=
  single_all T (k := 2) (N := 6) (Nc := 0) (Np := 0) (by decide) no_def no_def (fun h => absurd h (by decide)) (fun h => absurd h (by decide)) (by decide) (by decide) (by decide) (by decide)
theorem part_0 (T : Facts K mg w) : FnG P w K mg base 4 T.f_L_part_words T.d_L_part_words ["_law_state", "_law_names_here", "_law_deep"] (spG Gp 24 0) := part_all T (by decide) (single_0 T) (fun _ _ _ _ h => h) (by decide) (by decide)
theorem comma_0 (T : Facts K mg w) : FnG P w K mg base 5 T.f_L_comma_words T.d_L_comma_words ["_law_state", "_law_names_here", "_law_deep"] (spG Gc 75 0) := comma_all T (by decide) (part_0 T) (fun _ _ _ _ h => h) (by decide) (by decide)
theorem single_1 (T : Facts K mg w) : FnG P w K mg base 6 T.f_L_single_words T.d_L_single_words ["_law_state", "_law_names_here", "_law_deep"] (spG Gs 80 1) :=
  single_all T (by decide) (comma_0 T) ((part_0 T).mono (by decide)) (fun _ _ _ _ _ h => h) (fun _ _ _ _ _ h => h) (by decide) (by decide) (by decide) (by decide)
theorem part_1 (T : Facts K mg w) : FnG P w K mg base 7 T.f_L_part_words T.d_L_part_words ["_law_state", "_law_names_here", "_law_deep"] (spG Gp 246 1) := part_all T (by decide) (single_1 T) (fun _ _ _ _ h => h) (by decide) (by decide)
theorem comma_1 (T : Facts K mg w) : FnG P w K mg base 8 T.f_L_comma_words T.d_L_comma_words ["_law_state", "_law_names_here", "_law_deep"] (spG Gc 741 1) := comma_all T (by decide) (part_1 T) (fun _ _ _ _ h => h) (by decide) (by decide)
theorem single_2 (T : Facts K mg w) : FnG P w K mg base 9 T.f_L_single_words T.d_L_single_words ["_law_state", "_law_names_here", "_law_deep"] (spG Gs 746 2) :=
  single_all T (by decide) (comma_1 T) ((part_1 T).mono (by decide)) (fun _ _ _ _ _ h => h) (fun _ _ _ _ _ h => h) (by decide) (by decide) (by decide) (by decide)
theorem part_2 (T : Facts K mg w) : FnG P w K mg base 10 T.f_L_part_words T.d_L_part_words ["_law_state", "_law_names_here", "_law_deep"] (spG Gp 2244 2) := part_all T (by decide) (single_2 T) (fun _ _ _ _ h => h) (by decide) (by decide)
theorem comma_2 (T : Facts K mg w) : FnG P w K mg base 11 T.f_L_comma_words T.d_L_comma_words ["_law_state", "_law_names_here", "_law_deep"] (spG Gc 6735 2) := comma_all T (by decide) (part_2 T) (fun _ _ _ _ h => h) (by decide) (by decide)
theorem single_3 (T : Facts K mg w) : FnG P w K mg base 12 T.f_L_single_words T.d_L_single_words ["_law_state", "_law_names_here", "_law_deep"] (spG Gs 6740 3) :=
  single_all T (by decide) (comma_2 T) ((part_2 T).mono (by decide)) (fun _ _ _ _ _ h => h) (fun _ _ _ _ _ h => h) (by decide) (by decide) (by decide) (by decide)
theorem ok_L_part_words (T : Facts K mg w) : FnG P w K mg base 13 T.f_L_part_words T.d_L_part_words ["_law_state", "_law_names_here", "_law_deep"] (spG Gp 20226 3) := part_all T (by decide) (single_3 T) (fun _ _ _ _ h => h) (by decide) (by decide)
end K12

set_option maxHeartbeats 4000000
namespace K12
open PySem PySem.Spec PyProof.Rows L2 Gx Tk
variable {P : Program} {w : World} {K : PySem.W.Frag} {mg : Str → Option Value} {base : Heap}
def sp_row_words : Sp := fun vs H Q _ => ∃ (st c nm : Addr) (b : Nat) (ns : List Str), vs = [.ref st, .ref nm] ∧ IsSt H st c b ∧ b + 20400 ≤ cap ∧ Nmn H st c nm ns ∧ RetW st c b 20400 H Q (fun ws => ws.length ≤ 20400 ∧ Gr ws)
theorem ok_L_row_words (T : Facts K mg w) : FnG P w K mg base 14 T.f_L_row_words T.d_L_row_words ["_law_state", "_law_names_here"] sp_row_words := by
  refine fnG_of T.F_L_row_words sc_L_row_words (fun vs H Q E h => ?_) (fun cdv A outer s H vs Q hG hr h => ?_)
  · obtain ⟨_, _, _, _, _, rfl, _⟩ := h; rfl
  · obtain ⟨st, c, nm, b, ns, rfl, hst, hb, hnm, q⟩ := h
    refine ⟨_, (pss_cons (ps_par (i := 2) (j := 3) (by rfl) sc_L_row_words.nd rfl rfl (by decide) rfl rfl (pa_cons (pe_go (ok_L_take T) hG (hr.mono (by decide)) (by rfl) T.g_L_take T.F_L_take.kp T.b_L_take (pa_cons (pv 0) (pa_cons pe_int pa_nil))) (pa_cons (pe_go (ok_L_some T) hG (hr.mono (by decide)) (by rfl) T.g_L_some T.F_L_some.kp T.b_L_some (pa_cons (pv 0) (pa_cons (pv 1) pa_nil))) pa_nil)) (by rfl))
        (pss_cons (ps_if (pt_cmpR op_eq (pv 2) pe_int (nomark _)) (pss_one (ps_ret (pe_lst (pa_cons pe_str (pa_cons (pv 3) pa_nil))))) pss_nil)
        (pss_cons (ps_set (i := 4) sc_L_row_words.nd rfl (.inl rfl) (pe_go (ok_L_take T) hG (hr.mono (by decide)) (by rfl) T.g_L_take T.F_L_take.kp T.b_L_take (pa_cons (pv 0) (pa_cons pe_int pa_nil))))
        (pss_cons (ps_if (pt_cmpR op_lt (pv 2) pe_int (nomark _)) (pss_one (ps_ret (pe_op op_cat (pe_lst (pa_cons pe_str (pa_cons (pv 3) (pa_cons pe_str pa_nil)))) (pe_go (ok_L_part_words T) hG (hr.mono (by decide)) (by rfl) T.g_L_part_words T.F_L_part_words.kp T.b_L_part_words (pa_cons (pv 0) (pa_cons (pv 1) (pa_cons (pv 4) pa_nil))))))) pss_nil)
        (pss_cons (ps_set (i := 5) sc_L_row_words.nd rfl (.inl rfl) (pe_lst (pa_cons pe_str (pa_cons (pv 3) (pa_cons pe_str pa_nil)))))
        (pss_cons (ps_for PassesOwn.never rfl (pi_range1 (by rfl) T.n_range (pa_cons (pe_op op_add pe_int (pe_go (ok_L_take T) hG (hr.mono (by decide)) (by rfl) T.g_L_take T.F_L_take.kp T.b_L_take (pa_cons (pv 0) (pa_cons pe_int pa_nil)))) pa_nil)) (pg_name (i := 6) sc_L_row_words.nd rfl (.inl rfl)) (pss_cons (ps_set (i := 7) sc_L_row_words.nd rfl (.inl rfl) (pe_ix ix_list (pe_lst (pa_cons pe_str (pa_cons pe_str (pa_cons pe_str (pa_cons pe_str (pa_cons pe_str (pa_cons pe_str pa_nil))))))) (pe_go (ok_L_take T) hG (hr.mono (by decide)) (by rfl) T.g_L_take T.F_L_take.kp T.b_L_take (pa_cons (pv 0) (pa_cons pe_int pa_nil))) (fun _ _ => rfl)))
        (pss_one (ps_set (i := 5) sc_L_row_words.nd rfl (.inl rfl) (pe_op op_cat (pe_op op_cat (pv 5) (pe_op op_rep (pe_lst (pa_cons pe_str pa_nil)) (pe_callTy call_int1 (by rfl) T.n_int (by decide +kernel) (pa_cons (pe_cmpR op_gt (pv 6) pe_int (nomark _)) pa_nil)))) (pe_lst (pa_cons (pe_go (ok_L_some T) hG (hr.mono (by decide)) (by rfl) T.g_L_some T.F_L_some.kp T.b_L_some (pa_cons (pv 0) (pa_cons (pv 1) pa_nil))) (pa_cons (pv 7) pa_nil))))))))
        (pss_one (ps_ret (pe_op op_cat (pe_op op_cat (pv 5) (pe_lst (pa_cons pe_str (pa_cons pe_str pa_nil)))) (pe_go (ok_L_part_words T) hG (hr.mono (by decide)) (by rfl) T.g_L_part_words T.F_L_part_words.kp T.b_L_part_words (pa_cons (pv 0) (pa_cons (pv 1) (pa_cons (pv 4) pa_nil))))))))))))), ?_⟩
    have hsl : (5000000 : Nat) ≤ sizeLine := by decide
    have hcp : cap = 1000000000 := rfl
    refine ⟨_, rfl, st, c, b, 8, rfl, hst, by omega, by decide, by decide, fun way H1 w0 w1 d1 => ?_⟩
    have hnm1 := hnm.dr d1
    refine ⟨_, rfl, _, rfl, st, c, _, _, _, rfl, d1.1, by omega, by simpa using hnm1.2.2.1, by rw [List.length_map]; have := hnm1.2.2.2.1; omega, .inl ⟨nm, rfl, hnm1.2.1, hnm1.1⟩, fun y H2 hy d2 => ?_⟩
    obtain ⟨name, hname, rfl⟩ := List.mem_map.mp hy
    have hws := hnm1.2.2.2.2 name hname
    have dA := d1.trans d2
    clear d1 d2 hnm1
    refine ⟨_, _, rfl, ?_⟩
    refine ⟨_, rfl, rfl, _, rfl, ite2 (fun h1 => ?_) (fun h1 => ?_)⟩
    · refine ⟨_, rfl, by show 2 ≤ sizeLine; decide, fun p hp => ?_⟩
      exact q p [_, name] _ (dA.free hp) (dA.nb hp) ((dA.new hp).mono (by omega)) upd_same ⟨by show 2 ≤ _; omega, .take hws⟩
    · refine ⟨_, rfl, st, c, _, 4, rfl, dA.1, by omega, by decide, by decide, fun deep H3 v0 v1 d3 => ?_⟩
      have dB := dA.trans d3
      refine ⟨_, rfl, _, _, rfl, rfl, _, rfl, ite2 (fun h2 => ?_) (fun h2 => ?_)⟩
      · refine ⟨_, rfl, by show 3 ≤ sizeLine; decide, fun p1 hp1 => ?_⟩
        have dC := dB.new (o := .lst [.str "let", .str name, .str "="]) hp1
        have e1 : (upd H3 p1 (.lst [.str "let", .str name, .str "="])) p1 = some (.lst ((["let", name, "="] : List Str).map V.str)) := upd_same
        have n1 := dB.nb hp1
        generalize upd H3 p1 (.lst [.str "let", .str name, .str "="]) = H4 at dC e1 ⊢
        refine ⟨_, rfl, _, rfl, _, rfl, st, c, nm, _, ns, deep, rfl, dC.1, by omega, hnm.dr dC, by omega, fun p4 ws4 H7 hp4f hp4n d5 e4 hl4 hws4 => ?_⟩
        have e1' := d5.2 _ _ n1.1 n1.2 e1
        have dD := dC.trans d5
        refine rcat e1' e4 (by show 3 + _ ≤ _; omega) fun p5 H8 hp5 s5 e5 => ?_
        refine q p5 _ H8 (dD.free hp5) (dD.nb hp5) ((dD.same s5).mono (by omega)) e5 ⟨by rw [List.length_append]; show 3 + _ ≤ _; omega, .lets hws hws4⟩
      · refine ⟨_, rfl, by show 3 ≤ sizeLine; decide, fun p1 hp1 => ?_⟩
        have dC := dB.new (o := .lst [.str "def", .str name, .str "("]) hp1
        have e1 : (upd H3 p1 (.lst [.str "def", .str name, .str "("])) p1 = some (.lst ((["def", name, "("] : List Str).map V.str)) := upd_same
        have n1 := dB.nb hp1
        have f1 := dB.free hp1
        generalize upd H3 p1 (.lst [.str "def", .str name, .str "("]) = H4 at dC e1 ⊢
        have wd : GdF 0 ["def", name, "("] := .zero hws
        refine ⟨_, rfl, st, c, _, 3, rfl, dC.1, by omega, by decide, by decide, fun v H5 u0 u1 d5 => ⟨_, _, rfl, rfl, ?_⟩⟩
        have dD := dC.trans d5
        have e1' := d5.2 _ _ n1.1 n1.2 e1
        refine ⟨1 + v, rfl, by omega, by omega, for_it walk_range (fun i σ H' => ∃ (p : Addr) (ws : List Str) (y6 y7 : Option V), Dr st c (b + 4 + i * 2) H H' ∧ H' p = some (.lst (ws.map V.str)) ∧ (p ≠ st ∧ p ≠ c) ∧ H p = none ∧ ws.length ≤ 3 + i * 3 ∧ GdF i ws ∧ σ = [some (.ref st), some (.ref nm), some (.int way), some (.str name), some (.int deep), some (.ref p), y6, y7]) ⟨p1, _, none, none, dD.mono (by omega), e1', n1, f1, by show 3 ≤ _; omega, wd, rfl⟩ (fun _ _ _ _ _ => trivial) (fun i v σ HA HB hi hP hy => ?_) (fun σ HA hP => ?_)⟩
        · obtain ⟨p, ws, y6, y7, dE, ep, np, fp, hl, hwl, rfl⟩ := hP
          obtain ⟨rfl, rfl⟩ := hy
          have him : i ≤ 2 := by omega
          refine ⟨by show 6 ≤ sizeLine; decide, fun p2 hp2 => ?_⟩
          have dF := dE.new (o := .lst [.str "num", .str "word", .str "flag", .str "nums", .str "words", .str "flags"]) hp2
          have e2 : (upd HB p2 (.lst [.str "num", .str "word", .str "flag", .str "nums", .str "words", .str "flags"])) p2 = some (.lst ((["num", "word", "flag", "nums", "words", "flags"] : List Str).map V.str)) := upd_same
          have ep2 := (upd_ne (H := HB) (o := .lst [.str "num", .str "word", .str "flag", .str "nums", .str "words", .str "flags"]) (ne_of_none ep hp2)).trans ep
          have n2 := dE.nb hp2
          generalize upd HB p2 (.lst [.str "num", .str "word", .str "flag", .str "nums", .str "words", .str "flags"]) = H6 at dF e2 ep2 ⊢
          refine ⟨_, rfl, st, c, _, 6, rfl, dF.1, by omega, by decide, by decide, fun x H7 x0 x1 d7 => ?_⟩
          obtain ⟨y, hy, hym⟩ := item_at (xs := (["num", "word", "flag", "nums", "words", "flags"] : List Str).map V.str) x0 (by show x < 6; exact x1)
          obtain ⟨kind, hkind, rfl⟩ := List.mem_map.mp hym
          have dG := dF.trans d7
          have ep7 := d7.2 _ _ np.1 np.2 ep2
          refine ⟨p2, _, _, _, rfl, rfl, SqL.of (d7.2 _ _ n2.1 n2.2 e2), hy, ?_⟩
          refine ⟨_, rfl, by show 1 ≤ sizeLine; decide, fun p3 hp3 => ?_⟩
          have dH := dG.new (o := .lst [.str ","]) hp3
          have e3 : (upd H7 p3 (.lst [.str ","])) p3 = some (.lst [.str ","]) := upd_same
          have ep3 := (upd_ne (H := H7) (o := .lst [.str ","]) (ne_of_none ep7 hp3)).trans ep7
          generalize upd H7 p3 (.lst [.str ","]) = H8 at dH e3 ep3 ⊢
          refine ⟨_, rfl, _, _, rfl, rfl, .inr ⟨_, rfl, ?_⟩⟩
          obtain ⟨m, em, hm⟩ : ∃ m : Int, (if decide ((0 : Int) < 0 + (i : Int)) = true then (1 : Int) else 0) = m ∧ ((m = 0 ∧ i = 0) ∨ (m = 1 ∧ i ≠ 0)) := ⟨_, rfl, by
            by_cases h : i = 0
            · subst h; exact .inl ⟨rfl, rfl⟩
            · rw [if_pos (decide_eq_true (by omega))]; exact .inr ⟨rfl, h⟩⟩
          rw [em]
          clear em
          obtain ⟨cs, ecs, hcs, wcs⟩ : ∃ cs : List Str, (List.replicate m.toNat [V.str ","]).flatten = cs.map V.str ∧ cs.length ≤ 1 ∧ cs = (if i = 0 then [] else ([","] : List Str)) := by
            rcases hm with ⟨rfl, h⟩ | ⟨rfl, h⟩
            · exact ⟨[], rfl, by decide, by rw [if_pos h]⟩
            · exact ⟨[","], rfl, by decide, by rw [if_neg h]⟩
          refine ⟨p3, m, _, rfl, rfl, e3, by omega, by omega, by show 1 * _ ≤ _; omega, fun p4 hp4 => ?_⟩
          rw [ecs]
          have dI := dH.new (o := .lst (cs.map V.str)) hp4
          have e4 : (upd H8 p4 (.lst (cs.map V.str))) p4 = some (.lst (cs.map V.str)) := upd_same
          have ep4 := (upd_ne (H := H8) (o := .lst (cs.map V.str)) (ne_of_none ep3 hp4)).trans ep3
          generalize upd H8 p4 (.lst (cs.map V.str)) = H9 at dI e4 ep4 ⊢
          refine rcat ep4 e4 (by omega) fun p5 H10 hp5 s5 e5 => ?_
          have dJ := dI.same s5
          have n5 := dI.nb hp5
          have hnmJ := hnm.dr dJ
          refine ⟨_, rfl, _, rfl, st, c, _, _, _, rfl, dJ.1, by omega, by simpa using hnmJ.2.2.1, by rw [List.length_map]; have := hnmJ.2.2.2.1; omega, .inl ⟨nm, rfl, hnmJ.2.1, hnmJ.1⟩, fun y H11 hy d11 => ?_⟩
          obtain ⟨param, hparam, rfl⟩ := List.mem_map.mp hy
          have wpar := hnmJ.2.2.2.2 param hparam
          have dK := dJ.trans d11
          have e5' := d11.2 _ _ n5.1 n5.2 e5
          refine ⟨_, rfl, by show 2 ≤ sizeLine; decide, fun p6 hp6 => ?_⟩
          have dL := dK.new (o := .lst [.str param, .str kind]) hp6
          have e6 : (upd H11 p6 (.lst [.str param, .str kind])) p6 = some (.lst (([param, kind] : List Str).map V.str)) := upd_same
          have e5'' := (upd_ne (H := H11) (o := .lst [.str param, .str kind]) (ne_of_none e5' hp6)).trans e5'
          generalize upd H11 p6 (.lst [.str param, .str kind]) = H12 at dL e6 e5'' ⊢
          refine rcat e5'' e6 (by rw [List.length_append]; show _ + _ + 2 ≤ _; omega) fun p7 H13 hp7 s7 e7 => ?_
          refine ⟨p7, (ws ++ cs) ++ [param, kind], _, _, (dL.same s7).mono (by omega), e7, dL.nb hp7, dL.free hp7, ?_, ?_, rfl⟩
          · rw [List.length_append, List.length_append]; show _ + _ + 2 ≤ _; omega
          · cases i with
            | zero => rw [wcs, if_pos rfl]; exact .one hwl wpar hkind
            | succ i => rw [wcs, if_neg (by omega)]; exact .more hwl wpar hkind
        · obtain ⟨p, ws, y6, y7, dE, ep, np, fp, hl, hwl, rfl⟩ := hP
          have him : (1 + v).toNat ≤ 3 := by omega
          obtain ⟨kk, epos⟩ : ∃ kk, (1 + v).toNat = kk + 1 := ⟨(1 + v).toNat - 1, by omega⟩
          refine ⟨_, rfl, by show 2 ≤ sizeLine; decide, fun p2 hp2 => ?_⟩
          have dF := dE.new (o := .lst [.str ")", .str "="]) hp2
          have e2 : (upd HA p2 (.lst [.str ")", .str "="])) p2 = some (.lst (([")", "="] : List Str).map V.str)) := upd_same
          have ep2 := (upd_ne (H := HA) (o := .lst [.str ")", .str "="]) (ne_of_none ep hp2)).trans ep
          generalize upd HA p2 (.lst [.str ")", .str "="]) = H6 at dF e2 ep2 ⊢
          refine rcat ep2 e2 (by show _ + 2 ≤ _; omega) fun p3 H7 hp3 s3 e3 => ?_
          have dG := dF.same s3
          have n3 := dF.nb hp3
          refine ⟨_, rfl, _, rfl, _, rfl, st, c, nm, _, ns, deep, rfl, dG.1, by omega, hnm.dr dG, by omega, fun p4 ws4 H8 hp4f hp4n d5 e4 hl4 hws4 => ?_⟩
          have e3' := d5.2 _ _ n3.1 n3.2 e3
          have dH := dG.trans d5
          refine rcat e3' e4 (by rw [List.length_append]; show _ + 2 + _ ≤ _; omega) fun p5 H9 hp5 s5 e5 => ?_
          exact q p5 _ H9 (dH.free hp5) (dH.nb hp5) ((dH.same s5).mono (by omega)) e5 ⟨by rw [List.length_append, List.length_append]; show _ + 2 + _ ≤ _; omega, by rw [epos] at hwl; exact .defs hwl hws4⟩
end K12

set_option maxHeartbeats 4000000
namespace K12
open PySem PySem.Spec PyProof.Rows L2 Gx Tk
variable {P : Program} {w : World} {K : PySem.W.Frag} {mg : Str → Option Value} {base : Heap}
def sp_tight : Sp := fun vs H Q _ => ∃ (st c pw : Addr) (b : Nat) (ws : List Str), vs = [.ref st, .ref pw] ∧ IsSt H st c b ∧ b + 20402 ≤ cap ∧ H pw = some (.lst (ws.map V.str)) ∧ (pw ≠ st ∧ pw ≠ c) ∧ ws.length ≤ 20400 ∧ WoL ws ∧
  ∀ (x0 : Str) (e : Nat) H', x0.length + e ≤ 300000 → Tg ws x0 → e ≤ 1 → Dr st c (b + 20402) H H' → Q (.str (x0 ++ timesS " " e)) H'
theorem bare_S : ("" : Str) = SX.S [] := TL.ext_tl rfl
theorem head_eq {x : Str} {ch : Nat} (h : atI x.cps.toList 0 = some ch) : headC x = ch := by
  unfold headC
  cases e : x.cps.toList with
  | nil => rw [e] at h; cases h
  | cons a l =>
    rw [e] at h
    have := atI_nat (xs := a :: l) (j := 0) rfl
    rw [show ((0 : Nat) : Int) = 0 from rfl, h] at this
    injection this with this
    exact this.symm
theorem last_eq {x : Str} {ch : Nat} (h : atI x.cps.toList (-1) = some ch) : lastC x = ch := by
  unfold lastC
  generalize x.cps.toList = l at h
  rcases Decidable.em (l = []) with e | e
  · rw [e] at h; cases h
  · obtain ⟨m, a, rfl⟩ : ∃ m a, l = m ++ [a] := ⟨l.dropLast, l.getLast e, (List.dropLast_concat_getLast e).symm⟩
    rw [atI_last] at h
    injection h with h
    rw [List.getLastD_eq_getLast?, List.getLast?_append, h]; rfl
theorem tg_bare {x : Str} (h : Tg [] x) : x = SX.S [] := by
  generalize e : ([] : List Str) = l at h
  cases h with
  | nil => exact bare_S
  | one => cases e
  | snoc _ _ _ _ => simp at e
theorem ok_L_tight (T : Facts K mg w) : FnG P w K mg base 2 T.f_L_tight T.d_L_tight ["_law_state", "_law_words"] sp_tight := by
  refine fnG_of T.F_L_tight sc_L_tight (fun vs H Q E h => ?_) (fun cdv A outer s H vs Q hG hr h => ?_)
  · obtain ⟨_, _, _, _, _, rfl, _⟩ := h; rfl
  · obtain ⟨st, c, pw, b, ws, rfl, hst, hb, epw, npw, hl, hws, q⟩ := h
    refine ⟨_, (pss_cons (ps_par (i := 2) (j := 3) (by rfl) sc_L_tight.nd rfl rfl (by decide) rfl rfl (pa_cons (pe_go (ok_L_take T) hG (hr.mono (by decide)) (by rfl) T.g_L_take T.F_L_take.kp T.b_L_take (pa_cons (pv 0) (pa_cons pe_int pa_nil))) (pa_cons pe_str pa_nil)) (by rfl))
        (pss_cons (ps_for PassesOwn.never rfl (pi_list (pv 1)) (pg_name (i := 4) sc_L_tight.nd rfl (.inl rfl)) (pss_cons (ps_set (i := 5) sc_L_tight.nd rfl (.inl rfl) (pe_or (pe_and (pe_cmpR op_ne (pv 3) pe_str (nomark _)) (pe_and (pe_bm0 PySem.F.plainAttrs_str PySem.F.slot_str_isalnum PySem.F.type_str_isalnum mt_isalnum (pe_ix ix_str (pv 3) (pe_un un_neg pe_int) (fun _ _ => rfl))) (pe_one (pe_bm0 PySem.F.plainAttrs_str PySem.F.slot_str_isalnum PySem.F.type_str_isalnum mt_isalnum (pe_ix ix_str (pv 4) pe_int (fun _ _ => rfl)))))) (pe_one (pe_cmpR op_eq (pv 3) pe_str (nomark _)))))
        (pss_cons (ps_set (i := 6) sc_L_tight.nd rfl (.inl rfl) (pe_ix ix_list (pe_lst (pa_cons pe_str (pa_cons (pe_op op_mulS0 pe_str (pe_op op_add pe_int (pe_go (ok_L_take T) hG (hr.mono (by decide)) (by rfl) T.g_L_take T.F_L_take.kp T.b_L_take (pa_cons (pv 0) (pa_cons pe_int pa_nil))))) (pa_cons (pe_op op_mulS0 pe_str (pe_callTy call_int1 (by rfl) T.n_int (by decide +kernel) (pa_cons (pv 5) pa_nil))) pa_nil)))) (pv 2) (fun _ _ => rfl)))
        (pss_one (ps_set (i := 3) sc_L_tight.nd rfl (.inl rfl) (pe_op op_add_str (pe_op op_add_str (pv 3) (pe_op op_mulS0 (pv 6) (pe_callTy call_int1 (by rfl) T.n_int (by decide +kernel) (pa_cons (pe_cmpR op_ne (pv 3) pe_str (nomark _)) pa_nil)))) (pv 4)))))))
        (pss_one (ps_ret (pe_op op_add_str (pv 3) (pe_op op_mulS0 pe_str (pe_callTy call_int1 (by rfl) T.n_int (by decide +kernel) (pa_cons (pe_cmpR op_eq (pe_go (ok_L_take T) hG (hr.mono (by decide)) (by rfl) T.g_L_take T.F_L_take.kp T.b_L_take (pa_cons (pv 0) (pa_cons pe_int pa_nil))) pe_int (nomark _)) pa_nil)))))))), ?_⟩
    have hsl : (5000000 : Nat) ≤ sizeLine := by decide
    have hcp : cap = 1000000000 := rfl
    refine ⟨_, rfl, st, c, b, 3, rfl, hst, by omega, by decide, by decide, fun way H1 w0 w1 d1 => ?_⟩
    refine ⟨_, _, rfl, ?_⟩
    have epw1 := d1.2 _ _ npw.1 npw.2 epw
    have elen : (ws.map V.str).length = ws.length := List.length_map _
    refine ⟨_, rfl, pw, rfl, ⟨_, SqL.of epw1⟩, for_it (walk_list (xs := ws.map V.str)) (fun i σ H' => ∃ (x : Str) (y4 y5 y6 : Option V), x.length ≤ 10 * i ∧ Tg (ws.take i) x ∧ Dr st c (b + 1 + i) H H' ∧ σ = [some (.ref st), some (.ref pw), some (.int way), some (.str x), y4, y5, y6]) ⟨"", none, none, none, by decide +kernel, by rw [List.take_zero]; exact .nil, d1, rfl⟩ (fun i σ H' hi hP => ?_) (fun i v σ HA HB hi hP hy => ?_) (fun σ HA hP => ?_)⟩
    · obtain ⟨_, _, _, _, _, _, d, _⟩ := hP
      exact SqL.of (d.2 _ _ npw.1 npw.2 epw)
    · obtain ⟨x, y4, y5, y6, hx, htg, dA, rfl⟩ := hP
      obtain ⟨rfl, hv⟩ := hy
      rw [List.getElem?_map] at hv
      obtain ⟨wd, hwd, rfl⟩ := Option.map_eq_some_iff.mp hv
      have hwo := hws wd (List.mem_of_getElem? hwd)
      have hwS := hwo.len
      unfold Ws at hwS
      have hne := htg.ne (fun x hx => hws x (List.mem_of_mem_take hx))
      rw [elen] at hi
      dsimp only [gName]
      refine seq_viaR (fun σ' H' => H' = HB ∧ ∃ k : Bool, (rn (lastC x) = true → rn (headC wd) = true → k = true) ∧ σ' = [some (.ref st), some (.ref pw), some (.int way), some (.str x), some (.str wd), some (.bl k), y6]) (fun D' kk => ?_) (fun σ' H' hP => ?_)
      · have dx : decide (V.str x = V.str "") = decide (x = SX.S []) := decide_eq_decide.mpr ⟨fun h => (V.str.inj h).trans bare_S, fun h => by rw [h]; exact congrArg V.str bare_S.symm⟩
        refine ⟨_, rfl, rfl, ?_⟩
        by_cases hbx : x = SX.S []
        · rw [dx, decide_eq_true hbx]
          refine ⟨_, rfl, ?_⟩
          rw [if_neg (by decide)]
          refine ⟨_, rfl, ?_⟩
          rw [if_neg (by decide)]
          refine ⟨_, rfl, rfl, ?_⟩
          refine kk _ _ ⟨rfl, _, ?_, rfl⟩
          exact fun _ _ => by rw [dx]; exact decide_eq_true hbx
        · rw [dx, decide_eq_false hbx]
          refine ⟨_, rfl, ?_⟩
          rw [if_pos (by decide)]
          obtain ⟨ch, hch⟩ := last_at hbx
          refine ⟨_, rfl, _, rfl, x, _, ch, rfl, rfl, by omega, hch, rfl, _, rfl, rfl, trivial, ?_⟩
          refine ⟨_, rfl, ?_⟩
          obtain ⟨ch2, hch2⟩ := sign_at (x := wd) (v := 0) (by decide) (by omega)
          rcases Bool.eq_false_or_eq_true (Txt.isalnum { cps := #[ch] }) with e1 | e1
          · rw [if_pos e1]
            refine ⟨_, rfl, wd, _, ch2, rfl, rfl, by omega, hch2, rfl, _, rfl, rfl, trivial, _, rfl, ?_⟩
            rcases Bool.eq_false_or_eq_true (Txt.isalnum { cps := #[ch2] }) with e2 | e2
            · rw [if_pos e2]
              refine kk _ _ ⟨rfl, _, ?_, rfl⟩
              exact fun _ _ => rfl
            · rw [if_neg (by rw [e2]; decide)]
              refine ⟨_, rfl, rfl, ?_⟩
              refine kk _ _ ⟨rfl, _, ?_, rfl⟩
              exact fun _ h => by rw [head_eq hch2] at h; rw [rn_alnum h] at e2; cases e2
          · rw [if_neg (by rw [e1]; decide)]
            refine ⟨_, rfl, ?_⟩
            rw [if_neg (by decide)]
            refine ⟨_, rfl, rfl, ?_⟩
            refine kk _ _ ⟨rfl, _, ?_, rfl⟩
            exact fun h _ => by rw [last_eq hch] at h; rw [rn_alnum h] at e1; cases e1
      · obtain ⟨rfl, k, hk, rfl⟩ := hP
        refine seq_viaR (fun σ' H' => Dr st c (b + 1 + i + 1) H H' ∧ ∃ (gp : Str) (g : Nat), gp.length ≤ 2 ∧ gp = timesS " " g ∧ g ≤ 2 ∧ (rn (lastC x) = true → rn (headC wd) = true → 1 ≤ g) ∧ σ' = [some (.ref st), some (.ref pw), some (.int way), some (.str x), some (.str wd), some (.bl k), some (.str gp)]) (fun D' kk => ?_) (fun σ' H' hP => ?_)
        · refine ⟨_, rfl, st, c, b + 1 + i, 2, rfl, dA.1, by omega, by decide, by decide, fun v1 H2 u0 u1 d2 => ?_⟩
          have dB : Dr st c (b + 1 + i + 1) H H2 := dA.trans d2
          have hv1 : (1 + v1).toNat ≤ 2 := by omega
          have hk1 : (if k = true then (1 : Int) else 0) = 0 ∨ (if k = true then (1 : Int) else 0) = 1 := by cases k <;> simp
          have hkk : k = true → (if k = true then (1 : Int) else 0) = 1 := fun h => if_pos h
          generalize ekk : (if k = true then (1 : Int) else 0) = kk0 at hk1 hkk
          refine ⟨_, _, rfl, rfl, _, _, rfl, rfl, by omega, by omega, ?_, ?_⟩
          · have : ((" " : Str)).length = 1 := by decide +kernel
            rw [this]; omega
          refine ⟨_, rfl, .inr ⟨k, rfl, ?_⟩⟩
          rw [ekk]
          refine ⟨_, _, rfl, rfl, by omega, by omega, ?_, ?_⟩
          · have : ((" " : Str)).length = 1 := by decide +kernel
            rw [this]; omega
          refine ⟨by show 3 ≤ sizeLine; decide, fun p hp => ?_⟩
          have eW : upd H2 p (.lst [V.str " ", .str (timesS " " (1 + v1).toNat), .str (timesS " " kk0.toNat)]) p = some (.lst [V.str " ", .str (timesS " " (1 + v1).toNat), .str (timesS " " kk0.toNat)]) := upd_same
          have hL1 : (timesS " " (1 + v1).toNat).length ≤ 2 := by
            have : ((" " : Str)).length = 1 := by decide +kernel
            rw [times_len, this]; omega
          have hL2 : (timesS " " kk0.toNat).length ≤ 2 := by
            have : ((" " : Str)).length = 1 := by decide +kernel
            rw [times_len, this]; omega
          have hg : ∃ (gp : Str) (g : Nat), gp.length ≤ 2 ∧ gp = timesS " " g ∧ g ≤ 2 ∧ (rn (lastC x) = true → rn (headC wd) = true → 1 ≤ g) ∧ atI [V.str " ", .str (timesS " " (1 + v1).toNat), .str (timesS " " kk0.toNat)] way = some (.str gp) := by
            have : way = 0 ∨ way = 1 ∨ way = 2 := by omega
            rcases this with e | e | e <;> subst e
            · exact ⟨_, 1, by decide +kernel, by decide +kernel, by decide, fun _ _ => Nat.le_refl _, atI_nat (j := 0) rfl⟩
            · exact ⟨_, _, hL1, rfl, by omega, fun _ _ => by omega, atI_nat (j := 1) rfl⟩
            · exact ⟨_, _, hL2, rfl, by omega, fun h1 h2 => by have := hkk (hk h1 h2); omega, atI_nat (j := 2) rfl⟩
          obtain ⟨gp, g, hgp, egp, hg2, hg1, hat⟩ := hg
          refine ⟨_, rfl, p, _, _, _, rfl, rfl, SqL.of eW, hat, ?_⟩
          exact kk _ _ ⟨dB.new hp, gp, g, hgp, egp, hg2, hg1, rfl⟩
        · obtain ⟨dB, gp, g, hgp, egp, hg2, hg1, rfl⟩ := hP
          have hne : ∃ kb : Bool, (!decide (V.str x = V.str "")) = kb := ⟨_, rfl⟩
          obtain ⟨kb, ekb⟩ := hne
          have hk1 : (if kb = true then (1 : Int) else 0) = 0 ∨ (if kb = true then (1 : Int) else 0) = 1 := by cases kb <;> simp
          refine ⟨_, rfl, _, rfl, _, rfl, rfl, .inr ⟨kb, by rw [← ekb], ?_⟩⟩
          have hcat : Tg (ws.take (i + 1)) (x ++ timesS gp (if kb = true then (1 : Int) else 0).toNat ++ wd) := by
            rw [List.take_add_one, hwd]
            have dx : decide (V.str x = V.str "") = decide (x = SX.S []) := decide_eq_decide.mpr ⟨fun h => (V.str.inj h).trans bare_S, fun h => by rw [h]; exact congrArg V.str bare_S.symm⟩
            rw [dx] at ekb
            by_cases hb0 : x = SX.S []
            · have hw0 : ws.take i = [] := by
                rcases Decidable.em (ws.take i = []) with h | h
                · exact h
                · exact absurd (by rw [hb0]) (hne h)
              rw [decide_eq_true hb0] at ekb
              rw [hw0, ← ekb, hb0]
              have e0 : SX.S [] ++ timesS gp (if (!true) = true then (1 : Int) else 0).toNat ++ wd = wd := TL.ext_tl (by show TL.tl _ = TL.tl _; rw [TL.tl_append, TL.tl_append]; rfl)
              rw [e0]
              exact .one
            · have hw0 : ws.take i ≠ [] := fun h => by
                rw [h] at htg
                exact hb0 (tg_bare htg)
              rw [decide_eq_false hb0] at ekb
              rw [← ekb]
              have e1 : timesS gp (if (!false) = true then (1 : Int) else 0).toNat = timesS " " g := by
                show timesS gp 1 = _
                rw [egp]
                exact TL.ext_tl (by show (List.replicate 1 _).flatten = _; simp)
              rw [e1]
              exact .snoc htg hw0 hg2 hg1
          generalize (if kb = true then (1 : Int) else 0) = kk0 at hk1 hcat
          have hL : (timesS gp kk0.toNat).length ≤ 2 := by
            rw [times_len]
            rcases hk1 with e | e <;> subst e
            · show 0 * _ ≤ 2; omega
            · show 1 * _ ≤ 2; omega
          refine ⟨_, _, rfl, rfl, by omega, by omega, ?_, _, _, rfl, rfl, ?_, _, rfl, _, _, rfl, rfl, ?_, ?_⟩
          · rcases hk1 with e | e <;> subst e
            · show _ * 0 ≤ 1000000; omega
            · show _ * 1 ≤ 1000000; omega
          · omega
          · rw [app_len]; omega
          refine ⟨_, _, _, _, ?_, hcat, dB.mono (by omega), rfl⟩
          rw [app_len, app_len]; omega
    · obtain ⟨x, y4, y5, y6, hx, htg, dA, rfl⟩ := hP
      rw [elen] at hx dA htg
      rw [List.take_length] at htg
      refine ⟨_, rfl, _, rfl, st, c, b + 1 + ws.length, 9, rfl, dA.1, by omega, by decide, by decide, fun v1 H2 u0 u1 d2 => ?_⟩
      have dB : Dr st c (b + 1 + ws.length + 1) H H2 := dA.trans d2
      have hne : ∃ kb : Bool, decide (V.int v1 = V.int 0) = kb := ⟨_, rfl⟩
      obtain ⟨kb, ekb⟩ := hne
      have hk1 : (if kb = true then (1 : Int) else 0) = 0 ∨ (if kb = true then (1 : Int) else 0) = 1 := by cases kb <;> simp
      refine ⟨rfl, .inr ⟨kb, by rw [← ekb], ?_⟩⟩
      generalize (if kb = true then (1 : Int) else 0) = kk0 at hk1
      have h1 : ((" " : Str)).length = 1 := by decide +kernel
      have hL : (timesS " " kk0.toNat).length ≤ 1 := by
        rw [times_len, h1]; omega
      refine ⟨_, _, rfl, rfl, by omega, by omega, by rw [h1]; omega, _, _, rfl, rfl, by omega, ?_⟩
      exact q _ _ _ (by omega) htg (by omega) (dB.mono (by omega))
end K12

set_option maxHeartbeats 4000000
namespace K12
open PySem PySem.Spec PyProof.Rows L2 Gx Tk
variable {P : Program} {w : World} {K : PySem.W.Frag} {mg : Str → Option Value} {base : Heap}
/-- a text of a row's signs at most, so many draws later -/
def RetX (st c : Addr) (b N : Nat) (H : Hp) (Q : VK) : Prop := ∀ (x : Str) H', x.length ≤ 60 → Okq x → Dr st c (b + N) H H' → Q (.str x) H'
theorem cut_60 (x : Str) : (cutS x none (some 60)).length ≤ 60 := by
  have e : cutS x none (some 60) = SX.S (x.cps.toList.take 60) := cut_to x 60
  rw [e]; show (List.toArray _).size ≤ 60
  rw [List.size_toArray, List.length_take]; omega
def sp_right_row : Sp := fun vs H Q _ => ∃ (st c nm : Addr) (b : Nat) (ns : List Str), vs = [.ref st, .ref nm] ∧ IsSt H st c b ∧ b + 40802 ≤ cap ∧ Nmn H st c nm ns ∧ RetX st c b 40802 H Q
theorem ok_L_right_row (T : Facts K mg w) : FnG P w K mg base 15 T.f_L_right_row T.d_L_right_row ["_law_state", "_law_names_here"] sp_right_row := by
  refine fnG_of T.F_L_right_row sc_L_right_row (fun vs H Q E h => ?_) (fun cdv A outer s H vs Q hG hr h => ?_)
  · obtain ⟨_, _, _, _, _, rfl, _⟩ := h; rfl
  · obtain ⟨st, c, nm, b, ns, rfl, hst, hb, hnm, q⟩ := h
    refine ⟨_, (pss_cons (ps_set (i := 2) sc_L_right_row.nd rfl (.inl rfl) (pe_go (ok_L_tight T) hG (hr.mono (by decide)) (by rfl) T.g_L_tight T.F_L_tight.kp T.b_L_tight (pa_cons (pv 0) (pa_cons (pe_go (ok_L_row_words T) hG (hr.mono (by decide)) (by rfl) T.g_L_row_words T.F_L_row_words.kp T.b_L_row_words (pa_cons (pv 0) (pa_cons (pv 1) pa_nil))) pa_nil))))
        (pss_one (ps_ret (pe_ifExp (pt_cmpR op_lt (pe_callB call_len_str (by rfl) T.n_len PySem.boot_len (pa_cons (pv 2) pa_nil)) pe_int (nomark _)) (pv 2) (pe_op op_add_str (pe_op op_add_str pe_str (pe_ix ix_list (pv 1) pe_int (fun _ _ => rfl))) pe_str))))), ?_⟩
    have hsl : (5000000 : Nat) ≤ sizeLine := by decide
    have hcp : cap = 1000000000 := rfl
    refine ⟨_, rfl, _, rfl, _, rfl, st, c, nm, b, ns, rfl, hst, by omega, hnm, fun p ws H1 hp hn d1 e1 hws => ?_⟩
    have hwo := hws.2.wo
    refine ⟨st, c, p, b + 20400, ws, rfl, d1.1, by omega, e1, hn, hws.1, hwo, fun x0 e0 H2 hx htg he0 d2 => ?_⟩
    have hok : Okq (x0 ++ timesS " " e0) := (htg.okx hwo).app (okq_blank e0)
    have hxl : (x0 ++ timesS " " e0).length ≤ 300000 := by
      rw [app_len, times_len, show ((" " : Str)).length = 1 by decide +kernel]; omega
    generalize x0 ++ timesS " " e0 = x at hok hxl ⊢
    have dA := d1.trans d2
    have hnm2 := hnm.dr dA
    refine ⟨_, rfl, _, rfl, by omega, _, _, rfl, rfl, _, rfl, ?_⟩
    dsimp only
    by_cases h6 : ((x.length : Nat) : Int) < 61
    · rw [if_pos (decide_eq_true h6)]
      exact ⟨_, rfl, q _ _ (by omega) hok (dA.mono (by omega))⟩
    · rw [if_neg (by rw [decide_eq_false h6]; decide)]
      have hl0 : 0 < ns.length := List.length_pos_iff.mpr hnm2.2.2.1
      obtain ⟨y, hy, hym⟩ := item_at (xs := ns.map V.str) (v := 0) (by decide) (by rw [List.length_map]; omega)
      obtain ⟨nam, hnam, rfl⟩ := List.mem_map.mp hym
      have hN := hnm2.2.2.2.2 nam hnam
      have hW := hN.ws.2
      have h4 : (("let " : Str)).length = 4 := by decide +kernel
      have h9 : ((" = [1, 2]" : Str)).length = 9 := by decide +kernel
      refine ⟨_, rfl, nm, _, _, _, rfl, rfl, SqL.of hnm2.1, hy, _, _, rfl, rfl, by rw [h4]; omega, _, _, rfl, rfl, by rw [app_len, h4, h9]; omega, ?_⟩
      exact q _ _ (by rw [app_len, app_len, h4, h9]; omega) ((Okq.app (by decide +kernel : ("let " : Str).cps.toList.all okq = true) hN.wo.okq).app (by decide +kernel : (" = [1, 2]" : Str).cps.toList.all okq = true)) (dA.mono (by omega))
end K12

set_option maxHeartbeats 4000000
namespace K12
open PySem PySem.Spec PyProof.Rows L2 Gx Tk
variable {P : Program} {w : World} {K : PySem.W.Frag} {mg : Str → Option Value} {base : Heap}
theorem preC (d c : Nat) (r : List Nat) : TL.pre [d] (c :: r) = decide (c = d) := by
  unfold TL.pre
  by_cases h : c = d
  · subst h; simp [TL.pre]
  · simp [h]
theorem spl_short (d : Nat) : ∀ l acc : List Nat, (TL.spl [d] 0 acc l).length ≤ l.length + 1 ∧ TL.spl [d] 0 acc l ≠ [] ∧ ∀ p ∈ TL.spl [d] 0 acc l, p.length ≤ acc.length + l.length
  | [], acc => by rw [TL.spl_nil]; exact ⟨Nat.le_refl _, List.cons_ne_nil _ _, fun p hp => by rw [List.mem_singleton.mp hp]; exact Nat.le_refl _⟩
  | c :: r, acc => by
    by_cases h : c = d
    · rw [TL.spl_hit (by rw [preC, h]; exact decide_eq_true rfl)]
      obtain ⟨h1, h2, h3⟩ := spl_short d r []
      refine ⟨by show (TL.spl [d] 0 [] r).length + 1 ≤ r.length + 1 + 1; omega, List.cons_ne_nil _ _, fun p hp => ?_⟩
      rcases List.mem_cons.mp hp with rfl | hp
      · omega
      · have := h3 p hp
        rw [List.length_nil] at this
        rw [List.length_cons]; omega
    · rw [TL.spl_miss (by rw [preC]; simp [h])]
      obtain ⟨h1, h2, h3⟩ := spl_short d r (acc ++ [c])
      refine ⟨by rw [List.length_cons]; omega, h2, fun p hp => ?_⟩
      have := h3 p hp
      rw [List.length_append] at this
      rw [List.length_cons]
      simpa [Nat.add_comm, Nat.add_left_comm, Nat.add_assoc] using this
theorem spl_mem (d : Nat) : ∀ l acc : List Nat, ∀ p ∈ TL.spl [d] 0 acc l, ∀ c ∈ p, c ∈ acc ∨ c ∈ l
  | [], acc, p, hp, c, hc => by
    rw [TL.spl_nil] at hp
    rw [List.mem_singleton.mp hp] at hc
    exact .inl hc
  | a :: r, acc, p, hp, c, hc => by
    by_cases h : a = d
    · rw [TL.spl_hit (by rw [preC, h]; exact decide_eq_true rfl)] at hp
      rcases List.mem_cons.mp hp with rfl | hp
      · exact .inl hc
      · rcases spl_mem d r [] p hp c hc with h | h
        · exact absurd h List.not_mem_nil
        · exact .inr (List.mem_cons_of_mem _ h)
    · rw [TL.spl_miss (by rw [preC]; simp [h])] at hp
      rcases spl_mem d r (acc ++ [a]) p hp c hc with h | h
      · rcases List.mem_append.mp h with h | h
        · exact .inl h
        · rw [List.mem_singleton.mp h]; exact .inr List.mem_cons_self
      · exact .inr (List.mem_cons_of_mem _ h)
theorem split_sp (x : Str) : (Txt.split x " ").length ≤ x.length + 1 ∧ Txt.split x " " ≠ [] ∧ ∀ y ∈ Txt.split x " ", y.length ≤ x.length ∧ ∀ c ∈ y.cps.toList, c ∈ x.cps.toList := by
  have e := SX.split_S (a := x.cps.toList) (b := [32]) (by simp) (by decide)
  rw [SX.S_tl] at e
  rw [show ((" " : Str)) = SX.S [32] from TL.ext_tl rfl, e]
  obtain ⟨h1, h2, h3⟩ := spl_short 32 x.cps.toList []
  have hx : x.cps.toList.length = x.length := Array.length_toList
  refine ⟨by rw [List.length_map]; omega, fun h => h2 (List.map_eq_nil_iff.mp h), fun y hy => ?_⟩
  obtain ⟨l, hl, rfl⟩ := List.mem_map.mp hy
  have := h3 l hl
  rw [List.length_nil] at this
  refine ⟨by rw [SX.S_len]; omega, fun c hc => ?_⟩
  rcases spl_mem 32 x.cps.toList [] l hl c hc with h | h
  · exact absurd h List.not_mem_nil
  · exact h
theorem cutV_strs (ws : List Str) (lo hi : Option Int) : ∃ ys : List Str, cutV (ws.map V.str) lo hi = ys.map V.str ∧ (∀ y ∈ ys, y ∈ ws) ∧ ys.length ≤ ws.length := by
  unfold cutV
  rw [← List.map_drop, ← List.map_take]
  exact ⟨_, rfl, fun y hy => List.mem_of_mem_drop (List.mem_of_mem_take hy), by rw [List.length_take, List.length_drop]; omega⟩
def sp_bent_row : Sp := fun vs H Q _ => ∃ (st c nm : Addr) (b : Nat) (ns : List Str) (x : Str), vs = [.ref st, .str x, .ref nm] ∧ x.length ≤ 60 ∧ Okq x ∧ IsSt H st c b ∧ b + 10 ≤ cap ∧ Nmn H st c nm ns ∧ RetX st c b 10 H Q
theorem ok_L_bent_row (T : Facts K mg w) : FnG P w K mg base 3 T.f_L_bent_row T.d_L_bent_row ["_law_state", "_law_row", "_law_names_here"] sp_bent_row := by
  refine fnG_of T.F_L_bent_row sc_L_bent_row (fun vs H Q E h => ?_) (fun cdv A outer s H vs Q hG hr h => ?_)
  · obtain ⟨_, _, _, _, _, _, rfl, _⟩ := h; rfl
  · obtain ⟨st, c, nm, b, ns, x, rfl, hx, hox, hst, hb, hnm, q⟩ := h
    have hokc : ∀ lo hi, Okq (cutS x lo hi) := cut_ok hox
    refine ⟨_, (pss_cons (ps_par (i := 3) (j := 4) (by rfl) sc_L_bent_row.nd rfl rfl (by decide) rfl rfl (pa_cons (pe_go (ok_L_take T) hG (hr.mono (by decide)) (by rfl) T.g_L_take T.F_L_take.kp T.b_L_take (pa_cons (pv 0) (pa_cons pe_int pa_nil))) (pa_cons (pe_go (ok_L_take T) hG (hr.mono (by decide)) (by rfl) T.g_L_take T.F_L_take.kp T.b_L_take (pa_cons (pv 0) (pa_cons (pe_op op_add (pe_callB call_len_str (by rfl) T.n_len PySem.boot_len (pa_cons (pv 1) pa_nil)) pe_int) pa_nil))) pa_nil)) (by rfl))
        (pss_cons (ps_set (i := 5) sc_L_bent_row.nd rfl (.inl rfl) (pe_go (ok_L_some T) hG (hr.mono (by decide)) (by rfl) T.g_L_some T.F_L_some.kp T.b_L_some (pa_cons (pv 0) (pa_cons (pe_lst (pa_cons pe_str (pa_cons pe_str (pa_cons pe_str (pa_cons pe_str (pa_cons pe_str (pa_cons pe_str (pa_cons pe_str (pa_cons pe_str (pa_cons pe_str (pa_cons pe_str (pa_cons pe_str (pa_cons pe_str (pa_cons pe_str (pa_cons pe_str (pa_cons pe_str (pa_cons pe_str pa_nil))))))))))))))))) pa_nil))))
        (pss_cons (ps_if (pt_cmpR op_eq (pv 3) pe_int (nomark _)) (pss_one (ps_ret (pe_slice sl_str (pe_op op_add_str (pe_op op_add_str (pe_slice sl_str (pv 1) po_none (po_some (pv 4))) (pv 5)) (pe_slice sl_str (pv 1) (po_some (pv 4)) po_none)) po_none (po_some pe_int)))) pss_nil)
        (pss_cons (ps_if (pt_cmpR op_eq (pv 3) pe_int (nomark _)) (pss_one (ps_ret (pe_op op_add_str (pe_slice sl_str (pv 1) po_none (po_some (pv 4))) (pe_slice sl_str (pv 1) (po_some (pe_op op_add (pv 4) pe_int)) po_none)))) pss_nil)
        (pss_cons (ps_if (pt_cmpR op_eq (pv 3) pe_int (nomark _)) (pss_one (ps_ret (pe_slice sl_str (pe_op op_add_str (pe_op op_add_str (pe_slice sl_str (pv 1) po_none (po_some (pv 4))) (pv 5)) (pe_slice sl_str (pv 1) (po_some (pe_op op_add (pv 4) pe_int)) po_none)) po_none (po_some pe_int)))) pss_nil)
        (pss_cons (ps_if (pt_cmpR op_eq (pv 3) pe_int (nomark _)) (pss_one (ps_ret (pe_slice sl_str (pv 1) po_none (po_some (pv 4))))) pss_nil)
        (pss_cons (ps_set (i := 6) sc_L_bent_row.nd rfl (.inl rfl) (pe_split (pv 1) pe_str))
        (pss_cons (ps_set (i := 7) sc_L_bent_row.nd rfl (.inl rfl) (pe_go (ok_L_take T) hG (hr.mono (by decide)) (by rfl) T.g_L_take T.F_L_take.kp T.b_L_take (pa_cons (pv 0) (pa_cons (pe_callB call_len_seq (by rfl) T.n_len PySem.boot_len (pa_cons (pv 6) pa_nil)) pa_nil))))
        (pss_cons (ps_set (i := 8) sc_L_bent_row.nd rfl (.inl rfl) (pe_ix ix_list (pe_lst (pa_cons (pe_lst (pa_cons (pe_go (ok_L_some T) hG (hr.mono (by decide)) (by rfl) T.g_L_some T.F_L_some.kp T.b_L_some (pa_cons (pv 0) (pa_cons (pe_op op_cat (pv 6) (pv 2)) pa_nil))) pa_nil)) (pa_cons (pe_lst pa_nil) (pa_cons (pe_revL (pe_slice sl_list (pv 6) (po_some (pv 7)) (po_some (pe_op op_add (pv 7) pe_int)))) pa_nil)))) (pe_op op_sub (pv 3) pe_int) (fun _ _ => rfl)))
        (pss_one (ps_ret (pe_slice sl_str (pe_join pe_str (pe_op op_cat (pe_op op_cat (pe_slice sl_list (pv 6) po_none (po_some (pv 7))) (pv 8)) (pe_slice sl_list (pv 6) (po_some (pe_op op_add (pe_op op_add (pv 7) pe_int) (pe_callTy call_int1 (by rfl) T.n_int (by decide +kernel) (pa_cons (pe_cmpR op_eq (pv 3) pe_int (nomark _)) pa_nil)))) po_none))) po_none (po_some pe_int))))))))))))), ?_⟩
    have hsl : (5000000 : Nat) ≤ sizeLine := by decide
    have hcp : cap = 1000000000 := rfl
    refine ⟨_, rfl, st, c, b, 7, rfl, hst, by omega, by decide, by decide, fun way H1 w0 w1 d1 => ?_⟩
    refine ⟨_, rfl, _, rfl, _, rfl, by omega, _, _, rfl, rfl, st, c, _, _, rfl, d1.1, by omega, by omega, by omega, fun at' H2 a0 a1 d2 => ?_⟩
    obtain ⟨m, rfl⟩ := Int.eq_ofNat_of_zero_le a0
    have hm : m ≤ x.length := by omega
    have dA := d1.trans d2
    clear d1 d2
    refine ⟨_, _, rfl, ?_⟩
    have w16 : ∀ s ∈ (["(", ")", "[", "]", ",", "=", "+", "at", " ", "\"", "1", "a", "A", "if", "then", "else"] : List Str), s.length ≤ 4 ∧ Okq s := fun s hs => by
      have h : (["(", ")", "[", "]", ",", "=", "+", "at", " ", "\"", "1", "a", "A", "if", "then", "else"] : List Str).all (fun s => decide (s.length ≤ 4 ∧ s.cps.toList.all okq = true)) = true := by decide +kernel
      exact of_decide_eq_true (p := s.length ≤ 4 ∧ s.cps.toList.all okq = true) (List.all_eq_true.mp h s hs)
    refine ⟨_, rfl, by show 16 ≤ sizeLine; decide, fun p1 hp1 => ?_⟩
    have dB := dA.new (o := .lst [.str "(", .str ")", .str "[", .str "]", .str ",", .str "=", .str "+", .str "at", .str " ", .str "\"", .str "1", .str "a", .str "A", .str "if", .str "then", .str "else"]) hp1
    have n1 := dA.nb hp1
    have e1 : (upd H2 p1 (.lst [.str "(", .str ")", .str "[", .str "]", .str ",", .str "=", .str "+", .str "at", .str " ", .str "\"", .str "1", .str "a", .str "A", .str "if", .str "then", .str "else"])) p1 = some (.lst ((["(", ")", "[", "]", ",", "=", "+", "at", " ", "\"", "1", "a", "A", "if", "then", "else"] : List Str).map V.str)) := upd_same
    generalize upd H2 p1 (.lst [.str "(", .str ")", .str "[", .str "]", .str ",", .str "=", .str "+", .str "at", .str " ", .str "\"", .str "1", .str "a", .str "A", .str "if", .str "then", .str "else"]) = H3 at dB e1 ⊢
    have hL : (["(", ")", "[", "]", ",", "=", "+", "at", " ", "\"", "1", "a", "A", "if", "then", "else"] : List Str).length = 16 := rfl
    generalize (["(", ")", "[", "]", ",", "=", "+", "at", " ", "\"", "1", "a", "A", "if", "then", "else"] : List Str) = L at e1 w16 hL
    refine ⟨st, c, _, _, L.map V.str, rfl, dB.1, by omega, fun e => by rw [List.map_eq_nil_iff.mp e] at hL; exact absurd hL (by decide), by rw [List.length_map]; omega, .inl ⟨p1, rfl, n1, e1⟩, fun y H4 hy d4 => ?_⟩
    obtain ⟨sg, hsg, rfl⟩ := List.mem_map.mp hy
    have hsgl := (w16 sg hsg).1
    have hsgo := (w16 sg hsg).2
    have dC := dB.trans d4
    clear dA dB d4 e1 hy w16
    have hlo : ∀ lo hi : Option Int, (cutS x lo hi).length ≤ 60 := fun lo hi => Nat.le_trans (cutS_length x lo hi) hx
    refine ⟨_, rfl, rfl, _, rfl, ite2 (fun h0 => ?_) (fun h0 => ?_)⟩
    · have l1 := hlo none (some (m : Int))
      have l2 := hlo (some (m : Int)) none
      exact ⟨_, rfl, _, rfl, _, rfl, _, rfl, by omega, _, rfl, _, _, rfl, rfl, by omega, _, rfl, _, rfl, _, rfl, _, rfl, by omega, _, _, rfl, rfl, by rw [app_len]; omega, _, rfl, _, rfl, by rw [app_len, app_len]; omega, q _ _ (cut_60 _) (cut_ok (((hokc _ _).app hsgo).app (hokc _ _)) _ _) (dC.mono (by omega))⟩
    refine ⟨_, rfl, rfl, _, rfl, ite2 (fun h1 => ?_) (fun h1 => ?_)⟩
    · have l1 := hlo none (some (m : Int))
      have l2 := hlo (some ((m : Int) + 1)) none
      refine ⟨_, rfl, _, rfl, _, rfl, _, rfl, by omega, _, rfl, _, rfl, _, _, rfl, rfl, _, rfl, _, rfl, by omega, _, _, rfl, rfl, by omega, q _ _ ?_ ((hokc _ _).app (hokc _ _)) (dC.mono (by omega))⟩
      rw [show (m : Int) + 1 = ((m + 1 : Nat) : Int) by omega, cut_to, cut_from, app_len, SX.S_len, SX.S_len, List.length_take, List.length_drop]
      have hx2 : x.cps.toList.length = x.length := Array.length_toList
      omega
    refine ⟨_, rfl, rfl, _, rfl, ite2 (fun h2 => ?_) (fun h2 => ?_)⟩
    · have l1 := hlo none (some (m : Int))
      have l2 := hlo (some ((m : Int) + 1)) none
      exact ⟨_, rfl, _, rfl, _, rfl, _, rfl, by omega, _, rfl, _, _, rfl, rfl, by omega, _, rfl, _, rfl, _, _, rfl, rfl, _, rfl, _, rfl, by omega, _, _, rfl, rfl, by rw [app_len]; omega, _, rfl, _, rfl, by rw [app_len, app_len]; omega, q _ _ (cut_60 _) (cut_ok (((hokc _ _).app hsgo).app (hokc _ _)) _ _) (dC.mono (by omega))⟩
    refine ⟨_, rfl, rfl, _, rfl, ite2 (fun h3 => ?_) (fun h3 => ?_)⟩
    · exact ⟨_, rfl, _, rfl, _, rfl, _, rfl, by omega, q _ _ (hlo _ _) (hokc _ _) (dC.mono (by omega))⟩
    have hw : 4 ≤ way := by
      have g0 : ¬ way = 0 := fun e => by rw [e] at h0; exact absurd h0 (by decide)
      have g1 : ¬ way = 1 := fun e => by rw [e] at h1; exact absurd h1 (by decide)
      have g2 : ¬ way = 2 := fun e => by rw [e] at h2; exact absurd h2 (by decide)
      have g3 : ¬ way = 3 := fun e => by rw [e] at h3; exact absurd h3 (by decide)
      omega
    clear h0 h1 h2 h3 n1
    obtain ⟨s1, s2, s31⟩ := split_sp x
    have s30 : ∀ y ∈ Txt.split x " ", y.length ≤ x.length := fun y hy => (s31 y hy).1
    have s3o : ∀ y ∈ Txt.split x " ", Okq y := fun y hy => List.all_eq_true.mpr fun c hc => List.all_eq_true.mp hox c ((s31 y hy).2 c hc)
    clear s31
    refine ⟨_, rfl, ⟨_, rfl⟩, x, " ", rfl, rfl, by decide, by omega, fun p2 hp2 => ?_⟩
    have dD := dC.new (o := .lst ((Txt.split x " ").map V.str)) hp2
    have n2 := dC.nb hp2
    have e2 : (upd H4 p2 (.lst ((Txt.split x " ").map V.str))) p2 = some (.lst ((Txt.split x " ").map V.str)) := upd_same
    generalize upd H4 p2 (.lst ((Txt.split x " ").map V.str)) = H5 at dD e2 ⊢
    generalize Txt.split x " " = ws at s1 s2 s30 s3o e2
    have hl0 : 0 < ws.length := List.length_pos_iff.mpr s2
    have eln : (ws.map V.str).length = ws.length := List.length_map _
    refine ⟨_, rfl, _, rfl, p2, _, rfl, .inl (SqL.of e2), ?_⟩
    refine ⟨st, c, _, _, rfl, dD.1, by omega, by omega, by omega, fun wh H6 z0 z1 d6 => ?_⟩
    obtain ⟨k, rfl⟩ := Int.eq_ofNat_of_zero_le z0
    have e2' := d6.2 _ _ n2.1 n2.2 e2
    have dE := dD.trans d6
    clear dC dD d6 e2
    have hnmE := hnm.dr dE
    refine ⟨_, rfl, _, rfl, _, rfl, rcat e2' hnmE.1 (by have := hnmE.2.2.2.1; omega) fun p3 H7 hp3 s3 e3 => ?_⟩
    have dF := dE.same s3
    have n3 := dE.nb hp3
    have e2'' := s3 _ _ e2'
    have hlen3 : ((ws ++ ns).map V.str).length = ws.length + ns.length := by rw [List.length_map, List.length_append]
    have hnl := hnmE.2.2.2.1
    refine ⟨st, c, _, _, (ws ++ ns).map V.str, rfl, dF.1, by omega, fun e => by rw [e] at hlen3; rw [List.length_nil] at hlen3; omega, by omega, .inl ⟨p3, rfl, n3, e3⟩, fun y H8 hy d8 => ?_⟩
    obtain ⟨u, hu, rfl⟩ := List.mem_map.mp hy
    have hul : u.length ≤ 60 := by
      rcases List.mem_append.mp hu with h | h
      · exact Nat.le_trans (s30 u h) hx
      · exact Nat.le_trans (hnmE.2.2.2.2 u h).ws.2 (by decide)
    have huo : Okq u := by
      rcases List.mem_append.mp hu with h | h
      · exact s3o u h
      · exact (hnmE.2.2.2.2 u h).wo.okq
    have e2a := d8.2 _ _ n2.1 n2.2 e2''
    have dG := dF.trans d8
    clear dE dF d8 e2' e2'' e3 hy
    refine ⟨by show 1 ≤ sizeLine; decide, fun p4 hp4 => ?_⟩
    have dH := dG.new (o := .lst [.str u]) hp4
    have n4 := dG.nb hp4
    have e4 : (upd H8 p4 (.lst [.str u])) p4 = some (.lst (([u] : List Str).map V.str)) := upd_same
    have e2b := (upd_ne (H := H8) (o := .lst [.str u]) (ne_of_none e2a hp4)).trans e2a
    generalize upd H8 p4 (.lst [.str u]) = H9 at dH e4 e2b ⊢
    refine ⟨by show 0 ≤ sizeLine; decide, fun p5 hp5 => ?_⟩
    have dI := dH.new (o := .lst []) hp5
    have n5 := dH.nb hp5
    have e5 : (upd H9 p5 (.lst [])) p5 = some (.lst (([] : List Str).map V.str)) := upd_same
    have e4b := (upd_ne (H := H9) (o := .lst []) (ne_of_none e4 hp5)).trans e4
    have e2c := (upd_ne (H := H9) (o := .lst []) (ne_of_none e2b hp5)).trans e2b
    generalize upd H9 p5 (.lst []) = H10 at dI e5 e4b e2c ⊢
    clear dG dH e4 e2a e2b
    refine ⟨_, rfl, _, rfl, _, rfl, _, rfl, _, _, rfl, rfl, _, rfl, p2, _, rfl, SqL.of e2c, fun p6 hp6 => ?_⟩
    obtain ⟨ys, eys, hys, lys⟩ := cutV_strs ws (some (k : Int)) (some ((k : Int) + 2))
    rw [eys]
    have dJ := dI.new (o := .lst (ys.map V.str)) hp6
    have e6 : (upd H10 p6 (.lst (ys.map V.str))) p6 = some (.lst (ys.map V.str)) := upd_same
    have e2d := (upd_ne (H := H10) (o := .lst (ys.map V.str)) (ne_of_none e2c hp6)).trans e2c
    have e4c := (upd_ne (H := H10) (o := .lst (ys.map V.str)) (ne_of_none e4b hp6)).trans e4b
    have e5b := (upd_ne (H := H10) (o := .lst (ys.map V.str)) (ne_of_none e5 hp6)).trans e5
    generalize upd H10 p6 (.lst (ys.map V.str)) = H11 at dJ e6 e2d e4c e5b ⊢
    clear dI e2c e4b e5
    refine ⟨p6, _, rfl, SqL.of e6, fun p7 hp7 => ?_⟩
    rw [← List.map_reverse]
    have dK := dJ.new (o := .lst (ys.reverse.map V.str)) hp7
    have n7 := dJ.nb hp7
    have e7 : (upd H11 p7 (.lst (ys.reverse.map V.str))) p7 = some (.lst (ys.reverse.map V.str)) := upd_same
    have e2e := (upd_ne (H := H11) (o := .lst (ys.reverse.map V.str)) (ne_of_none e2d hp7)).trans e2d
    have e4d := (upd_ne (H := H11) (o := .lst (ys.reverse.map V.str)) (ne_of_none e4c hp7)).trans e4c
    have e5c := (upd_ne (H := H11) (o := .lst (ys.reverse.map V.str)) (ne_of_none e5b hp7)).trans e5b
    generalize upd H11 p7 (.lst (ys.reverse.map V.str)) = H12 at dK e7 e2e e4d e5c ⊢
    clear dJ e6 e2d e4c e5b
    refine ⟨by show 3 ≤ sizeLine; decide, fun p8 hp8 => ?_⟩
    have dL := dK.new (o := .lst [.ref p4, .ref p5, .ref p7]) hp8
    have e8 : (upd H12 p8 (.lst [.ref p4, .ref p5, .ref p7])) p8 = some (.lst [.ref p4, .ref p5, .ref p7]) := upd_same
    have e2f := (upd_ne (H := H12) (o := .lst [.ref p4, .ref p5, .ref p7]) (ne_of_none e2e hp8)).trans e2e
    have e4e := (upd_ne (H := H12) (o := .lst [.ref p4, .ref p5, .ref p7]) (ne_of_none e4d hp8)).trans e4d
    have e5d := (upd_ne (H := H12) (o := .lst [.ref p4, .ref p5, .ref p7]) (ne_of_none e5c hp8)).trans e5c
    have e7b := (upd_ne (H := H12) (o := .lst [.ref p4, .ref p5, .ref p7]) (ne_of_none e7 hp8)).trans e7
    generalize upd H12 p8 (.lst [.ref p4, .ref p5, .ref p7]) = H13 at dL e8 e2f e4e e5d e7b ⊢
    clear dK e7 e2e e4d e5c
    have hmade : ∃ (pm : Addr) (ms : List Str), atI [V.ref p4, .ref p5, .ref p7] (way - 4) = some (.ref pm) ∧ H13 pm = some (.lst (ms.map V.str)) ∧ ms.length ≤ 61 ∧ ∀ z ∈ ms, z.length ≤ 60 ∧ Okq z := by
      have : way = 4 ∨ way = 5 ∨ way = 6 := by omega
      rcases this with e | e | e <;> subst e
      · exact ⟨p4, [u], atI_nat (j := 0) rfl, e4e, by show 1 ≤ 61; decide, fun z hz => by rw [List.mem_singleton.mp hz]; exact ⟨hul, huo⟩⟩
      · exact ⟨p5, [], atI_nat (j := 1) rfl, e5d, by decide, fun z hz => absurd hz List.not_mem_nil⟩
      · exact ⟨p7, ys.reverse, atI_nat (j := 2) rfl, e7b, by rw [List.length_reverse]; omega, fun z hz => ⟨Nat.le_trans (s30 z (hys z (List.mem_reverse.mp hz))) hx, s3o z (hys z (List.mem_reverse.mp hz))⟩⟩
    obtain ⟨pm, ms, hat, em, lm, wm⟩ := hmade
    refine ⟨_, rfl, _, _, rfl, rfl, p8, _, _, _, rfl, rfl, SqL.of e8, hat, ?_⟩
    clear e8 e4e e5d e7b hat
    refine ⟨⟨_, rfl⟩, _, rfl, _, rfl, _, rfl, p2, _, rfl, SqL.of e2f, fun p9 hp9 => ?_⟩
    obtain ⟨ys2, eys2, hys2, lys2⟩ := cutV_strs ws none (some (k : Int))
    rw [eys2]
    have dM := dL.new (o := .lst (ys2.map V.str)) hp9
    have e9 : (upd H13 p9 (.lst (ys2.map V.str))) p9 = some (.lst (ys2.map V.str)) := upd_same
    have e2g := (upd_ne (H := H13) (o := .lst (ys2.map V.str)) (ne_of_none e2f hp9)).trans e2f
    have emb := (upd_ne (H := H13) (o := .lst (ys2.map V.str)) (ne_of_none em hp9)).trans em
    generalize upd H13 p9 (.lst (ys2.map V.str)) = H14 at dM e9 e2g emb ⊢
    refine ⟨_, rfl, rcat e9 emb (by omega) fun p10 H15 hp10 s15 e10 => ?_⟩
    have dN := dM.same s15
    have e2h := s15 _ _ e2g
    have hne : ∃ kb : Bool, decide (V.int way = V.int 6) = kb := ⟨_, rfl⟩
    obtain ⟨kb, ekb⟩ := hne
    refine ⟨_, rfl, _, rfl, _, _, rfl, rfl, _, rfl, rfl, .inr ⟨kb, by rw [← ekb], ?_⟩⟩
    refine ⟨_, _, rfl, rfl, _, rfl, p2, _, rfl, SqL.of e2h, fun p11 hp11 => ?_⟩
    obtain ⟨ys3, eys3, hys3, lys3⟩ := cutV_strs ws (some ((k : Int) + 1 + (if kb = true then 1 else 0))) none
    rw [eys3]
    have dO := dN.new (o := .lst (ys3.map V.str)) hp11
    have e11 : (upd H15 p11 (.lst (ys3.map V.str))) p11 = some (.lst (ys3.map V.str)) := upd_same
    have e10b := (upd_ne (H := H15) (o := .lst (ys3.map V.str)) (ne_of_none e10 hp11)).trans e10
    generalize upd H15 p11 (.lst (ys3.map V.str)) = H16 at dO e11 e10b ⊢
    refine rcat e10b e11 (by rw [List.length_append]; omega) fun p12 H17 hp12 s17 e12 => ?_
    have dP := dO.same s17
    have hall : ∀ z ∈ (ys2 ++ ms) ++ ys3, z.length ≤ 60 ∧ Okq z := fun z hz => by
      rcases List.mem_append.mp hz with h | h
      · rcases List.mem_append.mp h with h | h
        · exact ⟨Nat.le_trans (s30 z (hys2 z h)) hx, s3o z (hys2 z h)⟩
        · exact wm z h
      · exact ⟨Nat.le_trans (s30 z (hys3 z h)) hx, s3o z (hys3 z h)⟩
    have hsum := sum_le 60 _ fun z hz => (hall z hz).1
    have hlen : ((ys2 ++ ms) ++ ys3).length ≤ 183 := by rw [List.length_append, List.length_append]; omega
    have h1 : ((" " : Str)).length = 1 := by decide +kernel
    have hj := join_len " " ((ys2 ++ ms) ++ ys3)
    rw [h1] at hj
    refine ⟨" ", p12, (ys2 ++ ms) ++ ys3, rfl, rfl, .inl (SqL.of e12), by rw [h1]; omega, ?_⟩
    exact ⟨_, rfl, _, rfl, by omega, q _ _ (cut_60 _) (cut_ok (join_ok (by decide +kernel : (" " : Str).cps.toList.all okq = true) fun z hz => (hall z hz).2) _ _) (dP.mono (by omega))⟩
end K12

set_option maxHeartbeats 4000000
namespace K12
open PySem PySem.Spec PyProof.Rows L2 Gx Tk
variable {P : Program} {w : World} {K : PySem.W.Frag} {mg : Str → Option Value} {base : Heap}
def WsZ (n : Nat) (xs : List Str) : Prop := WsL n xs ∧ ∀ x ∈ xs, Oka x
theorem WsZ.app {n : Nat} {a b : List Str} (h : WsZ n a) (h' : WsZ n b) : WsZ n (a ++ b) := ⟨h.1.app h'.1, fun x hx => (List.mem_append.mp hx).elim (h.2 x) (h'.2 x)⟩
theorem ws_allz (n : Nat) {xs : List Str} (h : xs.all (fun x => decide (1 ≤ x.length) && decide (x.length ≤ n) && x.cps.toList.all oka) = true) : WsZ n xs := by
  have key : ∀ x ∈ xs, (1 ≤ x.length ∧ x.length ≤ n) ∧ Oka x := fun x hx => by
    have := List.all_eq_true.mp h x hx
    rw [Bool.and_eq_true, Bool.and_eq_true, decide_eq_true_eq, decide_eq_true_eq] at this
    exact this
  exact ⟨fun x hx => (key x hx).1, fun x hx => (key x hx).2⟩
theorem ws_alln (n : Nat) {xs : List Str} (h : xs.all (fun x => decide (1 ≤ x.length) && decide (x.length ≤ n)) = true) : WsL n xs := fun x hx => by
  have := List.all_eq_true.mp h x hx
  rw [Bool.and_eq_true, decide_eq_true_eq, decide_eq_true_eq] at this
  exact this
def sp_soup : Sp := fun vs H Q _ => ∃ (st c nm : Addr) (b : Nat) (ns : List Str), vs = [.ref st, .ref nm] ∧ IsSt H st c b ∧ b + 20 ≤ cap ∧ Nmn H st c nm ns ∧ RetA st c b 20 H Q
theorem ok_L_soup (T : Facts K mg w) : FnG P w K mg base 3 T.f_L_soup T.d_L_soup ["_law_state", "_law_names_here"] sp_soup := by
  refine fnG_of T.F_L_soup sc_L_soup (fun vs H Q E h => ?_) (fun cdv A outer s H vs Q hG hr h => ?_)
  · obtain ⟨_, _, _, _, _, rfl, _⟩ := h; rfl
  · obtain ⟨st, c, nm, b, ns, rfl, hst, hb, hnm, q⟩ := h
    refine ⟨_, (pss_cons (ps_par (i := 2) (j := 3) (by rfl) sc_L_soup.nd rfl rfl (by decide) rfl rfl (pa_cons (pe_ix ix_list (pe_lst (pa_cons pe_str (pa_cons pe_str (pa_cons pe_str (pa_cons pe_str (pa_cons pe_str (pa_cons pe_str pa_nil))))))) (pe_go (ok_L_take T) hG (hr.mono (by decide)) (by rfl) T.g_L_take T.F_L_take.kp T.b_L_take (pa_cons (pv 0) (pa_cons pe_int pa_nil))) (fun _ _ => rfl)) (pa_cons (pe_go (ok_L_take T) hG (hr.mono (by decide)) (by rfl) T.g_L_take T.F_L_take.kp T.b_L_take (pa_cons (pv 0) (pa_cons pe_int pa_nil))) pa_nil)) (by rfl))
        (pss_cons (ps_set (i := 4) sc_L_soup.nd rfl (.inl rfl) (pe_lst (pa_cons pe_str (pa_cons pe_str (pa_cons pe_str (pa_cons pe_str (pa_cons pe_str (pa_cons pe_str (pa_cons pe_str (pa_cons pe_str (pa_cons pe_str (pa_cons pe_str (pa_cons pe_str (pa_cons pe_str (pa_cons pe_str (pa_cons pe_str (pa_cons pe_str (pa_cons pe_str (pa_cons pe_str pa_nil)))))))))))))))))))
        (pss_cons (ps_set (i := 4) sc_L_soup.nd rfl (.inl rfl) (pe_op op_cat (pv 4) (pe_lst (pa_cons pe_str (pa_cons pe_str (pa_cons pe_str (pa_cons pe_str (pa_cons pe_str (pa_cons pe_str (pa_cons pe_str (pa_cons pe_str (pa_cons pe_str (pa_cons pe_str (pa_cons pe_str (pa_cons pe_str pa_nil)))))))))))))))
        (pss_cons (ps_expr (pe_bm PySem.F.plainAttrs_list PySem.F.slot_list_append PySem.F.type_list_append mt_append (pv 4) (pa_cons pe_str pa_nil)))
        (pss_cons (ps_set (i := 4) sc_L_soup.nd rfl (.inl rfl) (pe_op op_cat (pv 4) (pe_lst (pa_cons pe_str (pa_cons pe_str (pa_cons pe_str (pa_cons pe_str (pa_cons pe_str (pa_cons pe_str (pa_cons pe_str (pa_cons pe_str (pa_cons pe_str (pa_cons pe_str (pa_cons pe_str (pa_cons pe_str (pa_cons pe_str (pa_cons pe_str (pa_cons pe_str (pa_cons pe_str (pa_cons pe_str pa_nil))))))))))))))))))))
        (pss_cons (ps_for PassesOwn.never rfl (pi_range1 (by rfl) T.n_range (pa_cons (pv 3) pa_nil)) (pg_name (i := 5) sc_L_soup.nd rfl (.inl rfl)) (pss_one (ps_set (i := 2) sc_L_soup.nd rfl (.inl rfl) (pe_op op_add_str (pv 2) (pe_go (ok_L_some T) hG (hr.mono (by decide)) (by rfl) T.g_L_some T.F_L_some.kp T.b_L_some (pa_cons (pv 0) (pa_cons (pe_op op_cat (pv 4) (pe_op op_rep (pv 1) pe_int)) pa_nil)))))))
        (pss_one (ps_ret (pe_slice sl_str (pv 2) po_none (po_some pe_int)))))))))), ?_⟩
    have hsl : (5000000 : Nat) ≤ sizeLine := by decide
    have hcp : cap = 1000000000 := rfl
    refine ⟨by show 6 ≤ sizeLine; decide, fun p1 hp1 => ?_⟩
    have dA := (Dr.refl hst).new (o := .lst [.str "", .str "let ", .str "def ", .str "take ", .str "let a=", .str "def f(x num)="]) hp1
    have n1 := (Dr.refl hst).nb hp1
    have e1 : (upd H p1 (.lst [.str "", .str "let ", .str "def ", .str "take ", .str "let a=", .str "def f(x num)="])) p1 = some (.lst ((["", "let ", "def ", "take ", "let a=", "def f(x num)="] : List Str).map V.str)) := upd_same
    generalize upd H p1 (.lst [.str "", .str "let ", .str "def ", .str "take ", .str "let a=", .str "def f(x num)="]) = H1 at dA e1 ⊢
    refine ⟨_, rfl, st, c, _, 6, rfl, dA.1, by omega, by decide, by decide, fun v1 H2 u0 u1 d2 => ?_⟩
    obtain ⟨y, hy, hym⟩ := item_at (xs := (["", "let ", "def ", "take ", "let a=", "def f(x num)="] : List Str).map V.str) u0 (by show v1 < 6; exact u1)
    obtain ⟨x0, hx0, rfl⟩ := List.mem_map.mp hym
    have hl00 : x0.length ≤ 20 ∧ Oka x0 := by
      have h : (["", "let ", "def ", "take ", "let a=", "def f(x num)="] : List Str).all (fun x => (decide (x.length ≤ 20) && x.cps.toList.all oka)) = true := by decide +kernel
      have := List.all_eq_true.mp h x0 hx0
      rw [Bool.and_eq_true, decide_eq_true_eq] at this
      exact this
    have hl0 := hl00.1
    have hs0 := hl00.2
    refine ⟨p1, _, _, _, rfl, rfl, SqL.of (d2.2 _ _ n1.1 n1.2 e1), hy, ?_⟩
    have dB := dA.trans d2
    refine ⟨_, rfl, st, c, _, 12, rfl, dB.1, by omega, by decide, by decide, fun many H3 m0 m1 d3 => ?_⟩
    have dC := dB.trans d3
    clear d2 d3 e1 hym hy
    refine ⟨_, _, rfl, ?_⟩
    refine ⟨by show 17 ≤ sizeLine; decide, fun p2 hp2 => ?_⟩
    have dD := dC.new (o := .lst [.str "(", .str ")", .str "[", .str "]", .str ",", .str "=", .str "+", .str "-", .str "*", .str "&", .str "<", .str " at ", .str " if ", .str " then ", .str " else ", .str "yes", .str " no "]) hp2
    have ep2 : (upd H3 p2 (.lst [.str "(", .str ")", .str "[", .str "]", .str ",", .str "=", .str "+", .str "-", .str "*", .str "&", .str "<", .str " at ", .str " if ", .str " then ", .str " else ", .str "yes", .str " no "])) p2 = some (.lst ((["(", ")", "[", "]", ",", "=", "+", "-", "*", "&", "<", " at ", " if ", " then ", " else ", "yes", " no "] : List Str).map V.str)) := upd_same
    generalize upd H3 p2 (.lst [.str "(", .str ")", .str "[", .str "]", .str ",", .str "=", .str "+", .str "-", .str "*", .str "&", .str "<", .str " at ", .str " if ", .str " then ", .str " else ", .str "yes", .str " no "]) = H4 at dD ep2  ⊢
    have fp2 := dC.free hp2
    have np2 := dC.nb hp2
    refine ⟨_, rfl, ?_⟩
    refine ⟨by show 12 ≤ sizeLine; decide, fun p3 hp3 => ?_⟩
    have dE := dD.new (o := .lst [.str "\"", .str "\"a b\"", .str "1", .str "0007", .str "1234567", .str "A", .str ">", .str "'", .str "~", .str "  ", .str "num", .str " words "]) hp3
    have ep3 : (upd H4 p3 (.lst [.str "\"", .str "\"a b\"", .str "1", .str "0007", .str "1234567", .str "A", .str ">", .str "'", .str "~", .str "  ", .str "num", .str " words "])) p3 = some (.lst ((["\"", "\"a b\"", "1", "0007", "1234567", "A", ">", "'", "~", "  ", "num", " words "] : List Str).map V.str)) := upd_same
    have ep2 := (upd_ne (H := H4) (o := .lst [.str "\"", .str "\"a b\"", .str "1", .str "0007", .str "1234567", .str "A", .str ">", .str "'", .str "~", .str "  ", .str "num", .str " words "]) (ne_of_none ep2 hp3)).trans ep2
    generalize upd H4 p3 (.lst [.str "\"", .str "\"a b\"", .str "1", .str "0007", .str "1234567", .str "A", .str ">", .str "'", .str "~", .str "  ", .str "num", .str " words "]) = H5 at dE ep3 ep2 ⊢
    refine rcat ep2 ep3 (by show 17 + 12 ≤ 1000000; decide) fun p4 H6 hp4 s4 e4 => ?_
    have dF := dE.same s4
    have f4 := dE.free hp4
    have n4 := dE.nb hp4
    have w4 : WsZ 9 ((["(", ")", "[", "]", ",", "=", "+", "-", "*", "&", "<", " at ", " if ", " then ", " else ", "yes", " no "] : List Str) ++ (["\"", "\"a b\"", "1", "0007", "1234567", "A", ">", "'", "~", "  ", "num", " words "] : List Str)) := (ws_allz 9 (by decide +kernel)).app (ws_allz 9 (by decide +kernel))
    have l4 : ((["(", ")", "[", "]", ",", "=", "+", "-", "*", "&", "<", " at ", " if ", " then ", " else ", "yes", " no "] : List Str) ++ (["\"", "\"a b\"", "1", "0007", "1234567", "A", ">", "'", "~", "  ", "num", " words "] : List Str)).length = 29 := rfl
    generalize ((["(", ")", "[", "]", ",", "=", "+", "-", "*", "&", "<", " at ", " if ", " then ", " else ", "yes", " no "] : List Str) ++ (["\"", "\"a b\"", "1", "0007", "1234567", "A", ">", "'", "~", "  ", "num", " words "] : List Str)) = os at e4 w4 l4
    clear ep2 ep3 dA dB dC dD dE
    refine ⟨_, rfl, .inl ⟨rfl, _, SqL.of e4⟩, p4, _, _, rfl, rfl, e4, by rw [List.length_map]; omega, ?_⟩
    have dG := dF.at f4 n4 (.lst (os.map V.str ++ [.str "abcdefghi"]))
    have e5 : (upd H6 p4 (.lst (os.map V.str ++ [.str "abcdefghi"]))) p4 = some (.lst ((os ++ (["abcdefghi"] : List Str)).map V.str)) := by rw [upd_same, List.map_append]; rfl
    have w5 : WsZ 9 (os ++ (["abcdefghi"] : List Str)) := w4.app (ws_allz 9 (by decide +kernel))
    have l5 : (os ++ (["abcdefghi"] : List Str)).length = 30 := by rw [List.length_append, l4]; rfl
    generalize (os ++ (["abcdefghi"] : List Str)) = os2 at e5 w5 l5
    generalize upd H6 p4 (.lst (os.map V.str ++ [.str "abcdefghi"])) = H7 at dG e5 ⊢
    refine ⟨_, rfl, ?_⟩
    refine ⟨by show 17 ≤ sizeLine; decide, fun p5 hp5 => ?_⟩
    have dH := dG.new (o := .lst [.str " let ", .str "take", .str "def", .str "_", .str "|", .str "^", .str ".", .str ";", .str ":", .str "{", .str "/", .str "\\", .str "?", .str "!", .str "#", .str "$", .str "@"]) hp5
    have ep5 : (upd H7 p5 (.lst [.str " let ", .str "take", .str "def", .str "_", .str "|", .str "^", .str ".", .str ";", .str ":", .str "{", .str "/", .str "\\", .str "?", .str "!", .str "#", .str "$", .str "@"])) p5 = some (.lst (([" let ", "take", "def", "_", "|", "^", ".", ";", ":", "{", "/", "\\", "?", "!", "#", "$", "@"] : List Str).map V.str)) := upd_same
    have e5 := (upd_ne (H := H7) (o := .lst [.str " let ", .str "take", .str "def", .str "_", .str "|", .str "^", .str ".", .str ";", .str ":", .str "{", .str "/", .str "\\", .str "?", .str "!", .str "#", .str "$", .str "@"]) (ne_of_none e5 hp5)).trans e5
    generalize upd H7 p5 (.lst [.str " let ", .str "take", .str "def", .str "_", .str "|", .str "^", .str ".", .str ";", .str ":", .str "{", .str "/", .str "\\", .str "?", .str "!", .str "#", .str "$", .str "@"]) = H8 at dH ep5 e5 ⊢
    refine rcat e5 ep5 (by rw [l5]; show 30 + 17 ≤ 1000000; decide) fun p6 H9 hp6 s6 e6 => ?_
    have dI := dH.same s6
    have n6 := dH.nb hp6
    have w6 : WsZ 9 (os2 ++ ([" let ", "take", "def", "_", "|", "^", ".", ";", ":", "{", "/", "\\", "?", "!", "#", "$", "@"] : List Str)) := w5.app (ws_allz 9 (by decide +kernel))
    have l6 : (os2 ++ ([" let ", "take", "def", "_", "|", "^", ".", ";", ":", "{", "/", "\\", "?", "!", "#", "$", "@"] : List Str)).length = 47 := by rw [List.length_append, l5]; rfl
    generalize (os2 ++ ([" let ", "take", "def", "_", "|", "^", ".", ";", ":", "{", "/", "\\", "?", "!", "#", "$", "@"] : List Str)) = os3 at e6 w6 l6
    clear e5 ep5 dF dG dH
    refine ⟨_, rfl, ?_⟩
    refine ⟨_, rfl, by omega, by omega, for_it walk_range (fun i σ H' => ∃ (x : Str) (y5 : Option V), x.length ≤ 20 + 9 * i ∧ Oka x ∧ Dr st c (b + 2 + i) H H' ∧ H' p6 = some (.lst (os3.map V.str)) ∧ σ = [some (.ref st), some (.ref nm), some (.str x), some (.int many), some (.ref p6), y5]) ⟨x0, none, by omega, hs0, dI.mono (by omega), e6, rfl⟩ (fun _ _ _ _ _ => trivial) (fun i v σ HA HB hi hP hy => ?_) (fun σ HA hP => ?_)⟩
    · obtain ⟨x, y5, hx, hsx, dJ, e6', rfl⟩ := hP
      obtain ⟨rfl, rfl⟩ := hy
      have him : i ≤ 11 := by omega
      have hnmJ := hnm.dr dJ
      refine ⟨_, rfl, _, rfl, _, rfl, _, rfl, nm, 3, _, rfl, rfl, hnmJ.1, by decide, by decide, ?_, fun p7 hp7 => ?_⟩
      · rw [List.length_map]; have := hnmJ.2.2.2.1; show _ * 3 ≤ _; omega
      have eR : (List.replicate (3 : Int).toNat (ns.map V.str)).flatten = ((List.replicate 3 ns).flatten).map V.str := by
        rw [List.map_flatten, List.map_replicate]; rfl
      rw [eR]
      have dK := dJ.new (o := .lst (((List.replicate 3 ns).flatten).map V.str)) hp7
      have e7 : (upd HB p7 (.lst (((List.replicate 3 ns).flatten).map V.str))) p7 = some (.lst (((List.replicate 3 ns).flatten).map V.str)) := upd_same
      have e6'' := (upd_ne (H := HB) (o := .lst (((List.replicate 3 ns).flatten).map V.str)) (ne_of_none e6' hp7)).trans e6'
      generalize upd HB p7 (.lst (((List.replicate 3 ns).flatten).map V.str)) = H10 at dK e7 e6'' ⊢
      have l7 : ((List.replicate 3 ns).flatten).length ≤ 300 := by
        rw [List.length_flatten, List.map_replicate, List.sum_replicate_nat]; have := hnmJ.2.2.2.1; omega
      have w70 : ∀ z ∈ (List.replicate 3 ns).flatten, NmS z := fun z hz => by
        obtain ⟨l, hl, hz⟩ := List.mem_flatten.mp hz
        rw [(List.mem_replicate.mp hl).2] at hz
        exact hnmJ.2.2.2.2 z hz
      have w7 : WsZ 9 ((List.replicate 3 ns).flatten) := ⟨fun z hz => (w70 z hz).ws.mono (by decide), fun z hz => oka_nm (w70 z hz)⟩
      refine rcat e6'' e7 (by rw [l6]; omega) fun p8 H11 hp8 s8 e8 => ?_
      have dL := dK.same s8
      have n8 := dK.nb hp8
      refine ⟨st, c, _, _, _, rfl, dL.1, by omega, ?_, ?_, .inl ⟨p8, rfl, n8, e8⟩, fun y H12 hy d12 => ?_⟩
      · intro e
        have := congrArg List.length e
        rw [List.length_map, List.length_append, l6] at this
        exact absurd this (by show 47 + _ ≠ 0; omega)
      · rw [List.length_map, List.length_append, l6]; omega
      · obtain ⟨z, hz, rfl⟩ := List.mem_map.mp hy
        have hzl := ((w6.app w7).1 z hz).2
        have hzs := (w6.app w7).2 z hz
        refine ⟨_, _, rfl, rfl, by omega, x ++ z, _, by rw [app_len]; omega, hsx.app hzs, (dL.trans d12).mono (by omega), ?_, rfl⟩
        have n6' := s8 _ _ e6''
        exact d12.2 _ _ n6.1 n6.2 n6'
    · obtain ⟨x, y5, hx, hsx, dJ, e6', rfl⟩ := hP
      have him : many.toNat ≤ 11 := by omega
      refine ⟨_, rfl, _, rfl, _, rfl, by omega, ?_⟩
      exact q _ _ (cut_60 _) (hsx.cut _ _) (dJ.mono (by omega))
end K12

set_option maxHeartbeats 4000000
namespace K12
open PySem PySem.Spec PyProof.Rows L2 Gx Tk
variable {P : Program} {w : World} {K : PySem.W.Frag} {mg : Str → Option Value} {base : Heap}
def RowA (r : Str) : Prop := r.length ≤ 60 ∧ Oka r
def sp_text : Sp := fun vs H Q _ => ∃ (st c nm : Addr) (b m : Nat) (ns : List Str), vs = [.ref st, .ref nm, .int (m : Int)] ∧ IsSt H st c b ∧ b + 1000000 ≤ cap ∧ m ≤ 24 ∧ Nmn H st c nm ns ∧
  ∀ p (rs : List Str) H', H p = none → (p ≠ st ∧ p ≠ c) → Dr st c (b + 1000000) H H' → H' p = some (.lst (rs.map V.str)) → rs.length = m → (∀ r ∈ rs, RowA r) → Q (.ref p) H'
theorem ok_L_text (T : Facts K mg w) : FnG P w K mg base 16 T.f_L_text T.d_L_text ["_law_state", "_law_names_here", "_law_many"] sp_text := by
  refine fnG_of T.F_L_text sc_L_text (fun vs H Q E h => ?_) (fun cdv A outer s H vs Q hG hr h => ?_)
  · obtain ⟨_, _, _, _, _, _, rfl, _⟩ := h; rfl
  · obtain ⟨st, c, nm, b, m, ns, rfl, hst, hb, hm, hnm, q⟩ := h
    refine ⟨_, (pss_cons (ps_set (i := 3) sc_L_text.nd rfl (.inl rfl) (pe_lst pa_nil))
        (pss_cons (ps_for PassesOwn.never rfl (pi_range1 (by rfl) T.n_range (pa_cons (pv 2) pa_nil)) (pg_name (i := 4) sc_L_text.nd rfl (.inl rfl)) (pss_cons (ps_set (i := 5) sc_L_text.nd rfl (.inl rfl) (pe_go (ok_L_right_row T) hG (hr.mono (by decide)) (by rfl) T.g_L_right_row T.F_L_right_row.kp T.b_L_right_row (pa_cons (pv 0) (pa_cons (pv 1) pa_nil))))
        (pss_cons (ps_set (i := 6) sc_L_text.nd rfl (.inl rfl) (pe_lst (pa_cons pe_str (pa_cons pe_str (pa_cons (pe_go (ok_L_bent_row T) hG (hr.mono (by decide)) (by rfl) T.g_L_bent_row T.F_L_bent_row.kp T.b_L_bent_row (pa_cons (pv 0) (pa_cons (pv 5) (pa_cons (pv 1) pa_nil)))) (pa_cons (pe_go (ok_L_soup T) hG (hr.mono (by decide)) (by rfl) T.g_L_soup T.F_L_soup.kp T.b_L_soup (pa_cons (pv 0) (pa_cons (pv 1) pa_nil))) pa_nil))))))
        (pss_one (ps_expr (pe_bm PySem.F.plainAttrs_list PySem.F.slot_list_append PySem.F.type_list_append mt_append (pv 3) (pa_cons (pe_go (ok_L_some T) hG (hr.mono (by decide)) (by rfl) T.g_L_some T.F_L_some.kp T.b_L_some (pa_cons (pv 0) (pa_cons (pe_op op_cat (pe_lst (pa_cons (pv 5) (pa_cons (pv 5) (pa_cons (pv 5) pa_nil)))) (pv 6)) pa_nil))) pa_nil)))))))
        (pss_one (ps_ret (pv 3))))), ?_⟩
    have hsl : (5000000 : Nat) ≤ sizeLine := by decide
    have hcp : cap = 1000000000 := rfl
    refine ⟨by show 0 ≤ sizeLine; decide, fun p hp => ?_⟩
    have d0 := (Dr.refl hst).new (o := .lst (([] : List Str).map V.str)) hp
    have np := (Dr.refl hst).nb hp
    have ep : (upd H p (.lst (([] : List Str).map V.str))) p = some (.lst (([] : List Str).map V.str)) := upd_same
    rw [show ([] : List V) = ([] : List Str).map V.str from rfl]
    generalize upd H p (.lst (([] : List Str).map V.str)) = H1 at d0 ep ⊢
    refine ⟨_, rfl, _, rfl, by omega, by omega, for_it walk_range (fun i σ H' => ∃ (rs : List Str) (y4 y5 y6 : Option V), rs.length = i ∧ (∀ r ∈ rs, RowA r) ∧ Dr st c (b + 41000 * i) H H' ∧ H' p = some (.lst (rs.map V.str)) ∧ σ = [some (.ref st), some (.ref nm), some (.int (m : Int)), some (.ref p), y4, y5, y6]) ⟨[], none, none, none, rfl, fun _ h => absurd h List.not_mem_nil, d0.mono (by omega), ep, rfl⟩ (fun _ _ _ _ _ => trivial) (fun i v σ HA HB hi hP hy => ?_) (fun σ HA hP => ?_)⟩
    · obtain ⟨rs, y4, y5, y6, hrl, hrs, dA, ep, rfl⟩ := hP
      obtain ⟨rfl, rfl⟩ := hy
      have hi : i < 24 := by omega
      have hnmA := hnm.dr dA
      refine ⟨_, rfl, _, rfl, st, c, nm, _, ns, rfl, dA.1, by omega, hnmA, fun x H2 hx hox d2 => ?_⟩
      have hnm2 := hnmA.dr d2
      refine ⟨_, rfl, _, rfl, _, rfl, st, c, nm, _, ns, x, rfl, hx, hox, d2.1, by omega, hnm2, fun xb H3 hxb hob d3 => ?_⟩
      have hnm3 := hnm2.dr d3
      refine ⟨_, rfl, _, rfl, st, c, nm, _, ns, rfl, d3.1, by omega, hnm3, fun xs H4 hxs hos d4 => ?_⟩
      have dB := ((dA.trans d2).trans d3).trans d4
      have ep4 := d4.2 _ _ np.1 np.2 (d3.2 _ _ np.1 np.2 (d2.2 _ _ np.1 np.2 ep))
      refine ⟨by show 4 ≤ sizeLine; decide, fun p1 hp1 => ?_⟩
      have dC := dB.new (o := .lst ((["", "  ", xb, xs] : List Str).map V.str)) hp1
      have e1 : (upd H4 p1 (.lst ((["", "  ", xb, xs] : List Str).map V.str))) p1 = some (.lst ((["", "  ", xb, xs] : List Str).map V.str)) := upd_same
      have ep5 := (upd_ne (H := H4) (o := .lst ((["", "  ", xb, xs] : List Str).map V.str)) (ne_of_none ep4 hp1)).trans ep4
      rw [show ([V.str "", .str "  ", .str xb, .str xs] : List V) = (["", "  ", xb, xs] : List Str).map V.str from rfl]
      generalize upd H4 p1 (.lst ((["", "  ", xb, xs] : List Str).map V.str)) = H5 at dC e1 ep5 ⊢
      refine ⟨_, rfl, .inl ⟨rfl, _, SqL.of ep5⟩, ?_⟩
      refine ⟨_, rfl, _, rfl, _, rfl, _, rfl, by show 3 ≤ sizeLine; decide, fun p2 hp2 => ?_⟩
      have dD := dC.new (o := .lst (([x, x, x] : List Str).map V.str)) hp2
      have e2 : (upd H5 p2 (.lst (([x, x, x] : List Str).map V.str))) p2 = some (.lst (([x, x, x] : List Str).map V.str)) := upd_same
      have ep6 := (upd_ne (H := H5) (o := .lst (([x, x, x] : List Str).map V.str)) (ne_of_none ep5 hp2)).trans ep5
      have e16 := (upd_ne (H := H5) (o := .lst (([x, x, x] : List Str).map V.str)) (ne_of_none e1 hp2)).trans e1
      rw [show ([V.str x, .str x, .str x] : List V) = ([x, x, x] : List Str).map V.str from rfl]
      generalize upd H5 p2 (.lst (([x, x, x] : List Str).map V.str)) = H6 at dD e2 ep6 e16 ⊢
      refine ⟨_, rfl, rcat e2 e16 (by show 3 + 4 ≤ 1000000; decide) fun p3 H7 hp3 s3 e3 => ?_⟩
      have dE := dD.same s3
      have n3 := dD.nb hp3
      have ep7 := s3 _ _ ep6
      have hall : ∀ z ∈ ([x, x, x] : List Str) ++ (["", "  ", xb, xs] : List Str), RowA z := fun z hz => by
        simp only [List.cons_append, List.nil_append, List.mem_cons, List.not_mem_nil, or_false] at hz
        rcases hz with rfl | rfl | rfl | rfl | rfl | rfl | rfl
        · exact ⟨hx, oka_okq hox⟩
        · exact ⟨hx, oka_okq hox⟩
        · exact ⟨hx, oka_okq hox⟩
        · exact ⟨by decide +kernel, by unfold Oka; decide +kernel⟩
        · exact ⟨by decide +kernel, by unfold Oka; decide +kernel⟩
        · exact ⟨hxb, oka_okq hob⟩
        · exact ⟨hxs, hos⟩
      refine ⟨st, c, _, _, (([x, x, x] : List Str) ++ (["", "  ", xb, xs] : List Str)).map V.str, rfl, dE.1, by omega, (fun e => nomatch e), by show 7 ≤ 100000; decide, .inl ⟨p3, rfl, n3, e3⟩, fun y H8 hy d8 => ?_⟩
      obtain ⟨u, hu, rfl⟩ := List.mem_map.mp hy
      have dF := dE.trans d8
      have ep8 := d8.2 _ _ np.1 np.2 ep7
      refine ⟨p, _, _, rfl, rfl, ep8, by rw [List.length_map]; omega, ?_⟩
      refine ⟨rs ++ [u], _, _, _, by rw [List.length_append, hrl]; rfl, fun r hr => ?_, (dF.at hp np (.lst (rs.map V.str ++ [.str u]))).mono (by omega), by rw [upd_same, List.map_append]; rfl, rfl⟩
      rcases List.mem_append.mp hr with h | h
      · exact hrs r h
      · rw [List.mem_singleton.mp h]; exact hall u hu
    · obtain ⟨rs, y4, y5, y6, hrl, hrs, dA, ep, rfl⟩ := hP
      exact ⟨_, rfl, q p rs HA hp np (dA.mono (by omega)) ep (by omega) hrs⟩
end K12

set_option maxHeartbeats 4000000
/-! Ct: how many line feeds stand in a text of so many rows. -/
namespace Tr
open PySem PySem.Spec PyProof.Rows L2 Gx Tk Lx PySem.Builtin.Str
theorem count_split (x : Str) : Txt.count x nl = (((Txt.split x nl).length : Nat) : Int) - 1 := by
  unfold Txt.count Txt.split
  by_cases h : (decide (x.length < nl.length) || decide (Builtin.Str.strKind x < Builtin.Str.strKind nl)) = true
  · rw [if_pos h]
    have hk : Builtin.Str.strKind nl = 1 := by decide +kernel
    have hk2 : 1 ≤ Builtin.Str.strKind x := by
      unfold Builtin.Str.strKind
      split
      · decide
      · split <;> decide
    rw [Bool.or_eq_true, decide_eq_true_eq, decide_eq_true_eq] at h
    have h0 : x.length = 0 := by
      have hl : nl.length = 1 := rfl
      rcases h with h | h <;> omega
    obtain ⟨a⟩ := x
    have : a = #[] := Array.eq_empty_of_size_eq_zero h0
    subst this
    decide +kernel
  · rw [if_neg h]
    by_cases h2 : (occurrences x nl 0 x.length (x.length + 1)).isEmpty = true
    · rw [if_pos h2, List.isEmpty_iff.mp h2]; rfl
    · rw [if_neg h2]
      have : (partsBetween x (occurrences x nl 0 x.length (x.length + 1)) nl.length).length = (occurrences x nl 0 x.length (x.length + 1)).length + 1 := by
        unfold partsBetween
        simp
      rw [this]; omega
theorem RowsK.count {rs : List Str} (h : RowsK rs) : Txt.count (Txt.join nl rs) nl = ((rs.length : Nat) : Int) - 1 := by
  rw [count_split, h.split]
end Tr

set_option maxHeartbeats 4000000
namespace K12
open PySem PySem.Spec PyProof.Rows L2 Gx Tk Tr Lx
section
variable {P : Program} {w : World} {K : PySem.W.Frag} {mg : Str → Option Value} {base : Heap}
def sp_law (K : PySem.W.Frag) : Sp := fun vs H Q _ => ∃ (a : Addr) (ns : List Int), vs = [.ref a] ∧ SqL K H a (ns.map V.int) ∧ ns.length ≤ 63 ∧ ∀ H', Q (.bl true) H'
theorem law_end {K : PySem.W.Frag} {n : Nat} {ns : List Int} {H : Hp} {a : Addr} (hl : ns.length ≤ 63) (_ : ∀ z ∈ ns, Builtin.Int.intBits z ≤ n) (_ : Only H) (hS : SqL K H a (ns.map V.int)) : sp_law K [.ref a] H (fun v _ => v = .bl true) E0 :=
  ⟨a, ns, rfl, hS, hl, fun _ => rfl⟩
def TK (H H' : Hp) : Prop := ∀ p vs, H p = some (.tup vs) → H' p = some (.tup vs)
theorem TK.dr {H H' : Hp} {st c : Addr} {b b' : Nat} (h : IsSt H st c b) (d : Dr st c b' H H') : TK H H' := fun p vs e => by
  obtain ⟨t, ns, _, h1, h2, _⟩ := h
  exact d.2 p _ (fun z => by rw [z, h1] at e; cases e) (fun z => by rw [z, h2] at e; cases e) e
/-- what was told: a text, the text laid out -/
def TupT (H : Hp) (p : Addr) (rs : List Str) : Prop := H p = some (.tup [.str (Txt.join nl rs), .str (laidT rs)])
theorem pairs_of {α : Type} {F : Addr → α → Prop} : ∀ (as : List Addr), (∀ p ∈ as, ∃ t, F p t) → ∃ ts, Paired F as ts
  | [], _ => ⟨[], .nil⟩
  | a :: as, h => by
    obtain ⟨t, ht⟩ := h a (List.mem_cons_self ..)
    obtain ⟨ts, hts⟩ := pairs_of as fun p hp => h p (List.mem_cons_of_mem _ hp)
    exact ⟨t :: ts, .cons ht hts⟩
theorem laidT_again (rs : List Str) : laidT (rs.map laidS) = laidT rs := by
  unfold laidT
  rw [List.map_map, show (laidS ∘ laidS) = laidS from funext laidS_again]
theorem all_true {K : PySem.W.Frag} {H : Hp} {Q : VK} {p : Addr} {n : Nat} (e : H p = some (.lst (List.replicate n (V.bl true)))) (q : Q (.bl true) H) : rAll K [.ref p] H Q := by
  refine ⟨p, List.replicate n true, rfl, SqL.of (by rw [List.map_replicate]; exact e), ?_⟩
  have : (List.replicate n true).all id = true := List.all_eq_true.mpr fun y hy => by
    rw [List.eq_of_mem_replicate hy]; rfl
  rw [this]; exact q
theorem ok_law (T : Facts K mg w) : FnG P w K mg base 193 T.f_law T.d_law ["_law_script"] (sp_law K) := by
  refine fnG_of (k := 192) T.F_law sc_law (fun vs H Q E h => ?_) (fun cdv A outer s H vs Q hG hr h => ?_)
  · obtain ⟨c, _, rfl, _⟩ := h; rfl
  · obtain ⟨a, ns, rfl, hS, hl, q⟩ := h
    refine ⟨_, (pss_cons (ps_par (i := 1) (j := 2) (by rfl) sc_law.nd rfl rfl (by decide) rfl rfl (pa_cons (pe_go (ok_L_begin T) hG (hr.mono (by decide)) (by rfl) T.g_L_begin T.F_L_begin.kp T.b_L_begin (pa_cons (pv 0) pa_nil)) (pa_cons (pe_lst pa_nil) pa_nil)) (by rfl))
        (pss_cons (ps_set (i := 3) sc_law.nd rfl (.inl rfl) (pe_go (ok_L_names T) hG (hr.mono (by decide)) (by rfl) T.g_L_names T.F_L_names.kp T.b_L_names (pa_cons (pv 1) (pa_cons pe_int pa_nil))))
        (pss_cons (ps_for PassesOwn.never rfl (pi_range1 (by rfl) T.n_range (pa_cons pe_int pa_nil)) (pg_name (i := 4) sc_law.nd rfl (.inl rfl)) (pss_cons (ps_set (i := 5) sc_law.nd rfl (.inl rfl) (pe_go (ok_L_text T) hG (hr.mono (by decide)) (by rfl) T.g_L_text T.F_L_text.kp T.b_L_text (pa_cons (pv 1) (pa_cons (pv 3) (pa_cons (pe_ix ix_list (pe_lst (pa_cons pe_int (pa_cons pe_int (pa_cons (pe_op op_add pe_int (pe_go (ok_L_take T) hG (hr.mono (by decide)) (by rfl) T.g_L_take T.F_L_take.kp T.b_L_take (pa_cons (pv 1) (pa_cons pe_int pa_nil)))) pa_nil)))) (pv 4) (fun _ _ => rfl)) pa_nil)))))
        (pss_cons (ps_par (i := 6) (j := 7) (by rfl) sc_law.nd rfl rfl (by decide) rfl rfl (pa_cons (pe_join pe_str (pv 5)) (pa_cons (pe_join pe_str (pe_lc (own := [("_law_row", 8)]) rfl sc_law.nd (pi_list (pv 5)) (blkOk_by (own := [("_law_row", 8)]) (N := ["_law_script", "_law_state", "_law_told", "_law_names_here", "_law_turn", "_law_rows", "_law_text_here", "_law_due", "_law_row"]) (sc := defScope s_law) (by decide +kernel)) (fun _ _ _ _ _ => (pg_name (i := 8) sc_law.nd rfl (.inl rfl))) (fun _ _ _ _ _ => pts_nil) (fun _ _ _ _ _ => (pe_go (ok_laid T) hG (hr.mono (by decide)) (by rfl) T.g_laid T.F_laid.kp T.b_laid (pa_cons (pv 8) pa_nil))))) pa_nil)) (by rfl))
        (pss_cons (ps_expr (pe_bm PySem.F.plainAttrs_list PySem.F.slot_list_append PySem.F.type_list_append mt_append (pv 2) (pa_cons (pe_tup (pa_cons (pv 6) (pa_cons (pv 7) pa_nil))) pa_nil)))
        (pss_cons (ps_if (PW.pt (pw_or (pt_cmpR op_ne (pe_go (ok_laid_text T) hG (hr.mono (by decide)) (by rfl) T.g_laid_text T.F_laid_text.kp T.b_laid_text (pa_cons (pv 6) pa_nil)) (pv 7) (nomark _)) (pw_or (pt_cmpR op_ne (pe_go (ok_laid_text T) hG (hr.mono (by decide)) (by rfl) T.g_laid_text T.F_laid_text.kp T.b_laid_text (pa_cons (pv 7) pa_nil)) (pv 7) (nomark _)) (pw_or1 (pt_cmpR op_ne (pe_bm PySem.F.plainAttrs_str PySem.F.slot_str_count PySem.F.type_str_count mt_count (pv 7) (pa_cons pe_str pa_nil)) (pe_bm PySem.F.plainAttrs_str PySem.F.slot_str_count PySem.F.type_str_count mt_count (pv 6) (pa_cons pe_str pa_nil)) (nomark _)))))) (pss_one (ps_ret pe_bl)) pss_nil)
        (pss_one (ps_if (PW.pt (pw_or (pt_cmpR (op_neD hr.units) (pe_go (ok_rows_of T) hG (hr.mono (by decide)) (by rfl) T.g_rows_of T.F_rows_of.kp T.b_rows_of (pa_cons (pe_go (ok_laid_text T) hG (hr.mono (by decide)) (by rfl) T.g_laid_text T.F_laid_text.kp T.b_laid_text (pa_cons (pv 6) pa_nil)) pa_nil)) (pe_lc (own := [("_law_row", 8)]) rfl sc_law.nd (pi_list (pv 5)) (blkOk_by (own := [("_law_row", 8)]) (N := ["_law_script", "_law_state", "_law_told", "_law_names_here", "_law_turn", "_law_rows", "_law_text_here", "_law_due", "_law_row"]) (sc := defScope s_law) (by decide +kernel)) (fun _ _ _ _ _ => (pg_name (i := 8) sc_law.nd rfl (.inl rfl))) (fun _ _ _ _ _ => pts_nil) (fun _ _ _ _ _ => (pe_go (ok_laid T) hG (hr.mono (by decide)) (by rfl) T.g_laid T.F_laid.kp T.b_laid (pa_cons (pv 8) pa_nil)))) (nomark _)) (pw_or1 (pt_cmpR op_ne (pe_go (ok_laid_text T) hG (hr.mono (by decide)) (by rfl) T.g_laid_text T.F_laid_text.kp T.b_laid_text (pa_cons (pe_go (ok_text_of T) hG (hr.mono (by decide)) (by rfl) T.g_text_of T.F_text_of.kp T.b_text_of (pa_cons (pv 5) pa_nil)) pa_nil)) (pv 7) (nomark _))))) (pss_one (ps_ret pe_bl)) pss_nil)))))))
        (pss_one (ps_ret (pe_and (pe_callB (cr_all rfl) (by rfl) T.n_all (by decide +kernel) (pa_cons (pe_lc (own := [("_law_text_here", 6), ("_law_due", 7)]) rfl sc_law.nd (pi_list (pe_op op_cat (pe_revL (pv 2)) (pv 2))) (blkOk_by (own := [("_law_text_here", 6), ("_law_due", 7)]) (N := ["_law_script", "_law_state", "_law_told", "_law_names_here", "_law_turn", "_law_rows", "_law_text_here", "_law_due", "_law_row"]) (sc := defScope s_law) (by decide +kernel)) (fun _ _ _ _ _ => (pg_tupK (K := K) (n := 2) rfl rfl (pgs_cons (pg_name (i := 6) sc_law.nd rfl (.inl rfl)) (pgs_cons (pg_name (i := 7) sc_law.nd rfl (.inl rfl)) pgs_nil)))) (fun _ _ _ _ _ => pts_nil) (fun _ _ _ _ _ => (pe_cmpR op_eq (pe_go (ok_laid_text T) hG (hr.mono (by decide)) (by rfl) T.g_laid_text T.F_laid_text.kp T.b_laid_text (pa_cons (pv 6) pa_nil)) (pv 7) (nomark _)))) pa_nil)) (pe_one (pe_cmpR op_eq (pe_go (ok_laid_text T) hG (hr.mono (by decide)) (by rfl) T.g_laid_text T.F_laid_text.kp T.b_laid_text (pa_cons pe_str pa_nil)) pe_str (nomark _))))))))), ?_⟩
    have hsl : (5000000 : Nat) ≤ sizeLine := by decide
    have hcp : cap = 1000000000 := rfl
    refine ⟨_, rfl, a, ns, rfl, hS, hl, fun st c H1 _ _ hst => ?_⟩
    refine ⟨by show 0 ≤ sizeLine; decide, fun tl htl => ?_⟩
    have d1 := (Dr.refl hst).new (o := .lst (([] : List Addr).map V.ref)) htl
    have ntl := hst.nb htl
    have etl : (upd H1 tl (.lst (([] : List Addr).map V.ref))) tl = some (.lst (([] : List Addr).map V.ref)) := upd_same
    rw [show ([] : List V) = ([] : List Addr).map V.ref from rfl]
    generalize upd H1 tl (.lst (([] : List Addr).map V.ref)) = H2 at d1 etl ⊢
    refine ⟨_, _, rfl, ?_⟩
    refine ⟨_, rfl, st, c, 0, 4, rfl, d1.1, by omega, by decide, fun nm nsn H3 hp hn d3 e3 hR => ?_⟩
    have hnm : Nmn H3 st c nm nsn := ⟨e3, hn, fun e => by rw [e] at hR; exact absurd hR.1 (by decide), by rw [hR.1]; decide, hR.2⟩
    have etl3 := d3.2 _ _ ntl.1 ntl.2 etl
    have hst3 := d3.1
    have hnn : nm ≠ tl := Ne.symm (ne_of_none etl hp)
    clear d3 d1 etl
    refine ⟨3, rfl, by decide, by decide, for_it walk_range (fun i σ H' => ∃ (as : List Addr) (y4 y5 y6 y7 y8 : Option V), IsSt H' st c (1100000 * i + 100) ∧ H' tl = some (.lst (as.map V.ref)) ∧ (∀ p ∈ as, ∃ rs, RowsK rs ∧ TupT H' p rs) ∧ as.length ≤ i ∧ Nmn H' st c nm nsn ∧ σ = [some (.ref a), some (.ref st), some (.ref tl), some (.ref nm), y4, y5, y6, y7, y8]) ⟨[], none, none, none, none, none, hst3.mono (by omega), etl3, fun _ h => absurd h List.not_mem_nil, Nat.le_refl _, hnm, rfl⟩ (fun _ _ _ _ _ => trivial) (fun i v σ HA HB hi hP hy => ?_) (fun σ HA hP => ?_)⟩
    · obtain ⟨as, y4, y5, y6, y7, y8, hstA, etl, hpr, hal, hnm, rfl⟩ := hP
      obtain ⟨rfl, rfl⟩ := hy
      have hi : i < 3 := hi
      refine ⟨_, rfl, _, rfl, _, rfl, st, c, _, 24, rfl, hstA, by omega, by decide, by decide, fun v1 H4 u0 u1 d4 => ?_⟩
      refine ⟨_, _, rfl, rfl, ?_⟩
      refine ⟨by show 3 ≤ sizeLine; decide, fun p1 hp1 => ?_⟩
      have d5 := d4.new (o := .lst [.int 1, .int 24, .int (1 + v1)]) hp1
      have e1 : (upd H4 p1 (.lst [.int 1, .int 24, .int (1 + v1)])) p1 = some (.lst [.int 1, .int 24, .int (1 + v1)]) := upd_same
      generalize upd H4 p1 (.lst [.int 1, .int 24, .int (1 + v1)]) = H5 at d5 e1 ⊢
      obtain ⟨m, hm, hat⟩ : ∃ m : Nat, (1 ≤ m ∧ m ≤ 24) ∧ atI [V.int 1, .int 24, .int (1 + v1)] (0 + (i : Int)) = some (.int (m : Int)) := by
        have : i = 0 ∨ i = 1 ∨ i = 2 := by omega
        rcases this with rfl | rfl | rfl
        · exact ⟨1, by omega, atI_nat (j := 0) rfl⟩
        · exact ⟨24, by omega, atI_nat (j := 1) rfl⟩
        · exact ⟨1 + v1.toNat, by omega, (atI_nat (j := 2) rfl).trans (by rw [show ((1 + v1.toNat : Nat) : Int) = 1 + v1 by omega])⟩
      refine ⟨_, rfl, p1, _, _, _, rfl, rfl, SqL.of e1, hat, ?_⟩
      refine ⟨st, c, nm, _, m, nsn, rfl, d5.1, by omega, hm.2, hnm.dr d5, fun pr rs H6 hpr0 npr d6 epr hrl hra => ?_⟩
      have hK : RowsK rs := ⟨fun e => by rw [e] at hrl; have : (0 : Nat) = m := hrl; omega, by omega, fun r hr => hra r hr⟩
      have dA := d5.trans d6
      refine ⟨⟨"\n", rfl⟩, _, rfl, "\n", pr, rs, rfl, rfl, .inl (SqL.of epr), Nat.le_trans hK.sum (by decide), ?_⟩
      refine ⟨⟨"\n", rfl⟩, ?_⟩
      refine lc_pre (fun u' Hx => u' = pr ∧ Hx = H6) (fun R k => ⟨_, rfl, k pr H6 ⟨rfl, rfl⟩⟩) (fun u' Hx hu => ?_)
      obtain ⟨rfl, rfl⟩ := hu
      have h24 := hK.2.1
      refine lc_gen (xs := rs.map V.str) (fun i => (rs[i]?).map fun r => V.str (laidS r)) (fun j => [some (.ref a), some (.ref st), some (.ref tl), some (.ref nm), some (.int (0 + (i : Int))), some (.ref u'), y6, y7, (rs[j]?).map V.str]) (SqL.of epr) (by rw [List.length_map]; omega) (fun i z HA Qn hz sa qa => ?_) (fun i => rfl) (fun i z HA Qb hz sa qa => ?_) (fun i z y HA Qv hz hy sa qa => ?_) (fun D HJ hD sa eD => ?_)
      · rw [List.getElem?_map] at hz
        obtain ⟨r, hr', rfl⟩ := Option.map_eq_some_iff.mp hz
        rw [hr'] at qa
        exact qa
      · rw [List.getElem?_map] at hz
        obtain ⟨r, hr', rfl⟩ := Option.map_eq_some_iff.mp hz
        rw [hr'] at qa
        exact qa _ (Same.refl _)
      · rw [List.getElem?_map] at hz
        obtain ⟨r, hr', rfl⟩ := Option.map_eq_some_iff.mp hz
        rw [hr'] at hy ⊢
        cases hy
        refine ⟨_, rfl, r, rfl, (hK.2.2 r (List.mem_of_getElem? hr')).1, fun y d ss H3 wh hy s3 => ?_⟩
        obtain rfl : y = laidS r := laidS_eq ⟨d, ss, wh, hy⟩
        exact qa _ s3
      · have ek : kept (fun i => (rs[i]?).map fun r => V.str (laidS r)) (rs.map V.str).length = (rs.map laidS).map V.str := by
          rw [List.length_map, kept_map (ts := rs) (p := fun _ => true) (g := fun r => V.str (laidS r)) (fun i t ht => by rw [ht]; rfl) _ (Nat.le_refl _), List.take_length, List.filter_eq_self.mpr (fun _ _ => rfl), List.map_map]
          rfl
        rw [ek] at eD
        refine ⟨"\n", D, rs.map laidS, rfl, rfl, .inl (SqL.of eD), Nat.le_trans hK.laid.sum (by decide), ?_⟩
        refine ⟨_, _, rfl, ?_⟩
        have dB := dA.1.same sa
        have etlJ := sa _ _ (dA.2 _ _ ntl.1 ntl.2 etl)
        refine ⟨_, rfl, .inl ⟨rfl, _, SqL.of etlJ⟩, _, rfl, _, rfl, by show 2 ≤ sizeLine; decide, fun t ht => ?_⟩
        have hstC := dB.same (same_new (o := .tup [.str (Txt.join nl rs), .str (laidT rs)]) ht)
        have kC : TK HB (upd HJ t (.tup [.str (Txt.join nl rs), .str (laidT rs)])) := fun p vs e => (same_new ht) _ _ (sa _ _ (TK.dr hstA dA p vs e))
        have et : TupT (upd HJ t (.tup [.str (Txt.join nl rs), .str (laidT rs)])) t rs := upd_same
        have eprK := (upd_ne (H := HJ) (o := .tup [.str (Txt.join nl rs), .str (laidT rs)]) (ne_of_none (sa _ _ epr) ht)).trans (sa _ _ epr)
        have kK : Dr st c (1100000 * i + 1100100) HB (upd HJ t (.tup [.str (Txt.join nl rs), .str (laidT rs)])) := ((dA.same sa).new ht).mono (by omega)
        have etlK := (upd_ne (H := HJ) (o := .tup [.str (Txt.join nl rs), .str (laidT rs)]) (ne_of_none etlJ ht)).trans etlJ
        rw [show Txt.join "\n" (rs.map laidS) = laidT rs from rfl, show ("\n" : Str) = nl from rfl]
        generalize upd HJ t (.tup [.str (Txt.join nl rs), .str (laidT rs)]) = HK at hstC kC et etlK eprK kK ⊢
        refine ⟨tl, _, _, rfl, rfl, etlK, by rw [List.length_map]; omega, ?_⟩
        have hnt : tl ≠ t := fun e => by rw [e] at etlK; cases etlK.symm.trans et
        have etN : (upd HK tl (.lst (as.map V.ref ++ [.ref t]))) tl = some (.lst ((as ++ [t]).map V.ref)) := by rw [upd_same, List.map_append]; rfl
        have kN : ∀ p vs, HK p = some (.tup vs) → (upd HK tl (.lst (as.map V.ref ++ [.ref t]))) p = some (.tup vs) := fun p vs e => (upd_ne (fun z => by rw [z, etlK] at e; cases e)).trans e
        have hprN : ∀ p ∈ as ++ [t], ∃ rs, RowsK rs ∧ TupT (upd HK tl (.lst (as.map V.ref ++ [.ref t]))) p rs := fun p hp => by
          rcases List.mem_append.mp hp with h | h
          · obtain ⟨rs', h1, h2⟩ := hpr p h
            exact ⟨rs', h1, kN _ _ (kC _ _ h2)⟩
          · rw [List.mem_singleton.mp h]; exact ⟨rs, hK, kN _ _ et⟩
        have hpt : u' ≠ tl := Ne.symm (ne_of_none (d5.2 _ _ ntl.1 ntl.2 etl) hpr0)
        have eprN : (upd HK tl (.lst (as.map V.ref ++ [.ref t]))) u' = some (.lst (rs.map V.str)) := (upd_ne hpt).trans eprK
        have hstN : IsSt (upd HK tl (.lst (as.map V.ref ++ [.ref t]))) st c (1100000 * i + 1100100) := by
          obtain ⟨tt, ns, h1, h2, h3, h4⟩ := kK.1
          exact ⟨tt, ns, h1, (upd_ne (Ne.symm ntl.1)).trans h2, (upd_ne (Ne.symm ntl.2)).trans h3, h4⟩
        have hnmN : Nmn (upd HK tl (.lst (as.map V.ref ++ [.ref t]))) st c nm nsn := by
          have h := hnm.dr kK
          exact ⟨(upd_ne hnn).trans h.1, h.2⟩
        have halN : (as ++ [t]).length ≤ i + 1 := by rw [List.length_append]; show as.length + 1 ≤ i + 1; omega
        generalize (upd HK tl (.lst (as.map V.ref ++ [.ref t]))) = HN at etN hprN eprN hstN hnmN ⊢
        clear etlK kN et kC kK eprK hstC dA dB d4 d5 d6 eD e1 epr etlJ
        have hwK : ∀ z ∈ rs.map laidS, Wc z := fun z hz => oka_wc (hK.laid.2.2 z hz).2
        have hlT : (laidT rs).length ≤ 1500 := Nat.le_trans (join_len nl _) hK.laid.sum
        have hspT : Txt.split (laidT rs) nl = rs.map laidS := hK.laid.split
        have hcn : Txt.count (laidT rs) nl = Txt.count (Txt.join nl rs) nl := by
          rw [hK.count, show laidT rs = Txt.join nl (rs.map laidS) from rfl, hK.laid.count, List.length_map]
        dsimp only [tSeq, tIfS, tOr, tNext]
        refine ⟨_, rfl, rs, rfl, hK, fun H7 s7 => ⟨_, rfl, rfl, _, rfl, ?_⟩⟩
        dsimp only; rw [decide_eq_true rfl, if_neg (by decide)]
        refine ⟨_, rfl, rs.map laidS, rfl, hK.laid, fun H8 s8 => ⟨_, rfl, rfl, _, rfl, ?_⟩⟩
        dsimp only; rw [laidT_again, decide_eq_true rfl, if_neg (by decide)]
        refine ⟨_, rfl, rfl, _, _, rfl, rfl, _, rfl, rfl, _, _, rfl, rfl, rfl, _, rfl, ?_⟩
        dsimp only; rw [hcn, decide_eq_true rfl, if_neg (by decide)]
        refine ⟨_, rfl, rs, rfl, hK, fun H9 s9 => ⟨_, rfl, by omega, fun q1 H10 hq1 s10 e10 => ?_⟩⟩
        rw [hspT] at e10
        dsimp only [List.set_cons_succ, List.set_cons_zero]
        have epr10 := s10 _ _ (s9 _ _ (s8 _ _ (s7 _ _ eprN)))
        refine lc_pre (fun u2 Hx => u2 = u' ∧ Hx = H10) (fun R k => ⟨_, rfl, k u' H10 ⟨rfl, rfl⟩⟩) (fun u2 Hx hu => ?_)
        obtain ⟨rfl, rfl⟩ := hu
        refine lc_gen (xs := rs.map V.str) (fun i => (rs[i]?).map fun r => V.str (laidS r)) (fun j => [some (.ref a), some (.ref st), some (.ref tl), some (.ref nm), some (.int (0 + (i : Int))), some (.ref u2), some (.str (Txt.join nl rs)), some (.str (laidT rs)), (rs[j]?).map V.str]) (SqL.of epr10) (by rw [List.length_map]; omega) (fun i z HA Qn hz sa qa => ?_) (fun i => rfl) (fun i z HA Qb hz sa qa => ?_) (fun i z y HA Qv hz hy sa qa => ?_) (fun D HJ hD sa eD => ?_)
        · rw [List.getElem?_map] at hz
          obtain ⟨r, hr', rfl⟩ := Option.map_eq_some_iff.mp hz
          rw [hr'] at qa
          exact qa
        · rw [List.getElem?_map] at hz
          obtain ⟨r, hr', rfl⟩ := Option.map_eq_some_iff.mp hz
          rw [hr'] at qa
          exact qa _ (Same.refl _)
        · rw [List.getElem?_map] at hz
          obtain ⟨r, hr', rfl⟩ := Option.map_eq_some_iff.mp hz
          rw [hr'] at hy ⊢
          cases hy
          refine ⟨_, rfl, r, rfl, (hK.2.2 r (List.mem_of_getElem? hr')).1, fun y d ss H3 wh hy s3 => ?_⟩
          obtain rfl : y = laidS r := laidS_eq ⟨d, ss, wh, hy⟩
          exact qa _ s3
        · have ek : kept (fun i => (rs[i]?).map fun r => V.str (laidS r)) (rs.map V.str).length = (rs.map laidS).map V.str := by
            rw [List.length_map, kept_map (ts := rs) (p := fun _ => true) (g := fun r => V.str (laidS r)) (fun i t ht => by rw [ht]; rfl) _ (Nat.le_refl _), List.take_length, List.filter_eq_self.mpr (fun _ _ => rfl), List.map_map]
            rfl
          rw [ek] at eD
          refine ne_strs (sa _ _ e10) eD hwK ⟨_, rfl, ?_⟩
          rw [if_neg (by decide)]
          have eprJ := sa _ _ epr10
          refine ⟨_, rfl, u2, rs, rfl, eprJ, Nat.le_trans hK.sum (by decide), rs, rfl, hK, fun HR sR => ⟨_, rfl, rfl, _, rfl, ?_⟩⟩
          dsimp only; rw [decide_eq_true rfl, if_neg (by decide)]
          have sZ := s7.trans (s8.trans (s9.trans (s10.trans (sa.trans sR))))
          exact ⟨as ++ [t], _, _, _, _, _, (hstN.same sZ).mono (by omega), sZ _ _ etN, fun p hp => (hprN p hp).imp fun rs h => ⟨h.1, sZ _ _ h.2⟩, halN, ⟨sZ _ _ hnmN.1, hnmN.2⟩, rfl⟩
    · obtain ⟨as, y4, y5, y6, y7, y8, hstA, etl, hpr, hal, hnm, rfl⟩ := hP
      dsimp only [tRet, tAndV, tCB, tCons, tNil]
      refine lc_pre (fun u Hx => Same HA Hx ∧ Hx u = some (.lst ((as.reverse ++ as).map V.ref))) (fun R k => ⟨_, rfl, tl, _, rfl, SqL.of etl, fun q1 hq1 => ?_⟩) (fun u H3 hu => ?_)
      · have s1 := same_new (o := .lst (as.map V.ref).reverse) hq1
        have e1 : (upd HA q1 (.lst (as.map V.ref).reverse)) q1 = some (.lst (as.map V.ref).reverse) := upd_same
        have etl1 := s1 _ _ etl
        generalize (upd HA q1 (.lst (as.map V.ref).reverse)) = H2 at s1 e1 etl1 ⊢
        rw [← List.map_reverse] at e1
        refine ⟨_, rfl, q1, tl, _, _, rfl, rfl, e1, etl1, by rw [List.length_map, List.length_map, List.length_reverse]; omega, fun q2 hq2 => k q2 _ ⟨s1.trans (same_new hq2), by rw [upd_same, List.map_append]⟩⟩
      obtain ⟨s2, e2⟩ := hu
      obtain ⟨tt, htt⟩ := pairs_of (F := fun p rs => RowsK rs ∧ TupT H3 p rs) (as.reverse ++ as) fun p hp => by
        have hp' : p ∈ as := by
          rcases List.mem_append.mp hp with h | h
          · exact List.mem_reverse.mp h
          · exact h
        obtain ⟨rs, h1, h2⟩ := hpr p hp'
        exact ⟨rs, h1, s2 _ _ h2⟩
      have hcl : (as.reverse ++ as).length ≤ 6 := by rw [List.length_append, List.length_reverse]; omega
      generalize as.reverse ++ as = cs at e2 htt hcl ⊢
      refine lc_gen (xs := cs.map V.ref) (fun i => if i < cs.length then some (V.bl true) else none) (fun j => [some (.ref a), some (.ref st), some (.ref tl), some (.ref nm), y4, y5, (tt[j]?).map fun rs => V.str (Txt.join nl rs), (tt[j]?).map fun rs => V.str (laidT rs), y8]) (SqL.of e2) (by rw [List.length_map]; omega) (fun i z HB Qn hz sb qa => ?_) (fun i => rfl) (fun i z HB Qb hz sb qa => ?_) (fun i z y HB Qv hz hy sb qa => ?_) (fun D4 HN hD4 sb eD4 => ?_)
      · obtain ⟨p1, rfl, hp1⟩ := map_get hz
        obtain ⟨k, hk, hkt⟩ := pget htt hp1
        rw [hk] at qa
        exact ⟨p1, _, rfl, SqT.of (sb _ _ hkt.2), rfl, _, _, rfl, _, _, rfl, rfl, qa⟩
      · obtain ⟨p1, rfl, hp1⟩ := map_get hz
        rw [if_pos (List.getElem?_eq_some_iff.mp hp1).1] at qa
        exact qa _ (Same.refl _)
      · obtain ⟨p1, rfl, hp1⟩ := map_get hz
        obtain ⟨k, hk, hkt⟩ := pget htt hp1
        rw [if_pos (List.getElem?_eq_some_iff.mp hp1).1] at hy
        cases hy
        rw [hk]
        refine ⟨_, rfl, k, rfl, hkt.1, fun H5 s5 => ⟨_, rfl, rfl, ?_⟩⟩
        rw [decide_eq_true rfl]
        exact qa _ s5
      · have ek : kept (fun i => if i < cs.length then some (V.bl true) else none) (cs.map V.ref).length = List.replicate cs.length (V.bl true) := by
          rw [List.length_map, kept_map (ts := cs) (p := fun _ => true) (g := fun _ => V.bl true) (fun i t ht => by rw [if_pos (List.getElem?_eq_some_iff.mp ht).1]; rfl) _ (Nat.le_refl _), List.take_length, List.filter_eq_self.mpr (fun _ _ => rfl)]
          exact List.map_const' ..
        rw [ek] at eD4
        refine all_true eD4 ⟨_, rfl, ?_⟩
        rw [if_pos rfl]
        have he : RowsK [""] := ⟨by decide, by decide, fun r hr => by rw [List.mem_singleton.mp hr]; exact ⟨by decide +kernel, by unfold Oka; decide +kernel⟩⟩
        have hle : laidT [""] = "" := by
          obtain ⟨d, ss, _, e⟩ := laidS_ok ""
          have e2 : laidL ("" : Str).cps.toList ss = [] := by
            show laidL [] ss = []
            unfold laidL
            split
            · split
              · decide +kernel
              · rfl
            · rfl
          rw [e2] at e
          have e3 : laidS "" = "" := TL.ext_tl e
          show Txt.join nl [laidS ""] = ""
          rw [e3]
          decide +kernel
        refine ⟨[""], by decide +kernel, he, fun H6 s6 => ⟨rfl, ?_⟩⟩
        rw [hle, decide_eq_true rfl]
        exact q _
end
theorem all_mk {l : PySem.W.OpenLaw} {w : World} {K : PySem.W.Frag} {h : Heap} {mg : Str → Option Value} {fa : Addr} (X : K.In h) (G : h.Ns mainGlobals mg) (hfa : mg "law" = some (.ref fa))
    {C_Reader : Addr} (z_Reader : PySem.W.nsIn K mainGlobals "Reader" = some (some (.ref C_Reader))) (p1_Reader : PySem.W.plainGet K C_Reader Str.empty = true) (p2_Reader : PySem.W.hasDictIn K C_Reader = true) (p3_Reader : PySem.W.plainOver K C_Reader = true) (p4_Reader : PySem.W.findIn K (.ref C_Reader) "__setattr__" = some (some (.builtin "object.__setattr__"))) (p5_Reader : PySem.W.makesIn K C_Reader = true) (p6_Reader : PySem.W.keepIn K (.ref C_Reader) = true) (na_Reader_found : PySem.W.findIn K (.ref C_Reader) "found" = some none) (na_Reader_at : PySem.W.findIn K (.ref C_Reader) "at" = some none) (na_Reader_stops : PySem.W.findIn K (.ref C_Reader) "stops" = some none) {f_Reader___init__ : Addr} {d_Reader___init__ : FuncData} (h_Reader___init__ : HasMeth K C_Reader "__init__" "Reader.__init__" s_Reader___init__ f_Reader___init__ d_Reader___init__) {f_Reader_here : Addr} {d_Reader_here : FuncData} (h_Reader_here : HasMeth K C_Reader "here" "Reader.here" s_Reader_here f_Reader_here d_Reader_here) {f_Reader_stands : Addr} {d_Reader_stands : FuncData} (h_Reader_stands : HasMeth K C_Reader "stands" "Reader.stands" s_Reader_stands f_Reader_stands d_Reader_stands) {f_Reader_step : Addr} {d_Reader_step : FuncData} (h_Reader_step : HasMeth K C_Reader "step" "Reader.step" s_Reader_step f_Reader_step d_Reader_step) {f_Reader_stop : Addr} {d_Reader_stop : FuncData} (h_Reader_stop : HasMeth K C_Reader "stop" "Reader.stop" s_Reader_stop f_Reader_stop d_Reader_stop) {f_Reader_read_sign : Addr} {d_Reader_read_sign : FuncData} (h_Reader_read_sign : HasMeth K C_Reader "read_sign" "Reader.read_sign" s_Reader_read_sign f_Reader_read_sign d_Reader_read_sign) {f_Reader_read_name : Addr} {d_Reader_read_name : FuncData} (h_Reader_read_name : HasMeth K C_Reader "read_name" "Reader.read_name" s_Reader_read_name f_Reader_read_name d_Reader_read_name) {f_Reader_read_kind : Addr} {d_Reader_read_kind : FuncData} (h_Reader_read_kind : HasMeth K C_Reader "read_kind" "Reader.read_kind" s_Reader_read_kind f_Reader_read_kind d_Reader_read_kind) {f_Reader_read_param : Addr} {d_Reader_read_param : FuncData} (h_Reader_read_param : HasMeth K C_Reader "read_param" "Reader.read_param" s_Reader_read_param f_Reader_read_param d_Reader_read_param) {f_Reader_read_part : Addr} {d_Reader_read_part : FuncData} (h_Reader_read_part : HasMeth K C_Reader "read_part" "Reader.read_part" s_Reader_read_part f_Reader_read_part d_Reader_read_part) {f_Reader_read_single : Addr} {d_Reader_read_single : FuncData} (h_Reader_read_single : HasMeth K C_Reader "read_single" "Reader.read_single" s_Reader_read_single f_Reader_read_single d_Reader_read_single) {f_Reader_read_named : Addr} {d_Reader_read_named : FuncData} (h_Reader_read_named : HasMeth K C_Reader "read_named" "Reader.read_named" s_Reader_read_named f_Reader_read_named d_Reader_read_named) {f_Reader_read_parts : Addr} {d_Reader_read_parts : FuncData} (h_Reader_read_parts : HasMeth K C_Reader "read_parts" "Reader.read_parts" s_Reader_read_parts f_Reader_read_parts d_Reader_read_parts) {f_Reader_read_round : Addr} {d_Reader_read_round : FuncData} (h_Reader_read_round : HasMeth K C_Reader "read_round" "Reader.read_round" s_Reader_read_round f_Reader_read_round d_Reader_read_round) {f_Reader_read_if : Addr} {d_Reader_read_if : FuncData} (h_Reader_read_if : HasMeth K C_Reader "read_if" "Reader.read_if" s_Reader_read_if f_Reader_read_if d_Reader_read_if) {f_rows_of : Addr} {d_rows_of : FuncData} (h_rows_of : HasDef K "rows_of" s_rows_of f_rows_of d_rows_of) {f_text_of : Addr} {d_text_of : FuncData} (h_text_of : HasDef K "text_of" s_text_of f_text_of d_text_of) {f_is_name : Addr} {d_is_name : FuncData} (h_is_name : HasDef K "is_name" s_is_name f_is_name d_is_name) {f_is_letter : Addr} {d_is_letter : FuncData} (h_is_letter : HasDef K "is_letter" s_is_letter f_is_letter d_is_letter) {f_tokens : Addr} {d_tokens : FuncData} (h_tokens : HasDef K "tokens" s_tokens f_tokens d_tokens) {f_token_at : Addr} {d_token_at : FuncData} (h_token_at : HasDef K "token_at" s_token_at f_token_at d_token_at) {f_is_figure : Addr} {d_is_figure : FuncData} (h_is_figure : HasDef K "is_figure" s_is_figure f_is_figure d_is_figure) {f_run_at : Addr} {d_run_at : FuncData} (h_run_at : HasDef K "run_at" s_run_at f_run_at d_run_at) {f_letters_sort : Addr} {d_letters_sort : FuncData} (h_letters_sort : HasDef K "letters_sort" s_letters_sort f_letters_sort d_letters_sort) {f_quoted_at : Addr} {d_quoted_at : FuncData} (h_quoted_at : HasDef K "quoted_at" s_quoted_at f_quoted_at d_quoted_at) {f_stops : Addr} {d_stops : FuncData} (h_stops : HasDef K "stops" s_stops f_stops d_stops) {f_read_take : Addr} {d_read_take : FuncData} (h_read_take : HasDef K "read_take" s_read_take f_read_take d_read_take) {f_read_let : Addr} {d_read_let : FuncData} (h_read_let : HasDef K "read_let" s_read_let f_read_let d_read_let) {f_read_def : Addr} {d_read_def : FuncData} (h_read_def : HasDef K "read_def" s_read_def f_read_def d_read_def) {f_read : Addr} {d_read : FuncData} (h_read : HasDef K "read" s_read f_read d_read) {f_laid_text : Addr} {d_laid_text : FuncData} (h_laid_text : HasDef K "laid_text" s_laid_text f_laid_text d_laid_text) {f_laid : Addr} {d_laid : FuncData} (h_laid : HasDef K "laid" s_laid f_laid d_laid) {f_joined : Addr} {d_joined : FuncData} (h_joined : HasDef K "joined" s_joined f_joined d_joined) {f_apart : Addr} {d_apart : FuncData} (h_apart : HasDef K "apart" s_apart f_apart d_apart) {f_L_begin : Addr} {d_L_begin : FuncData} (h_L_begin : HasDef K "_law_begin" s_L_begin f_L_begin d_L_begin) {f_L_take : Addr} {d_L_take : FuncData} (h_L_take : HasDef K "_law_take" s_L_take f_L_take d_L_take) {f_L_some : Addr} {d_L_some : FuncData} (h_L_some : HasDef K "_law_some" s_L_some f_L_some d_L_some) {f_L_names : Addr} {d_L_names : FuncData} (h_L_names : HasDef K "_law_names" s_L_names f_L_names d_L_names) {f_L_part_words : Addr} {d_L_part_words : FuncData} (h_L_part_words : HasDef K "_law_part_words" s_L_part_words f_L_part_words d_L_part_words) {f_L_comma_words : Addr} {d_L_comma_words : FuncData} (h_L_comma_words : HasDef K "_law_comma_words" s_L_comma_words f_L_comma_words d_L_comma_words) {f_L_single_words : Addr} {d_L_single_words : FuncData} (h_L_single_words : HasDef K "_law_single_words" s_L_single_words f_L_single_words d_L_single_words) {f_L_row_words : Addr} {d_L_row_words : FuncData} (h_L_row_words : HasDef K "_law_row_words" s_L_row_words f_L_row_words d_L_row_words) {f_L_tight : Addr} {d_L_tight : FuncData} (h_L_tight : HasDef K "_law_tight" s_L_tight f_L_tight d_L_tight) {f_L_right_row : Addr} {d_L_right_row : FuncData} (h_L_right_row : HasDef K "_law_right_row" s_L_right_row f_L_right_row d_L_right_row) {f_L_soup : Addr} {d_L_soup : FuncData} (h_L_soup : HasDef K "_law_soup" s_L_soup f_L_soup d_L_soup) {f_L_bent_row : Addr} {d_L_bent_row : FuncData} (h_L_bent_row : HasDef K "_law_bent_row" s_L_bent_row f_L_bent_row d_L_bent_row) {f_L_text : Addr} {d_L_text : FuncData} (h_L_text : HasDef K "_law_text" s_L_text f_L_text d_L_text) {f_law : Addr} {d_law : FuncData} (h_law : HasDef K "law" s_law f_law d_law)  {C_ROWS : Addr} (z_ROWS : PySem.W.nsIn K mainGlobals "ROWS" = some (some (.ref C_ROWS))) (y_ROWS : KTab K w C_ROWS [("take", .ref f_read_take), ("let", .ref f_read_let), ("def", .ref f_read_def)]) {C_HELD : Addr} (z_HELD : PySem.W.nsIn K mainGlobals "HELD" = some (some (.ref C_HELD))) (y_HELD : StrTup K C_HELD ["take", "let", "def", "if", "then", "else", "yes", "no", "at", "num", "word", "flag", "nums", "words", "flags"]) {C_LONE_SIGNS : Addr} (z_LONE_SIGNS : PySem.W.nsIn K mainGlobals "LONE_SIGNS" = some (some (.ref C_LONE_SIGNS))) (y_LONE_SIGNS : StrTup K C_LONE_SIGNS ["(", ")", "[", "]", ",", "=", "+", "-", "*", "&", "<"]) {C_KINDS : Addr} (z_KINDS : PySem.W.nsIn K mainGlobals "KINDS" = some (some (.ref C_KINDS))) (y_KINDS : StrTup K C_KINDS ["num", "word", "flag", "nums", "words", "flags"]) {C_OPERATORS : Addr} (z_OPERATORS : PySem.W.nsIn K mainGlobals "OPERATORS" = some (some (.ref C_OPERATORS))) (y_OPERATORS : StrTup K C_OPERATORS ["+", "-", "*", "&", "=", "<", "at"]) {C_FLAGS : Addr} (z_FLAGS : PySem.W.nsIn K mainGlobals "FLAGS" = some (some (.ref C_FLAGS))) (y_FLAGS : StrTup K C_FLAGS ["yes", "no"])   
    (z_all : PySem.W.nsIn K mainGlobals "all" = some none) (z_len : PySem.W.nsIn K mainGlobals "len" = some none) (z_isinstance : PySem.W.nsIn K mainGlobals "isinstance" = some none) (z_str : PySem.W.nsIn K mainGlobals "str" = some none) (z_tuple : PySem.W.nsIn K mainGlobals "tuple" = some none) (z_enumerate : PySem.W.nsIn K mainGlobals "enumerate" = some none) (z_list : PySem.W.nsIn K mainGlobals "list" = some none) (z_divmod : PySem.W.nsIn K mainGlobals "divmod" = some none) (z_range : PySem.W.nsIn K mainGlobals "range" = some none) (z_int : PySem.W.nsIn K mainGlobals "int" = some none)
    {t_MOST_LETTERS : Tok} (z_MOST_LETTERS : PySem.W.nsIn K mainGlobals "MOST_LETTERS" = some (some (.int 8 t_MOST_LETTERS))) {t_QUOTE : Tok} (z_QUOTE : PySem.W.nsIn K mainGlobals "QUOTE" = some (some (.str "\"" t_QUOTE))) {t_MOST_FIGURES : Tok} (z_MOST_FIGURES : PySem.W.nsIn K mainGlobals "MOST_FIGURES" = some (some (.int 6 t_MOST_FIGURES))) {t_MOST_SIGNS : Tok} (z_MOST_SIGNS : PySem.W.nsIn K mainGlobals "MOST_SIGNS" = some (some (.int 60 t_MOST_SIGNS))) :
    ∃ fd : FuncData, (∀ (s : Shared) (v : Value), BindsTo s fd ⟨[v], []⟩ [("_law_script", v)]) ∧ ∀ base : Heap, K.In base → base.Ns mainGlobals mg → FnG l.prog w K mg base 193 fa fd ["_law_script"] (sp_law K) := by
  have e := hfa.symm.trans (PySem.W.mg_of X G h_law.at_)
  cases e
  exact ⟨_, fun s v => Gx.binds_law h_law.fn (fun _ _ _ _ _ _ us hl => match us, hl with | [_], _ => rfl) s v, fun base _ _ => ok_law (txt_mk X G z_Reader p1_Reader p2_Reader p3_Reader p4_Reader p5_Reader p6_Reader na_Reader_found na_Reader_at na_Reader_stops h_Reader___init__ h_Reader_here h_Reader_stands h_Reader_step h_Reader_stop h_Reader_read_sign h_Reader_read_name h_Reader_read_kind h_Reader_read_param h_Reader_read_part h_Reader_read_single h_Reader_read_named h_Reader_read_parts h_Reader_read_round h_Reader_read_if h_rows_of h_text_of h_is_name h_is_letter h_tokens h_token_at h_is_figure h_run_at h_letters_sort h_quoted_at h_stops h_read_take h_read_let h_read_def h_read h_laid_text h_laid h_joined h_apart h_L_begin h_L_take h_L_some h_L_names h_L_part_words h_L_comma_words h_L_single_words h_L_row_words h_L_tight h_L_right_row h_L_soup h_L_bent_row h_L_text h_law z_ROWS y_ROWS z_HELD y_HELD z_LONE_SIGNS y_LONE_SIGNS z_KINDS y_KINDS z_OPERATORS y_OPERATORS z_FLAGS y_FLAGS z_all z_len z_isinstance z_str z_tuple z_enumerate z_list z_divmod z_range z_int z_MOST_LETTERS z_QUOTE z_MOST_FIGURES z_MOST_SIGNS)⟩

end K12
open PySem PySem.W PyProof.Rows
set_option maxHeartbeats 0 in
theorem PySem.Challenge.cw_typedahead_k12_texts_laid_out_holds : PySem.Challenge.rw_typedahead_k12_texts_laid_out.Holds := by
  w_on; o_law; k_head; (case hw => w_witness2)
  k_fill
  refine Gx.walk_ofG (l := PySem.Challenge.rw_typedahead_k12_texts_laid_out) (n := 63) (k := 193) (x := "_law_script") (sp := fun w => K12.sp_law _) rfl (by decide) rfl ⟨rfl, by decide, by decide⟩ (fun w h Y => PySem.W.kIn_of Y) ?F (fun w H a ns hl hb ho hS => K12.law_end hl hb ho hS)
  case F =>
    intro w mg fa h KX G hmg
    refine' K12.all_mk KX G hmg ?z_Reader ?p1_Reader ?p2_Reader ?p3_Reader ?p4_Reader ?p5_Reader ?p6_Reader ?na_Reader_found ?na_Reader_at ?na_Reader_stops (K12.hasMeth_mk ?a_Reader___init__ ?i_Reader___init__ ?l_Reader___init__ ?c_Reader___init__ ?k_Reader___init__) (K12.hasMeth_mk ?a_Reader_here ?i_Reader_here ?l_Reader_here ?c_Reader_here ?k_Reader_here) (K12.hasMeth_mk ?a_Reader_stands ?i_Reader_stands ?l_Reader_stands ?c_Reader_stands ?k_Reader_stands) (K12.hasMeth_mk ?a_Reader_step ?i_Reader_step ?l_Reader_step ?c_Reader_step ?k_Reader_step) (K12.hasMeth_mk ?a_Reader_stop ?i_Reader_stop ?l_Reader_stop ?c_Reader_stop ?k_Reader_stop) (K12.hasMeth_mk ?a_Reader_read_sign ?i_Reader_read_sign ?l_Reader_read_sign ?c_Reader_read_sign ?k_Reader_read_sign) (K12.hasMeth_mk ?a_Reader_read_name ?i_Reader_read_name ?l_Reader_read_name ?c_Reader_read_name ?k_Reader_read_name) (K12.hasMeth_mk ?a_Reader_read_kind ?i_Reader_read_kind ?l_Reader_read_kind ?c_Reader_read_kind ?k_Reader_read_kind) (K12.hasMeth_mk ?a_Reader_read_param ?i_Reader_read_param ?l_Reader_read_param ?c_Reader_read_param ?k_Reader_read_param) (K12.hasMeth_mk ?a_Reader_read_part ?i_Reader_read_part ?l_Reader_read_part ?c_Reader_read_part ?k_Reader_read_part) (K12.hasMeth_mk ?a_Reader_read_single ?i_Reader_read_single ?l_Reader_read_single ?c_Reader_read_single ?k_Reader_read_single) (K12.hasMeth_mk ?a_Reader_read_named ?i_Reader_read_named ?l_Reader_read_named ?c_Reader_read_named ?k_Reader_read_named) (K12.hasMeth_mk ?a_Reader_read_parts ?i_Reader_read_parts ?l_Reader_read_parts ?c_Reader_read_parts ?k_Reader_read_parts) (K12.hasMeth_mk ?a_Reader_read_round ?i_Reader_read_round ?l_Reader_read_round ?c_Reader_read_round ?k_Reader_read_round) (K12.hasMeth_mk ?a_Reader_read_if ?i_Reader_read_if ?l_Reader_read_if ?c_Reader_read_if ?k_Reader_read_if) (K12.hasDef_mk ?a_rows_of ?l_rows_of ?c_rows_of ?k_rows_of) (K12.hasDef_mk ?a_text_of ?l_text_of ?c_text_of ?k_text_of) (K12.hasDef_mk ?a_is_name ?l_is_name ?c_is_name ?k_is_name) (K12.hasDef_mk ?a_is_letter ?l_is_letter ?c_is_letter ?k_is_letter) (K12.hasDef_mk ?a_tokens ?l_tokens ?c_tokens ?k_tokens) (K12.hasDef_mk ?a_token_at ?l_token_at ?c_token_at ?k_token_at) (K12.hasDef_mk ?a_is_figure ?l_is_figure ?c_is_figure ?k_is_figure) (K12.hasDef_mk ?a_run_at ?l_run_at ?c_run_at ?k_run_at) (K12.hasDef_mk ?a_letters_sort ?l_letters_sort ?c_letters_sort ?k_letters_sort) (K12.hasDef_mk ?a_quoted_at ?l_quoted_at ?c_quoted_at ?k_quoted_at) (K12.hasDef_mk ?a_stops ?l_stops ?c_stops ?k_stops) (K12.hasDef_mk ?a_read_take ?l_read_take ?c_read_take ?k_read_take) (K12.hasDef_mk ?a_read_let ?l_read_let ?c_read_let ?k_read_let) (K12.hasDef_mk ?a_read_def ?l_read_def ?c_read_def ?k_read_def) (K12.hasDef_mk ?a_read ?l_read ?c_read ?k_read) (K12.hasDef_mk ?a_laid_text ?l_laid_text ?c_laid_text ?k_laid_text) (K12.hasDef_mk ?a_laid ?l_laid ?c_laid ?k_laid) (K12.hasDef_mk ?a_joined ?l_joined ?c_joined ?k_joined) (K12.hasDef_mk ?a_apart ?l_apart ?c_apart ?k_apart) (K12.hasDef_mk ?a_L_begin ?l_L_begin ?c_L_begin ?k_L_begin) (K12.hasDef_mk ?a_L_take ?l_L_take ?c_L_take ?k_L_take) (K12.hasDef_mk ?a_L_some ?l_L_some ?c_L_some ?k_L_some) (K12.hasDef_mk ?a_L_names ?l_L_names ?c_L_names ?k_L_names) (K12.hasDef_mk ?a_L_part_words ?l_L_part_words ?c_L_part_words ?k_L_part_words) (K12.hasDef_mk ?a_L_comma_words ?l_L_comma_words ?c_L_comma_words ?k_L_comma_words) (K12.hasDef_mk ?a_L_single_words ?l_L_single_words ?c_L_single_words ?k_L_single_words) (K12.hasDef_mk ?a_L_row_words ?l_L_row_words ?c_L_row_words ?k_L_row_words) (K12.hasDef_mk ?a_L_tight ?l_L_tight ?c_L_tight ?k_L_tight) (K12.hasDef_mk ?a_L_right_row ?l_L_right_row ?c_L_right_row ?k_L_right_row) (K12.hasDef_mk ?a_L_soup ?l_L_soup ?c_L_soup ?k_L_soup) (K12.hasDef_mk ?a_L_bent_row ?l_L_bent_row ?c_L_bent_row ?k_L_bent_row) (K12.hasDef_mk ?a_L_text ?l_L_text ?c_L_text ?k_L_text) (K12.hasDef_mk ?a_law ?l_law ?c_law ?k_law) ?z_ROWS (Gx.kTab_mk ?l_ROWS ?y_ROWS ?o_ROWS) ?z_HELD (Gx.strTup_mk ?l_HELD ?y_HELD) ?z_LONE_SIGNS (Gx.strTup_mk ?l_LONE_SIGNS ?y_LONE_SIGNS) ?z_KINDS (Gx.strTup_mk ?l_KINDS ?y_KINDS) ?z_OPERATORS (Gx.strTup_mk ?l_OPERATORS ?y_OPERATORS) ?z_FLAGS (Gx.strTup_mk ?l_FLAGS ?y_FLAGS) ?z_all ?z_len ?z_isinstance ?z_str ?z_tuple ?z_enumerate ?z_list ?z_divmod ?z_range ?z_int ?z_MOST_LETTERS ?z_QUOTE ?z_MOST_FIGURES ?z_MOST_SIGNS
    (case z_Reader => k_is); (case p1_Reader => k_is); (case p2_Reader => k_is); (case p3_Reader => k_is); (case p4_Reader => k_is); (case p5_Reader => k_is); (case p6_Reader => k_is); (case na_Reader_found => k_is); (case na_Reader_at => k_is); (case na_Reader_stops => k_is); (case a_Reader___init__ => k_is); (case i_Reader___init__ => k_is); (case l_Reader___init__ => k_is); (case c_Reader___init__ => k_is); (case k_Reader___init__ => k_is); (case a_Reader_here => k_is); (case i_Reader_here => k_is); (case l_Reader_here => k_is); (case c_Reader_here => k_is); (case k_Reader_here => k_is); (case a_Reader_stands => k_is); (case i_Reader_stands => k_is); (case l_Reader_stands => k_is); (case c_Reader_stands => k_is); (case k_Reader_stands => k_is); (case a_Reader_step => k_is); (case i_Reader_step => k_is); (case l_Reader_step => k_is); (case c_Reader_step => k_is); (case k_Reader_step => k_is); (case a_Reader_stop => k_is); (case i_Reader_stop => k_is); (case l_Reader_stop => k_is); (case c_Reader_stop => k_is); (case k_Reader_stop => k_is); (case a_Reader_read_sign => k_is); (case i_Reader_read_sign => k_is); (case l_Reader_read_sign => k_is); (case c_Reader_read_sign => k_is); (case k_Reader_read_sign => k_is); (case a_Reader_read_name => k_is); (case i_Reader_read_name => k_is); (case l_Reader_read_name => k_is); (case c_Reader_read_name => k_is); (case k_Reader_read_name => k_is); (case a_Reader_read_kind => k_is); (case i_Reader_read_kind => k_is); (case l_Reader_read_kind => k_is); (case c_Reader_read_kind => k_is); (case k_Reader_read_kind => k_is); (case a_Reader_read_param => k_is); (case i_Reader_read_param => k_is); (case l_Reader_read_param => k_is); (case c_Reader_read_param => k_is); (case k_Reader_read_param => k_is); (case a_Reader_read_part => k_is); (case i_Reader_read_part => k_is); (case l_Reader_read_part => k_is); (case c_Reader_read_part => k_is); (case k_Reader_read_part => k_is); (case a_Reader_read_single => k_is); (case i_Reader_read_single => k_is); (case l_Reader_read_single => k_is); (case c_Reader_read_single => k_is); (case k_Reader_read_single => k_is); (case a_Reader_read_named => k_is); (case i_Reader_read_named => k_is); (case l_Reader_read_named => k_is); (case c_Reader_read_named => k_is); (case k_Reader_read_named => k_is); (case a_Reader_read_parts => k_is); (case i_Reader_read_parts => k_is); (case l_Reader_read_parts => k_is); (case c_Reader_read_parts => k_is); (case k_Reader_read_parts => k_is); (case a_Reader_read_round => k_is); (case i_Reader_read_round => k_is); (case l_Reader_read_round => k_is); (case c_Reader_read_round => k_is); (case k_Reader_read_round => k_is); (case a_Reader_read_if => k_is); (case i_Reader_read_if => k_is); (case l_Reader_read_if => k_is); (case c_Reader_read_if => k_is); (case k_Reader_read_if => k_is); (case a_rows_of => k_is); (case l_rows_of => k_is); (case c_rows_of => k_is); (case k_rows_of => k_is); (case a_text_of => k_is); (case l_text_of => k_is); (case c_text_of => k_is); (case k_text_of => k_is); (case a_is_name => k_is); (case l_is_name => k_is); (case c_is_name => k_is); (case k_is_name => k_is); (case a_is_letter => k_is); (case l_is_letter => k_is); (case c_is_letter => k_is); (case k_is_letter => k_is); (case a_tokens => k_is); (case l_tokens => k_is); (case c_tokens => k_is); (case k_tokens => k_is); (case a_token_at => k_is); (case l_token_at => k_is); (case c_token_at => k_is); (case k_token_at => k_is); (case a_is_figure => k_is); (case l_is_figure => k_is); (case c_is_figure => k_is); (case k_is_figure => k_is); (case a_run_at => k_is); (case l_run_at => k_is); (case c_run_at => k_is); (case k_run_at => k_is); (case a_letters_sort => k_is); (case l_letters_sort => k_is); (case c_letters_sort => k_is); (case k_letters_sort => k_is); (case a_quoted_at => k_is); (case l_quoted_at => k_is); (case c_quoted_at => k_is); (case k_quoted_at => k_is); (case a_stops => k_is); (case l_stops => k_is); (case c_stops => k_is); (case k_stops => k_is); (case a_read_take => k_is); (case l_read_take => k_is); (case c_read_take => k_is); (case k_read_take => k_is); (case a_read_let => k_is); (case l_read_let => k_is); (case c_read_let => k_is); (case k_read_let => k_is); (case a_read_def => k_is); (case l_read_def => k_is); (case c_read_def => k_is); (case k_read_def => k_is); (case a_read => k_is); (case l_read => k_is); (case c_read => k_is); (case k_read => k_is); (case a_laid_text => k_is); (case l_laid_text => k_is); (case c_laid_text => k_is); (case k_laid_text => k_is); (case a_laid => k_is); (case l_laid => k_is); (case c_laid => k_is); (case k_laid => k_is); (case a_joined => k_is); (case l_joined => k_is); (case c_joined => k_is); (case k_joined => k_is); (case a_apart => k_is); (case l_apart => k_is); (case c_apart => k_is); (case k_apart => k_is); (case a_L_begin => k_is); (case l_L_begin => k_is); (case c_L_begin => k_is); (case k_L_begin => k_is); (case a_L_take => k_is); (case l_L_take => k_is); (case c_L_take => k_is); (case k_L_take => k_is); (case a_L_some => k_is); (case l_L_some => k_is); (case c_L_some => k_is); (case k_L_some => k_is); (case a_L_names => k_is); (case l_L_names => k_is); (case c_L_names => k_is); (case k_L_names => k_is); (case a_L_part_words => k_is); (case l_L_part_words => k_is); (case c_L_part_words => k_is); (case k_L_part_words => k_is); (case a_L_comma_words => k_is); (case l_L_comma_words => k_is); (case c_L_comma_words => k_is); (case k_L_comma_words => k_is); (case a_L_single_words => k_is); (case l_L_single_words => k_is); (case c_L_single_words => k_is); (case k_L_single_words => k_is); (case a_L_row_words => k_is); (case l_L_row_words => k_is); (case c_L_row_words => k_is); (case k_L_row_words => k_is); (case a_L_tight => k_is); (case l_L_tight => k_is); (case c_L_tight => k_is); (case k_L_tight => k_is); (case a_L_right_row => k_is); (case l_L_right_row => k_is); (case c_L_right_row => k_is); (case k_L_right_row => k_is); (case a_L_soup => k_is); (case l_L_soup => k_is); (case c_L_soup => k_is); (case k_L_soup => k_is); (case a_L_bent_row => k_is); (case l_L_bent_row => k_is); (case c_L_bent_row => k_is); (case k_L_bent_row => k_is); (case a_L_text => k_is); (case l_L_text => k_is); (case c_L_text => k_is); (case k_L_text => k_is); (case a_law => k_is); (case l_law => k_is); (case c_law => k_is); (case k_law => k_is); (case z_ROWS => k_is); (case l_ROWS => k_is); (case z_HELD => k_is); (case l_HELD => k_is); (case z_LONE_SIGNS => k_is); (case l_LONE_SIGNS => k_is); (case z_KINDS => k_is); (case l_KINDS => k_is); (case z_OPERATORS => k_is); (case l_OPERATORS => k_is); (case z_FLAGS => k_is); (case l_FLAGS => k_is); (case z_all => k_is); (case z_len => k_is); (case z_isinstance => k_is); (case z_str => k_is); (case z_tuple => k_is); (case z_enumerate => k_is); (case z_list => k_is); (case z_divmod => k_is); (case z_range => k_is); (case z_int => k_is); (case z_MOST_LETTERS => k_is); (case z_QUOTE => k_is); (case z_MOST_FIGURES => k_is); (case z_MOST_SIGNS => k_is); (case y_ROWS => rfl); (case o_ROWS => rfl); (case y_HELD => rfl); (case y_LONE_SIGNS => rfl); (case y_KINDS => rfl); (case y_OPERATORS => rfl); (case y_FLAGS => rfl)
