import PyProof.Rows.All
import PySem.Challenge.RW_typedahead_k01_texts_rows_and_places
import HandS.ForMost
import HandS.EndBits
import HandS.Defaults
import HandS.IsInst
import HandS.Flow
import HandS.Wide
import HandS.Style
import HandS.Codes
import HandS.Walk
import HandS.FStrTup
set_option Elab.async false
set_option linter.all false
set_option maxRecDepth 100000
set_option maxHeartbeats 4000000
/-! Gx: defs whose callers have no repr under way (FnG), the end of a law over them, and a few rules more: repr of data, text * int, calls by keywords alone. -/
namespace Gx
open PySem PySem.Spec PyProof.Rows L2

/-- a def's promise where no repr is under way around the call -/
structure FnG (P : Program) (w : World) (K : PySem.W.Frag) (mg : Str → Option Value) (base : Heap) (k : Nat) (f : Addr) (fd : FuncData) (ps : List Str) (sp : Sp) : Prop where
  len : ∀ vs H Q E, sp vs H Q E → vs.length = ps.length
  go : ∀ (A : Around) (outer : List Env) (s : Shared) (H : Hp) (args : Args) (us : List Value) (vs : List V) (Q : VK), A.guards = some [] → Room k A → Env0 P w K mg base A outer s H →
    BindsTo s fd args (ps.zip us) → Vals vs us → sp vs H Q E0 → codeAny (model P w) A (.call (.ref f) args) (CR CX0 outer P w H s Q E0) s

section
variable {P : Program} {w : World} {K : PySem.W.Frag} {mg : Str → Option Value} {base : Heap}

theorem FnG.ofOk {k : Nat} {f : Addr} {fd : FuncData} {ps : List Str} {sp : Sp} (F : FnOk P w K mg base CX0 k f fd ps sp) : FnG P w K mg base k f fd ps sp :=
  ⟨F.len, fun A outer s H args us vs Q _ hr => F.run A outer s H args us vs Q E0 hr⟩

theorem fnG_of {x qual : Str} {st : Stmt} {f : Addr} {fd : FuncData} {N ps : List Str} {k : Nat} {sp : Sp} (F : Fun K x qual st f fd) (S : FnScope N ps (defScope st)) (len : ∀ vs H Q E, sp vs H Q E → vs.length = ps.length)
    (body : ∀ (cdv : Value) (A : Around) (outer : List Env) (s : Shared) (H : Hp) (vs : List V) (Q : VK), (A.deeper (envOfC qual (defScope st) s.heap.objs.size f cdv)).guards = some [] →
      Room k (A.deeper (envOfC qual (defScope st) s.heap.objs.size f cdv)) → sp vs H Q E0 →
      ∃ t, PSs (cxOf CX0 P w K mg base N qual (defScope st) f cdv A outer s H E0).nox (defBody st) t ∧ t { nx := fun _ H' => Q .non H', rt := Q } (start N vs) H) :
    FnG P w K mg base (k + 1) f fd ps sp := by
  obtain ⟨oc, od, kV, doc, pm, an, cdv, ct, osl, rfl, lk, hcd⟩ := F.ex
  constructor
  · exact len
  intro A outer s H args us vs Q hG hr e0 hb r hsp
  have hl := len _ _ _ _ hsp
  have up : ∀ b o, base.get? b = some o → s.heap.get? b = some o := fun b o e => (e0.bs b o e).1
  have kin : K.In s.heap := e0.mod.kin.keeps up
  have nolim : s.heap.NoLimit := e0.mod.nolimit.keeps up
  have hkind : ((ps.zip us).all fun y => (defScope st).names.lookup y.1 == some .local || (defScope st).names.lookup y.1 == some .cell) = true := by
    rw [List.all_eq_true]
    rintro ⟨n, v⟩ hy
    rcases S.par n (List.of_mem_zip hy).1 with q | q
    · simp [q]
    · simp [q]
  obtain ⟨t, ht, hq⟩ := body cdv A outer s H vs Q hG (hr.deeper _) hsp
  refine Att.call_fn kin nolim lk hcd hr.depth hb hkind (fun s1 x1 => ?_) S.co S.gen S.kind
  have I : Inv (cxOf CX0 P w K mg base N qual (defScope st) f cdv A outer s H E0) [] (start N vs) H s1 := inv_start S hr.hd e0 hl r x1
  refine wpAny_mono (ht.nox.run [] s1 (start N vs) H _ I hq) ?_ (fun e s' hs => hs)
  intro fl s' hs
  cases fl with
  | ret u => obtain ⟨v, σ', H', J, rv, q⟩ := hs; exact ⟨v, H', J.os, J.bare, J.base, J.hok, rv, q⟩
  | next => obtain ⟨σ', H', J, q⟩ := hs; exact ⟨V.non, H', J.os, J.bare, J.base, J.hok, rfl, q⟩
  | brk => obtain ⟨_, _, _, q⟩ := hs; exact q.elim
  | cont => obtain ⟨_, _, _, q⟩ := hs; exact q.elim
end

/-! ### calls -/
section
variable {X : Cx} {k n : Nat} {f : Addr} {fd : FuncData} {ps ks : List Str} {sp : Sp} {x : Str} {p pos : Pos} {e : Expr} {es : List Expr} {kws : List Keyword} {t tk : TA} {g : List Value → List Value → List Value} {gV : List V → List V → List V}
theorem after_call {pins : List (Addr × Obj)} {σ : L2.St} {H : Hp} {s : Shared} {Q : VK} {a : Args} (I : Inv X pins σ H s) (h : codeAny (model X.prog X.w) X.A (.call (.ref f) a) (CR CX0 X.stack X.prog X.w H s Q E0) s) :
    codeAny (model X.prog X.w) X.A (.call (.ref f) a) (fun r s' => match r with | .ok (.ret u) => EP X pins σ Q u s' | .ok _ => False | .error e => X.xe e s') s := by
  refine codeAny_mono h ?_
  intro r s' hq
  match r, hq with
  | .ok (.ret u), hq => exact I.after hq
  | .ok .next, hq => exact False.elim hq
  | .ok .brk, hq => exact False.elim hq
  | .ok .cont, hq => exact False.elim hq
  | .error e, hq => exact False.elim hq
theorem runG {pins : List (Addr × Obj)} {σ : L2.St} {H : Hp} {s : Shared} {Q : VK} {us : List Value} {vs : List V} (F : FnG X.prog X.w X.K X.mg X.base k f fd ps sp) (hG : X.A.guards = some []) (hr : Room k X.A) (hb : Binds X.K fd ps [])
    (I : Inv X pins σ H s) (r : Vals vs us) (h : sp vs H Q E0) : wpAny (model X.prog X.w) X.A (call (.ref f) us) (EP X pins σ Q) X.xe s := by
  have hl : (us ++ []).length = ps.length := by rw [List.append_nil, ← r.length]; exact F.len _ _ _ _ h
  have b := hb s us I.kIn hl
  rw [List.append_nil] at b
  refine wpAny_call (codeAny_mono (after_call (pins := pins) (σ := σ) I (F.go X.A X.stack s H ⟨us, []⟩ us vs Q hG hr I.env0 b r h)) fun r s' hq => ?_)
  match r, hq with
  | .ok (.ret u), hq => exact hq
  | .ok .next, hq => exact False.elim hq
  | .ok .brk, hq => exact False.elim hq
  | .ok .cont, hq => exact False.elim hq
  | .error e, hq => exact hq
def tGo (sp : Sp) (t : TA) : TE := fun σ H Q => t σ H fun vs H1 => sp vs H1 Q E0
/-- f(e, ..) -/
theorem pe_go (F : FnG X.prog X.w X.K X.mg X.base k f fd ps sp) (hG : X.A.guards = some []) (hr : Room k X.A) (hg : Gl X x) (hm : X.mg x = some (.ref f)) (hk : PySem.W.keepIn X.K (.ref f) = true) (hb : Binds X.K fd ps [])
    (ha : PA X (e :: es) t) (hdb : (x == ("__debug__" : Str)) = false := by decide) (he : starEach (e :: es) X.env = (false, eval e X.env) :: starEach es X.env := by rfl)
    (hpl : (backTo pos (starEach es X.env)).any (·.1) = false := by rfl) : PE X (.Call (.Name x p) (e :: es) [] pos) (tGo sp t) := by
  constructor
  intro pins s σ H Q I h
  refine wpAny_Call_Name_kw (ld_glob I hg hm ?_ hdb)
  refine PySem.W.callWith_K (h₀ := X.base) I.ok.mod.kin hk (thn (ha.run pos pins s σ H _ I h) ?_) he hpl
  rintro us s1 ⟨vs, H1, I1, r, q⟩
  exact ⟨I1.kIn, runG F hG hr hb I1 r q⟩
/-- f() -/
theorem pe_go0 (F : FnG X.prog X.w X.K X.mg X.base k f fd ps sp) (hG : X.A.guards = some []) (hr : Room k X.A) (hg : Gl X x) (hm : X.mg x = some (.ref f)) (hk : PySem.W.keepIn X.K (.ref f) = true) (hb : Binds X.K fd ps [])
    (hdb : (x == ("__debug__" : Str)) = false := by decide) : PE X (.Call (.Name x p) [] [] pos) (tGo sp tNil) := by
  constructor
  intro pins s σ H Q I h
  refine wpAny_Call_Name_kw (ld_glob I hg hm ?_ hdb)
  exact PySem.W.callWith_K0 I.kIn hk (runG (us := []) F hG hr hb I .nil h)
theorem runGK {pins : List (Addr × Obj)} {σ : L2.St} {H : Hp} {s : Shared} {Q : VK} {us ws : List Value} {vs zs : List V} (F : FnG X.prog X.w X.K X.mg X.base k f fd ps sp) (hG : X.A.guards = some []) (hr : Room k X.A) (hb : KBn X.K fd ps n ks g gV)
    (I : Inv X pins σ H s) (r : Vals vs us) (rz : Vals zs ws) (l1 : vs.length = n) (l2 : zs.length = ks.length) (h : sp (gV vs zs) H Q E0) : wpAny (model X.prog X.w) X.A (call (.ref f) us (ks.zip ws)) (EP X pins σ Q) X.xe s := by
  have b := hb.to s us ws I.kIn (r.length.symm.trans l1) (rz.length.symm.trans l2)
  refine wpAny_call (codeAny_mono (after_call (pins := pins) (σ := σ) I (F.go X.A X.stack s H ⟨us, ks.zip ws⟩ (g us ws) (gV vs zs) Q hG hr I.env0 b (hb.rel r rz) h)) fun r s' hq => ?_)
  match r, hq with
  | .ok (.ret u), hq => exact hq
  | .ok .next, hq => exact False.elim hq
  | .ok .brk, hq => exact False.elim hq
  | .ok .cont, hq => exact False.elim hq
  | .error e, hq => exact hq
def tGoK (n m : Nat) (sp : Sp) (gV : List V → List V → List V) (t tk : TA) : TE := fun σ H Q => t σ H fun vs H1 => tk σ H1 fun zs H2 => vs.length = n ∧ zs.length = m ∧ sp (gV vs zs) H2 Q E0
/-- f(e, .., k = v, ..) -/
theorem pe_goK (F : FnG X.prog X.w X.K X.mg X.base k f fd ps sp) (hG : X.A.guards = some []) (hr : Room k X.A) (hg : Gl X x) (hm : X.mg x = some (.ref f)) (hk : PySem.W.keepIn X.K (.ref f) = true) (hb : KBn X.K fd ps n ks g gV)
    (ha : PA X (e :: es) t) (hkw : PK X kws tk) (hall : (backToKw pos (keywordEach kws X.env)).all (·.1.isSome) = true := by rfl) (hks : (backToKw pos (keywordEach kws X.env)).filterMap (·.1) = ks := by rfl)
    (hdb : (x == ("__debug__" : Str)) = false := by decide) (he : starEach (e :: es) X.env = (false, eval e X.env) :: starEach es X.env := by rfl)
    (hpl : ((backTo pos (starEach (e :: es) X.env)).any (·.1) || (backToKw pos (keywordEach kws X.env)).any (·.1.isNone)) = false := by rfl) : PE X (.Call (.Name x p) (e :: es) kws pos) (tGoK n ks.length sp gV t tk) := by
  constructor
  intro pins s σ H Q I h
  refine wpAny_Call_Name_kw (ld_glob I hg hm ?_ hdb)
  refine PySem.W.callWith_KW (h₀ := X.base) I.ok.mod.kin hk hall (thn (ha.run pos pins s σ H _ I h) ?_) hpl he
  rintro us s1 ⟨vs, H1, I1, r, q⟩
  refine thn (hkw.run pos pins s1 σ H1 _ I1 q) ?_
  rintro ws s2 ⟨zs, H2, I2, rz, l1, l2, q2⟩
  refine ⟨I2.kIn, ?_⟩
  rw [hks]
  exact runGK F hG hr hb I2 r rz l1 l2 q2
/-- f(k = v, ..) -/
theorem pe_goK0 (F : FnG X.prog X.w X.K X.mg X.base k f fd ps sp) (hG : X.A.guards = some []) (hr : Room k X.A) (hg : Gl X x) (hm : X.mg x = some (.ref f)) (hk : PySem.W.keepIn X.K (.ref f) = true) (hb : KBn X.K fd ps 0 ks g gV)
    (hkw : PK X kws tk) (hall : (backToKw pos (keywordEach kws X.env)).all (·.1.isSome) = true := by rfl) (hks : (backToKw pos (keywordEach kws X.env)).filterMap (·.1) = ks := by rfl)
    (hdb : (x == ("__debug__" : Str)) = false := by decide)
    (hpl : ((backTo pos (starEach [] X.env)).any (·.1) || (backToKw pos (keywordEach kws X.env)).any (·.1.isNone)) = false := by rfl) : PE X (.Call (.Name x p) [] kws pos) (tGoK 0 ks.length sp gV tNil tk) := by
  constructor
  intro pins s σ H Q I h
  refine wpAny_Call_Name_kw (ld_glob I hg hm ?_ hdb)
  refine PySem.W.callWith_KW0 (h₀ := X.base) I.ok.mod.kin hk hall ?_ hpl
  refine thn (hkw.run pos pins s σ H _ I h) ?_
  rintro ws s2 ⟨zs, H2, I2, rz, l1, l2, q2⟩
  refine ⟨I2.kIn, ?_⟩
  rw [hks]
  exact runGK (us := []) (vs := []) F hG hr hb I2 .nil rz rfl l2 q2
/-- how keywords bind where a def has no defaults -/
theorem kbn_of {K : PySem.W.Frag} {x qual : Str} {st : Stmt} (F : Fun K x qual st f fd) (g : {α : Type} → List α → List α → List α)
    (hrel : ∀ {vs zs : List V} {us ws : List Value}, Vals vs us → Vals zs ws → Vals (g vs zs) (g us ws))
    (h : ∀ (kV doc pm : Value) (an : Option Addr) (cdv ct : Value) (us ws : List Value), us.length = n → ws.length = ks.length →
      bindArgs (PySem.W.fnOf x qual (defArgs st) (defBody st) (defScope st) .none kV doc pm an cdv ct) ⟨us, ks.zip ws⟩ = pure (ps.zip (g us ws))) : KBn K fd ps n ks g g := by
  obtain ⟨oc, od, kV, doc, pm, an, cdv, ct, osl, rfl, lk, hcd⟩ := F.ex
  exact ⟨fun s us ws _ l1 l2 => .of_eq (h kV doc pm an cdv ct us ws l1 l2), fun r1 r2 => hrel r1 r2⟩
end

/-! ### repr of data, text * int -/
section
variable {X : Cx}
theorem call_reprD (hG : X.A.guards = some []) (hu : X.A.units + 64 < cLine) : CallR X (.builtin "repr") (fun xs H Q => ∃ (a : Addr) (d : PyData), xs = [.ref a] ∧ Dp X.K H (.ref a) d ∧ d.showable = true ∧ d.hasDict = false ∧ d.depth ≤ 60 ∧ d.shown.length ≤ sizeLine ∧ Q (.str d.shown) H) := by
  intro pins s σ H xs us Q I r h
  obtain ⟨a, d, rfl, hd, h1, h2, h3, h4, q⟩ := h
  obtain ⟨u, rfl, rx⟩ := vals1 r
  obtain ⟨as, rd⟩ := Dp.reads I d (.ref a) u hd rx
  cases rx
  exact repr_of_reads' rd h1 (PyData.noDict_hsm h2) hG (by omega) (fun _ _ e => e) (fun h' u tk hk => ⟨.str d.shown, H, I.kept hk, ⟨u, rfl⟩, q⟩) h4
/-- a text n times -/
def timesS (x : Str) (n : Nat) : Str := ⟨(List.replicate n x.cps.toList).flatten.toArray⟩
theorem foldl_times (c : Array Nat) : ∀ (n : Nat) (acc : Array Nat), (List.replicate n c).foldl (· ++ ·) acc = acc ++ ((List.replicate n c.toList).flatten).toArray
  | 0, acc => by simp
  | n + 1, acc => by
    rw [List.replicate_succ, List.replicate_succ, List.foldl_cons, foldl_times c n, List.flatten_cons]
    apply Array.toList_inj.mp
    simp [Array.toList_append, List.append_assoc]
theorem op_mulS : OpR X (binaryOp .Mult) (fun x y H Q => ∃ (z : Str) (n : Int), x = .str z ∧ y = .int n ∧ 1 ≤ n ∧ n ≤ 100000 ∧ z.length * n.toNat ≤ 1000000 ∧ Q (.str (timesS z n.toNat)) H) := by
  intro pins s σ H x y v u Q I rx ry h
  obtain ⟨z, n, rfl, rfl, h1, h2, h3, q⟩ := h
  obtain ⟨t, rfl⟩ := rx
  obtain ⟨t', rfl⟩ := ry
  have hz : z.length ≤ 1000000 := Nat.le_trans (Nat.le_mul_of_pos_right z.length (by omega)) h3
  have e0 : timesS z n.toNat = ⟨(List.replicate n.toNat z.cps).foldl (· ++ ·) #[]⟩ := by
    rw [foldl_times]; simp [timesS]
  have hlen : (timesS z n.toNat).length = z.length * n.toNat := by
    show ((List.replicate n.toNat z.cps.toList).flatten.toArray).size = _
    rw [List.size_toArray, List.length_flatten]
    simp [Str.length, Nat.mul_comm]
  refine PySem.P.mul_str ?_ ?_ ?_ ?_
  · simp; omega
  · intro _ _ h4
    have h5 : (9223372036854775807 : Int) / n ≥ 9223372036854775807 / 100000 := Int.le_ediv_of_mul_le (by omega) (by omega)
    have h6 : ((2 : Int) ^ 63 - 1) = 9223372036854775807 := by decide
    rw [h6] at h4
    omega
  · intro _ _
    have : z.length * n.toNat ≤ sizeLine := Nat.le_trans h3 (by decide)
    simp [Builtin.Str.tooLong] <;> omega
  · rw [if_neg (by omega)]
    by_cases c : (n == 1 || z.length == 0) = true
    · rw [if_pos c]
      refine ⟨.str z, H, I, ⟨t, rfl⟩, ?_⟩
      have ez : timesS z n.toNat = z := by
        apply TL.ext_tl
        show (List.replicate n.toNat z.cps.toList).flatten = z.cps.toList
        rcases Bool.or_eq_true _ _ |>.mp c with c | c
        · have : n = 1 := by simpa using c
          subst this; simp
        · have hl : z.cps.toList = [] := by
            have : z.cps.size = 0 := by simpa [Str.length] using c
            exact List.length_eq_zero_iff.mp (by simpa using this)
          rw [hl]; simp
      rw [ez] at q; exact q
    · rw [if_neg c, ← e0]
      exact ⟨by rw [hlen]; exact Nat.le_trans h3 (by decide), .str _, H, I.tok _, ⟨_, rfl⟩, q⟩
end
end Gx

/-! ### the end of a law over FnG -/
namespace Gx
open PySem PySem.Spec PyProof.Rows L2
/-- the heap in which the script alone is tracked (where it is not an object of the module's own) -/
def scriptH (K : PySem.W.Frag) (a : Addr) (vs : List Value) (ns : List Int) : Hp := fun b =>
  if b = a ∧ K.lookup a = none then some (.frz { cls := .type "list", data := .seq vs.toArray } (.lst (ns.map V.int))) else none
section
variable {P : Program} {w : World} {K : PySem.W.Frag} {mg mb : Str → Option Value} {k : Nat} {fa a : Addr} {fd : FuncData} {x : Str} {sp : Sp} {s₁ : Shared} {vs : List Value} {ns : List Int}
theorem scriptH_at {b : Addr} {o : HO} (h : scriptH K a vs ns b = some o) : b = a ∧ K.lookup a = none ∧ o = .frz { cls := .type "list", data := .seq vs.toArray } (.lst (ns.map V.int)) := by
  by_cases c : b = a ∧ K.lookup a = none
  · have e := (if_pos c).symm.trans h
    exact ⟨c.1, c.2, (Option.some.inj e).symm⟩
  · have e := (if_neg c).symm.trans h
    cases e
theorem scriptH_only : Only (scriptH K a vs ns) := fun b => by
  cases h : scriptH K a vs ns b with
  | none => exact .inl rfl
  | some o => exact .inr ⟨_, _, by rw [(scriptH_at h).2.2]⟩
theorem lawG (KX : K.In s₁.heap) (hns : s₁.heap.Ns mainGlobals mg) (hb : s₁.heap.Ns builtinsNs mb) (hbb : ∀ x : Str, x ≠ "__name__" → mb x = bootBuiltins x) (hlim : s₁.heap.NoLimit) (hg : s₁.gens = #[])
    (ha : s₁.heap.get? a = some { cls := .type "list", data := .seq vs.toArray }) (hi : IntsAre vs ns) (hl : ns.length ≤ sizeLine) (hr : Room k callerA)
    (F : ∀ base : Heap, K.In base → base.Ns mainGlobals mg → FnG P w K mg base k fa fd [x] sp) (hbind : ∀ (s : Shared) (u : Value), BindsTo s fd ⟨[u], []⟩ [(x, u)])
    (hsp : ∀ H : Hp, Only H → SqL K H a (ns.map V.int) → sp [.ref a] H (fun v _ => v = .bl true) E0) :
    codeAny (model P w) callerA (.call (.ref fa) ⟨[.ref a], []⟩) (fun r s' => r = .ok (.ret (.bool true)) ∧ OldK s₁.heap s'.heap ∧ s'.os = s₁.os ∧ AllBare s'.gens) s₁ := by
  have rv := vals_ints hi
  have hlz : (ns.map V.int).length ≤ sizeLine := by rw [List.length_map]; exact hl
  have hok : HOk P w (scriptH K a vs ns) s₁.heap := fun b o e => by
    obtain ⟨rfl, _, rfl⟩ := scriptH_at e
    exact ⟨ha, hlz, vs, _, rv, ha⟩
  -- what stands below: the heap without the script
  have down : ∀ {b : Addr} {o : Obj}, s₁.heap.get? b = some o → scriptH K a vs ns b = none → (hidT s₁.heap (scriptH K a vs ns)).get? b = some o := fun e n => hidT_get e n
  have dicts : ∀ {b : Addr} {m : Str → Option Value}, s₁.heap.Ns b m → (hidT s₁.heap (scriptH K a vs ns)).Ns b m := by
    rintro b m ⟨o, es, ep, e, d, r⟩
    refine ⟨o, es, ep, down e ?_, d, r⟩
    cases q : scriptH K a vs ns b with
    | none => rfl
    | some u =>
      obtain ⟨rfl, _, _⟩ := scriptH_at q
      rw [ha] at e
      cases e
      exact nomatch (show Data.seq vs.toArray _ = Data.dict es ep from d)
  have kin : K.In (hidT s₁.heap (scriptH K a vs ns)) := fun b o e => down (KX b o e) (by
    cases q : scriptH K a vs ns b with
    | none => rfl
    | some u =>
      obtain ⟨rfl, n, _⟩ := scriptH_at q
      rw [n] at e
      cases e)
  have hM : Mod K mg (hidT s₁.heap (scriptH K a vs ns)) := by
    obtain ⟨mc, h1, h2⟩ := hlim
    exact ⟨kin, dicts hns, ⟨mb, dicts hb, hbb⟩, ⟨mc, dicts h1, h2⟩⟩
  have nil_ : ∀ b : Addr, b ∉ frs ([] : List Env) := fun b hb => by cases hb
  have e0 : Env0 P w K mg (hidT s₁.heap (scriptH K a vs ns)) callerA [] s₁ (scriptH K a vs ns) :=
    ⟨rfl, hM, fun b o e => of_hidT e, Nat.le_of_eq (hidT_size _ _), trivial, fun b hb => absurd hb (nil_ b), hok, .of_eq hg⟩
  have hS : SqL K (scriptH K a vs ns) a (ns.map V.int) := by
    cases hk : K.lookup a with
    | none => exact .inl (.inr ⟨_, if_pos ⟨rfl, hk⟩⟩)
    | some o =>
      have e := KX a o hk
      rw [ha] at e
      cases e
      exact .inr ⟨_, vs.toArray, _, hk, rfl, rfl, rfl, by rw [List.size_toArray, ← rv.length]; exact hlz, by simpa using rv⟩
  have run := (F _ kin (dicts hns)).go callerA [] s₁ (scriptH K a vs ns) ⟨[.ref a], []⟩ [.ref a] [.ref a] _ rfl hr e0 (hbind s₁ (.ref a)) (.cons rfl .nil) (hsp _ scriptH_only hS)
  refine codeAny_mono run ?_
  intro r s' h
  match r, h with
  | .ok .next, h => exact False.elim h
  | .ok .brk, h => exact False.elim h
  | .ok .cont, h => exact False.elim h
  | .error e, h => exact False.elim h
  | .ok (.ret u), h =>
    obtain ⟨v, H', os, bare, un, hok', r', q⟩ := h
    obtain rfl : v = .bl true := q
    obtain rfl : u = Value.bool true := r'
    refine ⟨rfl, OldK.of_keep fun b o e => ?_, os, bare⟩
    cases q : scriptH K a vs ns b with
    | none => exact un.keep b o e q (nil_ b) (by simp)
    | some u =>
      obtain ⟨rfl, _, rfl⟩ := scriptH_at q
      have z := un.frzs b _ _ q
      have z1 := (hok b _ q).1
      have z2 := (hok' b _ z).1
      rw [e] at z1
      cases z1
      exact z2
end
theorem walk_ofG {l : PySem.W.OpenLaw} {n k : Nat} {q : Program} {loose : List Str} {XP : (Str → Option Value) → Heap → Prop} {YP : World → Heap → Prop} {d : DefRec} {K : Params → PySem.W.Frag} {sp : World → Sp} {x : Str}
    (hn : l.most = some n) (hn2 : n ≤ sizeLine) (hdf : d.params.defaults = []) (hr : Room k callerA) (hY : ∀ (w : World) (h : Heap), YP w h → (K w.params).In h)
    (F : ∀ (w : World) (mg : Str → Option Value) (fa : Addr) (h : Heap), (K w.params).In h → h.Ns mainGlobals mg → mg d.name = some (.ref fa) →
      ∃ fd : FuncData, (∀ (s : Shared) (u : Value), BindsTo s fd ⟨[u], []⟩ [(x, u)]) ∧ ∀ base : Heap, (K w.params).In base → base.Ns mainGlobals mg → FnG l.prog w (K w.params) mg base k fa fd [x] (sp w))
    (hsp : ∀ (w : World) (H : Hp) (a : Addr) (ns : List Int), ns.length ≤ n → (∀ z ∈ ns, Builtin.Int.intBits z ≤ 1048576) → Only H → SqL (K w.params) H a (ns.map V.int) → sp w [.ref a] H (fun v _ => v = .bl true) E0) :
    PySem.W.WalkO q loose XP YP l.row.toRowW d [] (fun f vs => PySem.call f vs) := by
  refine Att.attach_callB hn hdf ?_
  intro w s₀ s₁ mg mb fa o pm cd doc a vs ns G Y ho hd hcd hmg hobj hints hlen hbits hg
  obtain ⟨fd, hb, hF⟩ := F w mg fa _ (hY w _ Y) G.T.g hmg
  exact lawG (hY w _ Y) G.T.g G.T.b G.T.builtins G.T.nolimit hg hobj hints (Nat.le_trans hlen hn2) hr hF hb (fun H hO hS => hsp w H a ns hlen hbits hO hS)
end Gx

/-! ### keywords by their places -/
namespace Gx
open PySem PySem.Spec PyProof.Rows L2
def pick {α : Type} (is : List Nat) (l : List α) : List α := is.filterMap fun i => l[i]?
theorem vals_pick {zs : List V} {ws : List Value} (r : Vals zs ws) : ∀ is : List Nat, Vals (pick is zs) (pick is ws)
  | [] => .nil
  | i :: is => by
    have ih := vals_pick r is
    cases h : zs[i]? with
    | none =>
      have h2 := r.none_of h
      simp only [pick, List.filterMap_cons, h, h2]
      exact ih
    | some v =>
      obtain ⟨u, h2, r2⟩ := r.get h
      simp only [pick, List.filterMap_cons, h, h2]
      exact .cons r2 ih
theorem kbn_pick {K : PySem.W.Frag} {x qual : Str} {st : Stmt} {n : Nat} {f : Addr} {fd : FuncData} {ps ks : List Str} (F : Fun K x qual st f fd) (is : List Nat)
    (h : ∀ (kV doc pm : Value) (an : Option Addr) (cdv ct : Value) (us ws : List Value), us.length = n → ws.length = ks.length →
      bindArgs (PySem.W.fnOf x qual (defArgs st) (defBody st) (defScope st) .none kV doc pm an cdv ct) ⟨us, ks.zip ws⟩ = pure (ps.zip (us ++ pick is ws))) : KBn K fd ps n ks (fun us ws => us ++ pick is ws) (fun vs zs => vs ++ pick is zs) := by
  obtain ⟨oc, od, kV, doc, pm, an, cdv, ct, osl, rfl, lk, hcd⟩ := F.ex
  exact ⟨fun s us ws _ l1 l2 => .of_eq (h kV doc pm an cdv ct us ws l1 l2), fun r1 r2 => r1.append (vals_pick r2 is)⟩
end Gx

/-! ### comprehensions whose elements are worth f, whatever they lay -/
namespace Gx
open PySem PySem.Spec PyProof.Rows L2
theorem same_new {H : Hp} {p : Addr} {o : HO} (h : H p = none) : Same H (upd H p o) := fun b x e => by
  rw [upd_ne (ne_of_none e h)]; exact e
/-- at a place that H does not know anything may happen -/
theorem same_at {H H' : Hp} {p : Addr} {o : HO} (e : Same H H') (h : H p = none) : Same H (upd H' p o) := fun b x hb => by
  rw [upd_ne (ne_of_none hb h)]; exact e b x hb
theorem lc_pure {J : It} {n : Nat} {G : Hp → Prop} {Y : Nat → Hp → V → Hp → Prop} (w : Walk J n G Y) (f : Nat → V) {j : Nat} {te : TE} {vs : List Nat} {σ : L2.St} {H1 : Hp} {D : Addr} {Qd : Hp → Prop} (hD : H1 D = none) (hn : n < sizeLine)
    (hG : ∀ H, Same H1 H → G H) (hY : ∀ i H x H', i < n → Same H1 H → Y i H x H' → Same H H')
    (hs : ∀ i x H H', i < n → Same H1 H → Y i H x H' → ∀ Qv : VK, (∀ H'', Same H' H'' → Qv (f i) H'') → te ((wipe σ vs).set j (some x)) H' Qv)
    (hd : ∀ H, Same H1 H → H D = some (.lst ((List.range n).map f)) → Qd H) (hw : ∀ x, wipe ((wipe σ vs).set j (some x)) vs = wipe σ vs := by intro x; rfl) :
    ∃ W : Nat → Nat → Hp → Prop, (∃ m, W 0 m (upd H1 D (.lst []))) ∧ ∀ i m H, W i m H →
      (J.stop i H ∧ Qd H) ∨ (J.go i H ∧ ∃ Nx : Hp → Prop, (∀ H', Nx H' → ∃ m', m' < m ∧ W (i + 1) m' H') ∧ ∀ x H', J.yld i H x H' → gName j x (wipe σ vs) H' fun σ2 H2 => wipe σ2 vs = wipe σ vs ∧ tYes σ2 H2 fun b H3 =>
        if b = true then te σ2 H3 fun y H4 => ∃ acc, H4 D = some (.lst acc) ∧ acc.length < sizeLine ∧ Nx (upd H4 D (.lst (acc ++ [y]))) else Nx H3) := by
  refine lc_it w (fun i H => Same H1 H ∧ H D = some (.lst ((List.range i).map f))) ⟨same_at (Same.refl _) hD, upd_same⟩ (fun i H _ h => hG H h.1) (fun i x H H' hi h y => ?_) (fun H h => hd H h.1 h.2)
  obtain ⟨sm, eD⟩ := h
  have s1 := hY i H x H' hi sm y
  refine ⟨hw x, ?_⟩
  unfold tYes
  dsimp only
  rw [if_pos rfl]
  refine hs i x H H' hi sm y _ fun H'' s2 => ⟨_, s2 _ _ (s1 _ _ eD), ?_, same_at ((sm.trans s1).trans s2) hD, ?_⟩
  · rw [List.length_map, List.length_range]; omega
  · rw [upd_same, List.range_succ, List.map_append]; rfl
end Gx

namespace Gx
open PySem PySem.Spec PyProof.Rows L2
/-- te evaluates, laying what it wants, to a value of which P holds -/
def Ev1 (te : TE) (σ : L2.St) (H : Hp) (P : V → Hp → Prop) : Prop := ∀ R : VK, (∀ v H1, Same H H1 → P v H1 → R v H1) → te σ H R
theorem range_map {α : Type} (f : α → V) (l : List α) (g : Nat → V) (h : ∀ i x, l[i]? = some x → g i = f x) : (List.range l.length).map g = l.map f := by
  apply List.ext_getElem?
  intro i
  rw [List.getElem?_map, List.getElem?_map]
  by_cases hi : i < l.length
  · rw [List.getElem?_range hi, List.getElem?_eq_getElem hi]
    simp [h i l[i] (List.getElem?_eq_getElem hi)]
  · rw [List.getElem?_eq_none (by simpa using hi), List.getElem?_eq_none (by simpa using hi)]; rfl
/-- [e for c in text] -/
theorem lc_text {te0 te : TE} {j : Nat} {vs : List Nat} {σ : L2.St} {H : Hp} {Q : VK} {x : Str} (f : Nat → V) (h0 : Ev1 te0 σ H fun v _ => v = .str x) (hx : x.length ≤ 1000000)
    (hs : ∀ c H', c ∈ x.cps.toList → Same H H' → ∀ Qv : VK, (∀ H'', Same H' H'' → Qv (f c) H'') → te ((wipe σ vs).set j (some (.str (SX.S [c])))) H' Qv)
    (hd : ∀ D H', H D = none → Same H H' → H' D = some (.lst (x.cps.toList.map f)) → Q (.ref D) H') (hw : ∀ x, wipe ((wipe σ vs).set j (some x)) vs = wipe σ vs := by intro x; rfl) :
    tLc (iStr te0) (gName j) tYes te vs σ H Q := by
  refine h0 _ fun v H1 s1 e => ?_
  subst e
  refine ⟨x, rfl, fun D hD => ?_⟩
  have hn : x.cps.size < sizeLine := Nat.lt_of_le_of_lt hx (by decide)
  refine lc_pure walk_str (fun i => f (x.cps.toList.getD i 0)) hD hn (fun _ _ => trivial) (fun i H x H' _ _ y => y.1 ▸ Same.refl _) (fun i v H2 H' hi s2 y Qv q => ?_) (fun H2 s2 e2 => ?_) hw
  · obtain ⟨rfl, c, hc, rfl⟩ := y
    have hc' : x.cps.toList[i]? = some c := by simpa using hc
    refine hs c _ (List.mem_of_getElem? hc') (s1.trans s2) Qv fun H'' s3 => ?_
    have e : x.cps.toList.getD i 0 = c := by rw [List.getD_eq_getElem?_getD, hc']; rfl
    have q2 := q H'' s3
    rw [e] at q2
    exact q2
  · refine hd D H2 (s1.free hD) (s1.trans s2) ?_
    rw [e2, ← range_map f x.cps.toList (fun i => f (x.cps.toList.getD i 0)) fun i c hc => by rw [List.getD_eq_getElem?_getD, hc]; rfl, Array.length_toList]
/-- [e for y in list] -/
theorem lc_lst {K : PySem.W.Frag} {te0 te : TE} {j : Nat} {vs : List Nat} {σ : L2.St} {H : Hp} {Q : VK} {xs : List V} (f : V → V) (h0 : Ev1 te0 σ H fun v H1 => ∃ a, v = .ref a ∧ SqL K H1 a xs) (hx : xs.length ≤ 1000000)
    (hs : ∀ y H', y ∈ xs → Same H H' → ∀ Qv : VK, (∀ H'', Same H' H'' → Qv (f y) H'') → te ((wipe σ vs).set j (some y)) H' Qv)
    (hd : ∀ D H', H D = none → Same H H' → H' D = some (.lst (xs.map f)) → Q (.ref D) H') (hw : ∀ x, wipe ((wipe σ vs).set j (some x)) vs = wipe σ vs := by intro x; rfl) :
    tLc (iList K te0) (gName j) tYes te vs σ H Q := by
  refine h0 _ fun v H1 s1 e => ?_
  obtain ⟨a, rfl, hS⟩ := e
  refine ⟨a, rfl, ⟨xs, hS⟩, fun D hD => ?_⟩
  have hn : xs.length < sizeLine := Nat.lt_of_le_of_lt hx (by decide)
  refine lc_pure walk_list (fun i => f (xs.getD i .non)) hD hn (fun H2 s2 => s2.seq hS) (fun i H x H' _ _ y => y.1 ▸ Same.refl _) (fun i v H2 H' hi s2 y Qv q => ?_) (fun H2 s2 e2 => ?_) hw
  · obtain ⟨rfl, hc⟩ := y
    refine hs v _ (List.mem_of_getElem? hc) (s1.trans s2) Qv fun H'' s3 => ?_
    have e : xs.getD i .non = v := by rw [List.getD_eq_getElem?_getD, hc]; rfl
    have q2 := q H'' s3
    rw [e] at q2
    exact q2
  · refine hd D H2 (s1.free hD) (s1.trans s2) ?_
    rw [e2, ← range_map f xs (fun i => f (xs.getD i .non)) fun i c hc => by rw [List.getD_eq_getElem?_getD, hc]; rfl]
end Gx

namespace Gx
open PySem L2
theorem take_min' {α : Type} (l : List α) (n : Nat) : l.take (min n l.length) = l.take n := by
  by_cases h : n ≤ l.length
  · rw [Nat.min_eq_left h]
  · rw [Nat.min_eq_right (by omega), List.take_length, List.take_of_length_le (by omega)]
theorem drop_min' {α : Type} (l : List α) (n : Nat) : l.drop (min n l.length) = l.drop n := by
  by_cases h : n ≤ l.length
  · rw [Nat.min_eq_left h]
  · rw [Nat.min_eq_right (by omega), List.drop_length, List.drop_of_length_le (by omega)]
theorem cutV_to (xs : List V) (n : Nat) : cutV xs none (some (n : Int)) = xs.take n := by
  unfold cutV
  rw [HT.sIx_none, HT.sIx_nat, Nat.sub_zero, List.drop_zero, take_min']
theorem cutV_mid (xs : List V) (m n : Nat) : cutV xs (some (m : Int)) (some (n : Int)) = (xs.take n).drop m := by
  unfold cutV
  rw [HT.sIx_nat, HT.sIx_nat, ← List.drop_take, take_min', ← drop_min' (xs.take n) m, List.length_take]
  by_cases h : m ≤ min n xs.length
  · congr 1; omega
  · rw [List.drop_of_length_le (by rw [List.length_take]; omega), List.drop_of_length_le (by rw [List.length_take]; omega)]
theorem cutS_to (x : Str) (n : Nat) : (cutS x none (some (n : Int))).cps.toList = x.cps.toList.take n := by
  unfold cutS
  rw [HT.sIx_none, HT.sIx_nat, Nat.sub_zero, List.drop_zero, show x.length = x.cps.toList.length from (Array.length_toList).symm]
  show (x.cps.toList.take (min n x.cps.toList.length)) = _
  rw [take_min']
theorem cutS_from (x : Str) (n : Nat) : (cutS x (some (n : Int)) none).cps.toList = x.cps.toList.drop n := by
  unfold cutS
  rw [HT.sIx_none, HT.sIx_nat, show x.length = x.cps.toList.length from (Array.length_toList).symm]
  show ((x.cps.toList.drop (min n x.cps.toList.length)).take _) = _
  rw [drop_min', List.take_of_length_le (by rw [List.length_drop]; omega)]
end Gx

namespace Gx
open PySem PySem.Spec PyProof.Rows L2
/-- the law's own argument binds, whatever the heap -/
theorem binds_law {K : PySem.W.Frag} {x qual p : Str} {st : Stmt} {f : Addr} {fd : FuncData} (F : Fun K x qual st f fd)
    (h : ∀ (kV doc pm : Value) (an : Option Addr) (cdv ct : Value) (us : List Value), us.length = [p].length → bindArgs (PySem.W.fnOf x qual (defArgs st) (defBody st) (defScope st) .none kV doc pm an cdv ct) ⟨us, []⟩ = pure ([p].zip us))
    (s : Shared) (v : Value) : BindsTo s fd ⟨[v], []⟩ [(p, v)] := by
  obtain ⟨oc, od, kV, doc, pm, an, cdv, ct, osl, rfl, lk, hcd⟩ := F.ex
  exact .of_eq (h kV doc pm an cdv ct [v] rfl)
end Gx

/-! Lx: rows of a text as lists of signs: plain mathematics. -/
namespace Lx
open PySem
/-- the rows between line feeds -/
def lines : List Nat → List (List Nat)
  | [] => [[]]
  | c :: r => if c = 10 then [] :: lines r else ((c :: (lines r).headD []) :: (lines r).tail)
theorem lines_ne : ∀ l, lines l ≠ []
  | [] => by simp [lines]
  | c :: r => by unfold lines; split <;> simp
theorem lines_split (l : List Nat) : lines l = (lines l).headD [] :: (lines l).tail := by
  cases h : lines l with
  | nil => exact absurd h (lines_ne l)
  | cons a t => rfl
theorem pre10 (c : Nat) (r : List Nat) : TL.pre [10] (c :: r) = decide (c = 10) := by
  unfold TL.pre
  by_cases h : c = 10
  · subst h; rfl
  · simp [h]
theorem spl_lines : ∀ (l acc : List Nat), TL.spl [10] 0 acc l = (acc ++ (lines l).headD []) :: (lines l).tail
  | [], acc => by rw [TL.spl_nil]; simp [lines]
  | c :: r, acc => by
    by_cases h : c = 10
    · rw [TL.spl_hit (by rw [pre10, h]; rfl)]
      show acc :: TL.spl [10] 0 [] r = _
      rw [spl_lines r [], List.nil_append, ← lines_split r]
      simp [lines, h]
    · rw [TL.spl_miss (by rw [pre10]; simp [h]), spl_lines r (acc ++ [c])]
      simp [lines, h]
theorem spl_lines0 (l : List Nat) : TL.spl [10] 0 [] l = lines l := by rw [spl_lines, List.nil_append, ← lines_split]
abbrev nl : Str := "\n"
theorem nl_S : nl = SX.S [10] := TL.ext_tl rfl
theorem split_lines (x : Str) : Txt.split x nl = (lines x.cps.toList).map SX.S := by
  have e := SX.split_S (a := x.cps.toList) (b := [10]) (by simp) (by decide)
  rw [SX.S_tl] at e
  rw [nl_S, e, spl_lines0]
theorem join_cons (p : List Nat) {rs : List (List Nat)} (h : rs ≠ []) : TL.joinL [10] (p :: rs) = p ++ 10 :: TL.joinL [10] rs := by
  cases rs with
  | nil => exact absurd rfl h
  | cons a t => rfl
theorem join_headcons (c : Nat) (p : List Nat) (rs : List (List Nat)) : TL.joinL [10] ((c :: p) :: rs) = c :: TL.joinL [10] (p :: rs) := by
  cases rs with
  | nil => rfl
  | cons a t => rfl
theorem join_lines : ∀ l, TL.joinL [10] (lines l) = l
  | [] => rfl
  | c :: r => by
    unfold lines
    split
    · rename_i h
      rw [join_cons _ (lines_ne r), join_lines r, h]; rfl
    · rw [join_headcons, ← lines_split, join_lines r]
theorem join_S (x : Str) (ys : List (List Nat)) : Txt.join nl (ys.map SX.S) = SX.S (TL.joinL [10] ys) := by rw [nl_S]; exact SX.join_S [10] ys
theorem join_split (x : Str) : Txt.join nl (Txt.split x nl) = x := by
  rw [split_lines, join_S x, join_lines, SX.S_tl]
theorem lines_join {rs : List (List Nat)} (h : rs ≠ []) (h10 : ∀ r ∈ rs, 10 ∉ r) : lines (TL.joinL [10] rs) = rs := by
  rw [← spl_lines0, TL.spl_join h h10]
/-- all signs of the rows, and a line feed each -/
theorem lines_sum : ∀ l, ((lines l).map fun r => r.length + 1).sum = l.length + 1
  | [] => rfl
  | c :: r => by
    have ih := lines_sum r
    rw [lines_split r] at ih
    unfold lines
    split
    · rw [List.map_cons, List.sum_cons, lines_split r, ih]; simp; omega
    · rw [List.map_cons, List.sum_cons] at ih ⊢
      simp at ih ⊢; omega
theorem lines_len_pos (l : List Nat) : 0 < (lines l).length := List.length_pos_iff.mpr (lines_ne l)
/-- the rows of a beginning: all but its last one are rows of the whole -/
theorem lines_app : ∀ (p q : List Nat), (lines (p ++ q)).take ((lines p).length - 1) = (lines p).dropLast
  | [], q => by simp [lines]
  | c :: p, q => by
    have ih := lines_app p q
    have hp := lines_len_pos p
    rw [List.cons_append]
    by_cases h : c = 10
    · simp only [lines, if_pos h, List.length_cons]
      rw [lines_split p] at hp ⊢
      rw [List.dropLast_cons_of_ne_nil (by simp), ← lines_split p, ← ih]
      rw [lines_split p]
      simp only [List.length_cons, Nat.add_sub_cancel, List.take_succ_cons]
    · simp only [lines, if_neg h, List.length_cons, Nat.add_sub_cancel]
      cases ht : (lines p).tail with
      | nil => simp
      | cons a t =>
        have e1 : lines p = (lines p).headD [] :: a :: t := by rw [← ht]; exact lines_split p
        rw [e1] at ih
        have e2 := lines_split (p ++ q)
        rw [e2] at ih
        simp only [List.length_cons, Nat.add_sub_cancel, List.take_succ_cons, List.dropLast_cons₂] at ih
        injection ih with i1 i2
        simp only [List.length_cons, List.take_succ_cons, List.dropLast_cons₂]
        rw [i1, ← i2]
theorem lines_last (l : List Nat) : lines l = (lines l).dropLast ++ [(lines l).getLastD []] := by
  have e5 := List.dropLast_concat_getLast (lines_ne l)
  have e6 : (lines l).getLastD [] = (lines l).getLast (lines_ne _) := by
    rw [List.getLastD_eq_getLast?, List.getLast?_eq_getLast (lines_ne _)]; rfl
  rw [e6]; exact e5.symm
theorem lines_many (l : List Nat) : (lines l).length ≤ l.length + 1 := by
  rw [← lines_sum]
  have : ∀ ys : List (List Nat), ys.length ≤ (ys.map fun y => y.length + 1).sum := by
    intro ys
    induction ys with
    | nil => exact Nat.le_refl _
    | cons y ys ih => rw [List.map_cons, List.sum_cons, List.length_cons]; omega
  exact this _
theorem lines_small {l : List Nat} {r : List Nat} (h : r ∈ lines l) : r.length ≤ l.length := by
  have e1 := lines_sum l
  have e2 : ∀ ys : List (List Nat), r ∈ ys → r.length + 1 ≤ (ys.map fun y => y.length + 1).sum := by
    intro ys
    induction ys with
    | nil => intro h; cases h
    | cons y ys ih =>
      intro h
      rw [List.map_cons, List.sum_cons]
      rcases List.mem_cons.mp h with e | e
      · subst e; omega
      · have := ih e; omega
  have := e2 _ h
  omega
/-- the place of an end of text: row and column -/
def spotOf (l : List Nat) : Int × Int := ((((lines l).length - 1 : Nat) : Int), (((lines l).getLastD []).length : Int))
/-- one sign on -/
def spotStep (s : Int × Int) (c : Nat) : Int × Int := (s.1 + (if c = 10 then 1 else 0), (s.2 + 1) * (if c = 10 then 0 else 1))
theorem fold_spot : ∀ (l : List Nat) (r c : Int), l.foldl spotStep (r, c) = (r + (((lines l).length - 1 : Nat) : Int), if (lines l).length = 1 then c + ((lines l).headD []).length else ((lines l).getLastD []).length)
  | [], r, c => by simp [lines]
  | a :: l, r, c => by
    have hp := lines_len_pos l
    rw [List.foldl_cons]
    have e : spotStep (r, c) a = (r + (if a = 10 then 1 else 0), (c + 1) * (if a = 10 then 0 else 1)) := rfl
    rw [e, fold_spot l]
    by_cases h : a = 10
    · subst h
      have e2 : ([] :: lines l).getLastD [] = (lines l).getLastD [] := by
        cases hl : lines l with
        | nil => exact absurd hl (lines_ne l)
        | cons x t => simp
      simp only [lines, if_true, List.length_cons]
      rw [e2, if_neg (show ¬ (lines l).length + 1 = 1 by omega)]
      refine Prod.ext ?_ ?_
      · show r + 1 + (((lines l).length - 1 : Nat) : Int) = r + (((lines l).length + 1 - 1 : Nat) : Int)
        omega
      · show (if (lines l).length = 1 then (c + 1) * 0 + (((lines l).headD []).length : Int) else (((lines l).getLastD []).length : Int)) = (((lines l).getLastD []).length : Int)
        split
        · rename_i h1
          cases hl : lines l with
          | nil => exact absurd hl (lines_ne l)
          | cons x t =>
            rw [hl] at h1
            have : t = [] := List.length_eq_zero_iff.mp (by simpa using h1)
            subst this
            simp
        · rfl
    · simp only [lines, if_neg h, List.length_cons]
      have e3 := lines_split l
      cases ht : (lines l).tail with
      | nil =>
        have e4 : (lines l).length = 1 := by rw [e3, ht]; rfl
        simp [e4]
        omega
      | cons x t =>
        have e4 : (lines l).length = t.length + 2 := by rw [e3, ht]; rfl
        simp [e4]
        rw [e3, ht]; simp
theorem fold_spot0 (l : List Nat) : l.foldl spotStep (0, 0) = spotOf l := by
  rw [fold_spot]
  unfold spotOf
  refine Prod.ext (by simp) ?_
  show (if (lines l).length = 1 then _ else _) = _
  split
  · rename_i h
    cases hl : lines l with
    | nil => exact absurd hl (lines_ne l)
    | cons x t =>
      rw [hl] at h
      have : t = [] := List.length_eq_zero_iff.mp (by simpa using h)
      subst this; simp
  · rfl
/-- the place of a row and a column -/
def atOf (l : List Nat) (r c : Int) : Int := (((lines l).take r.toNat).map fun y => (y.length : Int) + 1).sum + c
theorem sum_cast (ys : List (List Nat)) : (ys.map fun y => (y.length : Int) + 1).sum = (((ys.map fun y => y.length + 1).sum : Nat) : Int) := by
  induction ys with
  | nil => rfl
  | cons y ys ih => rw [List.map_cons, List.map_cons, List.sum_cons, List.sum_cons, ih]; omega
theorem at_spot {l : List Nat} {n : Nat} (h : n ≤ l.length) : atOf l (spotOf (l.take n)).1 (spotOf (l.take n)).2 = n := by
  have e := lines_app (l.take n) (l.drop n)
  rw [List.take_append_drop] at e
  have hs := lines_sum (l.take n)
  have hl : (l.take n).length = n := by rw [List.length_take]; omega
  unfold atOf spotOf
  dsimp only
  rw [Int.toNat_natCast, e, sum_cast]
  have ed : lines (l.take n) = (lines (l.take n)).dropLast ++ [(lines (l.take n)).getLastD []] := by
    have e5 := List.dropLast_concat_getLast (lines_ne (l.take n))
    have e6 : (lines (l.take n)).getLastD [] = (lines (l.take n)).getLast (lines_ne _) := by
      rw [List.getLastD_eq_getLast?, List.getLast?_eq_getLast (lines_ne _)]; rfl
    rw [e6]; exact e5.symm
  rw [ed, List.map_append, List.sum_append, List.map_singleton, List.sum_singleton, hl] at hs
  omega
end Lx

set_option maxHeartbeats 4000000
/-! Bx: what the laws' own draws promise (a box of three ints that each draw changes), and lists of texts. -/
namespace Gx
open PySem PySem.Spec PyProof.Rows L2 Lx
def txts (ls : List (List Nat)) : List V := ls.map fun l => V.str (SX.S l)
theorem txts_eq (ls : List (List Nat)) : txts ls = (ls.map SX.S).map V.str := by unfold txts; rw [List.map_map]; rfl
theorem join_room {ls : List (List Nat)} (h : (ls.map fun l => l.length + 1).sum ≤ 1000000) : ((ls.map SX.S).map (·.length)).sum + (ls.map SX.S).length * nl.length ≤ 16777216 := by
  rw [SX.lens, List.length_map]
  have e : nl.length = 1 := rfl
  rw [e, Nat.mul_one]
  have : ∀ ys : List (List Nat), (ys.map fun l => l.length + 1).sum = (ys.map (·.length)).sum + ys.length := by
    intro ys
    induction ys with
    | nil => rfl
    | cons y ys ih => rw [List.map_cons, List.map_cons, List.sum_cons, List.sum_cons, ih, List.length_cons]; omega
  rw [this] at h
  omega
/-- the box of draws at b -/
def IsBox (H : Hp) (b : Addr) : Prop := ∃ i j k : Int, H b = some (.lst [.int i, .int j, .int k])
/-- all stays but what stands at b; b is a box -/
def Drawn (b : Addr) (H H' : Hp) : Prop := IsBox H' b ∧ ∀ a o, a ≠ b → H a = some o → H' a = some o
theorem Drawn.trans {b : Addr} {H H1 H2 : Hp} (x : Drawn b H H1) (y : Drawn b H1 H2) : Drawn b H H2 := ⟨y.1, fun a o n h => y.2 a o n (x.2 a o n h)⟩
theorem Drawn.of {b : Addr} {H H' : Hp} (x : IsBox H b) (s : Same H H') : Drawn b H H' := by
  obtain ⟨i, j, k, h⟩ := x
  exact ⟨⟨i, j, k, s _ _ h⟩, fun a o _ h => s _ _ h⟩
theorem Drawn.set {b : Addr} {H H1 : Hp} {i j k : Int} (x : ∀ a o, a ≠ b → H a = some o → H1 a = some o) : Drawn b H (upd H1 b (.lst [.int i, .int j, .int k])) :=
  ⟨⟨i, j, k, upd_same⟩, fun a o n h => by rw [upd_ne n]; exact x a o n h⟩
/-- a new object that is laid meanwhile stays new -/
theorem Drawn.free {b : Addr} {H H' : Hp} (x : Drawn b H H') (hb : IsBox H b) {p : Addr} (h : H' p = none) : H p = none := by
  cases q : H p with
  | none => rfl
  | some o =>
    by_cases e : p = b
    · subst e
      obtain ⟨i, j, k, z⟩ := x.1
      rw [z] at h; cases h
    · rw [x.2 p o e q] at h; cases h
/-- what was not there ahead may change -/
theorem Drawn.at {b : Addr} {H H' : Hp} (d : Drawn b H H') {p : Addr} (hp : H p = none) (hb : p ≠ b) (o : HO) : Drawn b H (upd H' p o) := by
  obtain ⟨i, j, k, z⟩ := d.1
  exact ⟨⟨i, j, k, by rw [upd_ne (Ne.symm hb)]; exact z⟩, fun a u n h => by rw [upd_ne (ne_of_none h hp)]; exact d.2 a u n h⟩
def sp_take : Sp := fun vs H Q _ => ∃ (b : Addr) (n : Int), vs = [.ref b, .int n] ∧ IsBox H b ∧ 0 < n ∧ n < 1073741824 ∧ ∀ v H', 0 ≤ v → v < n → Drawn b H H' → Q (.int v) H'
theorem txts_of (zs : List Str) : txts (zs.map fun z => z.cps.toList) = zs.map V.str := by
  unfold txts
  rw [List.map_map]
  exact List.map_congr_left fun z _ => congrArg V.str (SX.S_tl z)
def sp_one_of : Sp := fun vs H Q _ => ∃ (b : Addr) (v : V) (ls : List (List Nat)), vs = [.ref b, v] ∧ IsBox H b ∧ ls ≠ [] ∧ ls.length ≤ 1000 ∧
  ((∃ a, v = .ref a ∧ H a = some (.lst (txts ls))) ∨ ∃ x : Str, v = .str x ∧ ls = x.cps.toList.map fun c => [c]) ∧ ∀ l H', l ∈ ls → Drawn b H H' → Q (.str (SX.S l)) H'
/-- [e for k in range(n)], each e a text that the draws give -/
theorem lc_drawn {te : TE} {j : Nat} {vs : List Nat} {σ : L2.St} {H : Hp} {Q : VK} {ta : TA} {b : Addr} (N : Nat → Prop) (R : List Nat → Prop) (hb : IsBox H b) (hn : ∀ m, N m → m ≤ 1000)
    (h0 : ∀ R' : List V → Hp → Prop, (∀ H1 n', N n' → Drawn b H H1 → R' [.int ((n' : Nat) : Int)] H1) → ta σ H R')
    (hs : ∀ k H', IsBox H' b → ∀ Qv : VK, (∀ l H'', R l → Drawn b H' H'' → Qv (.str (SX.S l)) H'') → te ((wipe σ vs).set j (some (.int k))) H' Qv)
    (hd : ∀ D ls H', N ls.length → (∀ l ∈ ls, R l) → H' D = some (.lst (txts ls)) → Drawn b H H' → Q (.ref D) H') (hw : ∀ x, wipe ((wipe σ vs).set j (some x)) vs = wipe σ vs := by intro x; rfl) :
    tLc (iRng1 ta) (gName j) tYes te vs σ H Q := by
  refine h0 _ fun H1 n' hn' d1 => ?_
  have hn1 := hn n' hn'
  refine ⟨((n' : Nat) : Int), rfl, by omega, by omega, fun D hD => ?_⟩
  have hbD : b ≠ D := fun e => by
    subst e
    obtain ⟨i, j, k, z⟩ := d1.1
    rw [z] at hD; cases hD
  rw [Int.toNat_natCast]
  refine lc_it walk_range (fun i H2 => ∃ ls : List (List Nat), ls.length = i ∧ (∀ l ∈ ls, R l) ∧ H2 D = some (.lst (txts ls)) ∧ Drawn b H H2) ⟨[], rfl, (fun _ h => absurd h List.not_mem_nil), upd_same, ?_, fun a o n h => ?_⟩ (fun _ _ _ _ => trivial) (fun i v H2 H3 hi hP hy => ?_) (fun H2 hP => ?_)
  · obtain ⟨i, j, k, z⟩ := d1.1
    exact ⟨i, j, k, by rw [upd_ne hbD]; exact z⟩
  · have h1 := d1.2 a o n h
    rw [upd_ne (ne_of_none h1 hD)]; exact h1
  · obtain ⟨ls, e1, e2, e3, d2⟩ := hP
    obtain ⟨rfl, rfl⟩ := hy
    refine ⟨hw _, ?_⟩
    unfold tYes
    dsimp only
    rw [if_pos rfl]
    refine hs _ _ d2.1 _ fun l H4 hl d3 => ?_
    have e4 := d3.2 _ _ (Ne.symm hbD) e3
    refine ⟨_, e4, ?_, ls ++ [l], by rw [List.length_append, e1]; rfl, ?_, ?_, ?_⟩
    · unfold txts
      rw [List.length_map]
      have : (1000 : Nat) < sizeLine := by decide
      omega
    · intro z hz
      rcases List.mem_append.mp hz with hz | hz
      · exact e2 z hz
      · rw [List.mem_singleton.mp hz]; exact hl
    · rw [upd_same]; unfold txts; rw [List.map_append]; rfl
    · have d4 := d2.trans d3
      obtain ⟨i, j, k, z⟩ := d4.1
      refine ⟨⟨i, j, k, by rw [upd_ne hbD]; exact z⟩, fun a o n h => ?_⟩
      have hDn : H D = none := by
        cases q : H D with
        | none => rfl
        | some o => have := d1.2 D o (Ne.symm hbD) q; rw [hD] at this; cases this
      rw [upd_ne (ne_of_none h hDn)]
      exact d4.2 a o n h
  · obtain ⟨ls, e1, e2, e3, d2⟩ := hP
    exact hd D ls H2 (by rw [e1]; exact hn') e2 e3 d2
end Gx

set_option maxHeartbeats 4000000
/-! Tx: what evaluates to a short text, to a list of short texts, while the box at b may be drawn from. -/
namespace Gx
open PySem PySem.Spec PyProof.Rows L2 Lx
/-- a text that is not too long -/
def Sh (n : Nat) (v : V) : Prop := ∃ z : Str, v = .str z ∧ z.length ≤ n
theorem Sh.mk {n : Nat} {z : Str} (h : z.length ≤ n) : Sh n (.str z) := ⟨z, rfl, h⟩
theorem Sh.mono {m n : Nat} {v : V} (h : Sh m v) (hm : m ≤ n) : Sh n v := by
  obtain ⟨z, e, hz⟩ := h
  exact ⟨z, e, Nat.le_trans hz hm⟩
def ShL (n m : Nat) (H : Hp) (p : Addr) : Prop := ∃ xs, H p = some (.lst xs) ∧ xs.length ≤ n ∧ ∀ v ∈ xs, Sh m v
theorem cutS_short (z : Str) (lo hi : Option Int) {n : Nat} (h : z.length ≤ n) : (cutS z lo hi).length ≤ n := Nat.le_trans (cutS_length z lo hi) h
theorem timesS_len (z : Str) (n : Nat) : (timesS z n).length = z.length * n := by
  show ((List.replicate n z.cps.toList).flatten.toArray).size = _
  rw [List.size_toArray, List.length_flatten]
  simp [Str.length, Nat.mul_comm]
theorem app_len (x y : Str) : (x ++ y).length = x.length + y.length := by
  show (x ++ y).cps.size = _
  rw [Str.cps_append, Array.size_append]; rfl
/-- evaluates to a text of at most m signs -/
def ES (te : TE) (σ : L2.St) (b : Addr) (H : Hp) (m : Nat) : Prop := ∀ R : VK, (∀ v H', Drawn b H H' → Sh m v → R v H') → te σ H R
/-- evaluates to a list of at most n texts of at most m signs -/
def EL (te : TE) (σ : L2.St) (b : Addr) (H : Hp) (n m : Nat) : Prop := ∀ R : VK, (∀ p H', Drawn b H H' → p ≠ b → ShL n m H' p → R (.ref p) H') → te σ H R
def EA (ta : TA) (σ : L2.St) (b : Addr) (H : Hp) (n m : Nat) : Prop := ∀ R : List V → Hp → Prop, (∀ vs H', Drawn b H H' → vs.length = n → (∀ v ∈ vs, Sh m v) → R vs H') → ta σ H R
def EO (to : TO) (σ : L2.St) (b : Addr) (H : Hp) : Prop := ∀ R : Option Int → Hp → Prop, (∀ o H', Drawn b H H' → R o H') → to σ H R
section
variable {σ : L2.St} {b : Addr} {H : Hp} {m n m1 m2 n1 n2 : Nat} {ta tb te : TE} {t : TA}
theorem Drawn.refl (hb : IsBox H b) : Drawn b H H := ⟨hb, fun _ _ _ h => h⟩
theorem Drawn.new {H' : Hp} {p : Addr} {o : HO} (d : Drawn b H H') (hp : H' p = none) : Drawn b H (upd H' p o) := d.trans (Drawn.of d.1 (same_new hp))
theorem Drawn.nb {H' : Hp} {p : Addr} (d : Drawn b H H') (hp : H' p = none) : p ≠ b := fun e => by
  subst e
  obtain ⟨i, j, k, z⟩ := d.1
  rw [z] at hp; cases hp
theorem ES.mono (h : ES te σ b H m) (hm : m ≤ n) : ES te σ b H n := fun R r => h R fun v H' d s => r v H' d (s.mono hm)
theorem es_c {z : Str} (hb : IsBox H b) (h : z.length ≤ m) : ES (tC (.str z)) σ b H m := fun R r => r _ _ (Drawn.refl hb) (Sh.mk h)
theorem es_var {i : Nat} {v : V} (hb : IsBox H b) (hi : σ[i]? = some (some v)) (h : Sh m v) : ES (tVar i) σ b H m := fun R r => ⟨v, hi, r _ _ (Drawn.refl hb) h⟩
theorem es_add (hz : m1 + m2 ≤ 1000000) (ha : ES ta σ b H m1) (hc : ∀ H', Drawn b H H' → ES tb σ b H' m2) :
    ES (tOp (fun x y H Q => ∃ i j, x = .str i ∧ y = .str j ∧ i.length + j.length ≤ sizeLine ∧ Q (.str (i ++ j)) H) ta tb) σ b H (m1 + m2) := fun R r => ha _ fun v H1 d1 s1 => hc H1 d1 _ fun v2 H2 d2 s2 => by
  obtain ⟨x, rfl, hx⟩ := s1
  obtain ⟨y, rfl, hy⟩ := s2
  have : (1000000 : Nat) ≤ sizeLine := by decide
  exact ⟨x, y, rfl, rfl, by omega, r _ _ (d1.trans d2) (Sh.mk (by rw [app_len]; omega))⟩
theorem eo_none (hb : IsBox H b) : EO tNoPart σ b H := fun R r => r _ _ (Drawn.refl hb)
theorem eo_int {i : Int} (hb : IsBox H b) : EO (tPart (tC (.int i))) σ b H := fun R r => ⟨i, rfl, r _ _ (Drawn.refl hb)⟩
theorem eo_var {j : Nat} {i : Int} (hb : IsBox H b) (h : σ[j]? = some (some (.int i))) : EO (tPart (tVar j)) σ b H := fun R r => ⟨_, h, i, rfl, r _ _ (Drawn.refl hb)⟩
theorem es_slice {tl th : TO} (hz : m ≤ 1000000) (ha : ES te σ b H m) (hl : ∀ H', Drawn b H H' → EO tl σ b H') (hh : ∀ H', Drawn b H H' → EO th σ b H') : ES (tSl rSlS te tl th) σ b H m := fun R r =>
  ha _ fun v H1 d1 s1 => hl H1 d1 _ fun o H2 d2 => hh H2 (d1.trans d2) _ fun o2 H3 d3 => by
  obtain ⟨x, rfl, hx⟩ := s1
  have : (1000000 : Nat) ≤ sizeLine := by decide
  exact ⟨x, rfl, by omega, r _ _ ((d1.trans d2).trans d3) (Sh.mk (cutS_short x _ _ hx))⟩
theorem es_times {k : Int} (hk : 1 ≤ k ∧ k ≤ 100000) (hz : m * k.toNat ≤ 1000000) (ha : ES te σ b H m) :
    ES (tOp (fun x y H Q => ∃ (z : Str) (n : Int), x = .str z ∧ y = .int n ∧ 1 ≤ n ∧ n ≤ 100000 ∧ z.length * n.toNat ≤ 1000000 ∧ Q (.str (timesS z n.toNat)) H) te (tC (.int k))) σ b H (m * k.toNat) := fun R r =>
  ha _ fun v H1 d1 s1 => by
  obtain ⟨x, rfl, hx⟩ := s1
  have hm := Nat.mul_le_mul_right k.toNat hx
  exact ⟨x, k, rfl, rfl, hk.1, hk.2, by omega, r _ _ d1 (Sh.mk (by rw [timesS_len]; exact hm))⟩
theorem ea_nil (hb : IsBox H b) : EA tNil σ b H 0 m := fun R r => r _ _ (Drawn.refl hb) rfl fun _ h => absurd h List.not_mem_nil
theorem ea_cons (ha : ES te σ b H m) (ht : ∀ H', Drawn b H H' → EA t σ b H' n m) : EA (tCons te t) σ b H (n + 1) m := fun R r =>
  ha _ fun v H1 d1 s1 => ht H1 d1 _ fun vs H2 d2 hl hs => r _ _ (d1.trans d2) (by rw [List.length_cons, hl]) fun z hz => by
    rcases List.mem_cons.mp hz with e | e
    · rw [e]; exact s1
    · exact hs z e
theorem el_lst (hn : n ≤ 1000) (ht : EA t σ b H n m) : EL (tLst t) σ b H n m := fun R r => ht _ fun vs H1 d1 hl hs =>
  ⟨Nat.le_trans (by omega) (by decide : (1000 : Nat) ≤ sizeLine), fun p hp => r p _ (d1.new hp) (d1.nb hp) ⟨vs, upd_same, by omega, hs⟩⟩
theorem el_var {i : Nat} {p : Addr} (hb : IsBox H b) (hi : σ[i]? = some (some (.ref p))) (hp : p ≠ b) (h : ShL n m H p) : EL (tVar i) σ b H n m := fun R r => ⟨_, hi, r p _ (Drawn.refl hb) hp h⟩
theorem el_cat (hn : n1 + n2 ≤ 100000) (ha : EL ta σ b H n1 m) (hc : ∀ H', Drawn b H H' → EL tb σ b H' n2 m) : EL (tOp rCat ta tb) σ b H (n1 + n2) m := fun R r =>
  ha _ fun p1 H1 d1 n1' s1 => hc H1 d1 _ fun p2 H2 d2 n2' s2 => by
  obtain ⟨xs, e1, l1, h1⟩ := s1
  obtain ⟨ys, e2, l2, h2⟩ := s2
  have : (100000 : Nat) ≤ sizeLine := by decide
  refine ⟨p1, p2, xs, ys, rfl, rfl, d2.2 _ _ n1' e1, e2, by omega, fun p hp => r p _ ((d1.trans d2).new hp) ((d1.trans d2).nb hp) ⟨xs ++ ys, upd_same, by rw [List.length_append]; omega, fun v hv => ?_⟩⟩
  rcases List.mem_append.mp hv with hv | hv
  · exact h1 v hv
  · exact h2 v hv
/-- [e for y in list of short texts], e drawing nothing that the list hangs on -/
theorem el_comp {K : PySem.W.Frag} {te0 : TE} {j : Nat} {vs : List Nat} (hn : n ≤ 1000) (hb : IsBox H b) (h0 : EL te0 σ b H n m1)
    (hs : ∀ y H', Drawn b H H' → Sh m1 y → ES te ((wipe σ vs).set j (some y)) b H' m) (hw : ∀ x, wipe ((wipe σ vs).set j (some x)) vs = wipe σ vs := by intro x; rfl) :
    EL (tLc (iList K te0) (gName j) tYes te vs) σ b H n m := by
  intro R r
  refine h0 _ fun p H1 d1 np s1 => ?_
  obtain ⟨xs, e1, l1, h1⟩ := s1
  refine ⟨p, rfl, ⟨xs, SqL.of e1⟩, fun D hD => ?_⟩
  have hDb := d1.nb hD
  have hDp : p ≠ D := ne_of_none e1 hD
  refine lc_it walk_list (fun i H2 => Drawn b H H2 ∧ H2 p = some (.lst xs) ∧ ∃ ys, H2 D = some (.lst ys) ∧ ys.length = i ∧ ∀ v ∈ ys, Sh m v) ⟨d1.new hD, by rw [upd_ne hDp]; exact e1, [], upd_same, rfl, fun _ h => absurd h List.not_mem_nil⟩
    (fun i H2 _ h => SqL.of h.2.1) (fun i v H2 H3 hi hP hy => ?_) (fun H2 hP => ?_)
  · obtain ⟨d2, ep, ys, eD, ly, hys⟩ := hP
    obtain ⟨rfl, hv⟩ := hy
    refine ⟨hw _, ?_⟩
    unfold tYes
    dsimp only
    rw [if_pos rfl]
    refine hs v _ d2 (h1 v (List.mem_of_getElem? hv)) _ fun z H4 d3 hz => ?_
    refine ⟨ys, d3.2 _ _ hDb eD, Nat.lt_of_lt_of_le (show ys.length < 1001 by omega) (by decide), ?_, ?_, ys ++ [z], upd_same, by rw [List.length_append, ly]; rfl, fun u hu => ?_⟩
    · have d4 := d2.trans d3
      obtain ⟨i, j, k, e⟩ := d4.1
      refine ⟨⟨i, j, k, by rw [upd_ne (Ne.symm hDb)]; exact e⟩, fun a o na h => ?_⟩
      have : a ≠ D := fun e => by
        subst e
        have := d1.2 _ _ na h
        rw [this] at hD; cases hD
      rw [upd_ne this]; exact d4.2 a o na h
    · rw [upd_ne hDp]; exact d3.2 _ _ np ep
    · rcases List.mem_append.mp hu with hu | hu
      · exact hys u hu
      · rw [List.mem_singleton.mp hu]; exact hz
  · obtain ⟨d2, ep, ys, eD, ly, hys⟩ := hP
    exact r D H2 d2 hDb ⟨ys, eD, by omega, hys⟩
end
end Gx
namespace Gx
open PySem PySem.Spec PyProof.Rows L2 Lx
/-- x = a list of short texts; return one -/
theorem st_setL {te : TE} {rest : TS} {D : Ends} {σ : L2.St} {H : Hp} {b : Addr} {n m i : Nat} (h : EL te σ b H n m) (k : ∀ p H', Drawn b H H' → p ≠ b → ShL n m H' p → rest D (σ.set i (some (.ref p))) H') :
    tSeq (tAsg te (gName i)) rest D σ H := h _ k
end Gx

set_option maxHeartbeats 4000000
/-! Dx: lists of texts and tuples of ints as data: ==, repr. -/
namespace Gx
open PySem PySem.Spec PyProof.Rows L2 Lx
def dTxts (ls : List (List Nat)) : PyData := .list (ls.map fun l => .str (SX.S l))
theorem dp_txts {K : PySem.W.Frag} {H : Hp} {p : Addr} {ls : List (List Nat)} (h : SqL K H p (txts ls)) : Dp K H (.ref p) (dTxts ls) := by
  refine .lst h ?_
  unfold txts
  clear h
  induction ls with
  | nil => exact .nil
  | cons l ls ih => exact .cons (.str _) ih
theorem can_txts {ls : List (List Nat)} (h : ∀ l ∈ ls, ∀ c ∈ l, c < 1114112) : (dTxts ls).canLay0 = true := by
  unfold dTxts
  rw [PyData.canLay0]
  induction ls with
  | nil => rfl
  | cons l ls ih =>
    rw [List.map_cons, PyData.canLayAll0, ih fun l' hl => h l' (List.mem_cons_of_mem _ hl), Bool.and_true]
    have h1 := h l (List.mem_cons_self ..)
    show PyData.canLay0 (.str (SX.S l)) = true
    rw [PyData.canLay0]
    unfold PyData.strOk
    rw [← Array.all_toList, List.all_eq_true]
    exact fun c hc => decide_eq_true (h1 c hc)
theorem depth_strs : ∀ ls : List (List Nat), PyData.depthAll (ls.map fun l => PyData.str (SX.S l)) = 0
  | [] => rfl
  | l :: ls => by
    rw [List.map_cons, PyData.depthAll, depth_strs ls, PyData.depth]; rfl
theorem shaped_txts {ls : List (List Nat)} (h : ∀ l ∈ ls, ∀ c ∈ l, c < 1114112) : SeqAt.shaped (dTxts ls) = true := by
  unfold SeqAt.shaped
  rw [can_txts h, Bool.true_and]
  unfold dTxts
  rw [PyData.depth, depth_strs]; rfl
/-- lists of alike texts are == -/
theorem ne_txts {K : PySem.W.Frag} {H : Hp} {p q : Addr} {ls : List (List Nat)} {Q : VK} (hp : SqL K H p (txts ls)) (hq : SqL K H q (txts ls)) (h : ∀ l ∈ ls, ∀ c ∈ l, c < 1114112) (k : Q (.bl false) H) : rNeD K (.ref p) (.ref q) H Q :=
  ⟨dTxts ls, dTxts ls, dp_txts hp, dp_txts hq, shaped_txts h, shaped_txts h, by rw [SeqAt.eqv_refl _ (can_txts h)]; exact k⟩
def dInts (ns : List Int) : PyData := .tuple (ns.map .int)
theorem dp_ints {K : PySem.W.Frag} {H : Hp} {p : Addr} {ns : List Int} (h : SqT K H p (ns.map V.int)) : Dp K H (.ref p) (dInts ns) := by
  refine .tup h ?_
  clear h
  induction ns with
  | nil => exact .nil
  | cons l ls ih => exact .cons (.int _) ih
theorem can_ints (ns : List Int) : (dInts ns).canLay0 = true := by
  unfold dInts
  rw [PyData.canLay0]
  induction ns with
  | nil => rfl
  | cons n ns ih => rw [List.map_cons, PyData.canLayAll0, ih, PyData.canLay0]; rfl
theorem depth_ints : ∀ ns : List Int, PyData.depthAll (ns.map PyData.int) = 0
  | [] => rfl
  | n :: ns => by rw [List.map_cons, PyData.depthAll, depth_ints ns, PyData.depth]; rfl
theorem shaped_ints (ns : List Int) : SeqAt.shaped (dInts ns) = true := by
  unfold SeqAt.shaped
  rw [can_ints, Bool.true_and]
  unfold dInts
  rw [PyData.depth, depth_ints]; rfl
theorem ne_ints {K : PySem.W.Frag} {H : Hp} {p q : Addr} {ns : List Int} {Q : VK} (hp : SqT K H p (ns.map V.int)) (hq : SqT K H q (ns.map V.int)) (k : Q (.bl false) H) : rNeD K (.ref p) (.ref q) H Q :=
  ⟨dInts ns, dInts ns, dp_ints hp, dp_ints hq, shaped_ints ns, shaped_ints ns, by rw [SeqAt.eqv_refl _ (can_ints ns)]; exact k⟩
/-- small whole numbers -/
def Lt64 (i : Int) : Prop := i.natAbs.log2 < 64
theorem show_ints : ∀ ns : List Int, (∀ i ∈ ns, Lt64 i) → PyData.showableAll (ns.map PyData.int) = true ∧ PyData.hasDictAll (ns.map PyData.int) = false ∧ piled (PyData.shownAll (ns.map PyData.int)) ≤ 67 * ns.length
  | [], _ => ⟨rfl, rfl, Nat.le_refl _⟩
  | n :: ns, h => by
    obtain ⟨h1, h2, h3⟩ := show_ints ns fun i hi => h i (List.mem_cons_of_mem _ hi)
    have h0 : n.natAbs.log2 < 64 := h n (List.mem_cons_self ..)
    rw [List.map_cons, PyData.showableAll, PyData.hasDictAll, PyData.shownAll, PyData.showable, PyData.hasDict, PyData.shown, h1, h2, piled_cons]
    refine ⟨by simp; omega, rfl, ?_⟩
    have h4 := int_text_length_le (a := n) (k := 64) (by decide) h0
    rw [PySem.ofString_length, List.length_cons]
    omega
/-- repr of a tuple of few small whole numbers -/
theorem repr_ints {ns : List Int} (h : ∀ i ∈ ns, Lt64 i) (hn : ns.length ≤ 100) : (dInts ns).showable = true ∧ (dInts ns).hasDict = false ∧ (dInts ns).depth ≤ 60 ∧ (dInts ns).shown.length ≤ sizeLine := by
  obtain ⟨h1, h2, h3⟩ := show_ints ns h
  refine ⟨?_, ?_, ?_, ?_⟩
  · unfold dInts; rw [PyData.showable]; exact h1
  · unfold dInts; rw [PyData.hasDict]; exact h2
  · unfold dInts; rw [PyData.depth, depth_ints]; decide
  · unfold dInts
    rw [PyData.shown]
    have := fmt_text (PyData.shownAll (ns.map PyData.int))
    have : (100000 : Nat) ≤ sizeLine := by decide
    omega
/-- places of a range with a step -/
theorem rgc_up {m c : Nat} (hm : m ≤ 1000000) (hc : 0 < c) (hc2 : c ≤ 1000000) : ∃ n : Nat, RgC 0 (m : Int) (c : Int) n ∧ ∀ i, i < n → i * c < m := by
  have e := rangeSize_pos (len := (m : Int)) (c := (c : Int)) (by omega) (by omega)
  refine ⟨(((m : Int) + c - 1) / c).toNat, ⟨by omega, by omega, ?_, ?_⟩, fun i hi => ?_⟩
  · have h1 : 0 ≤ ((m : Int) + c - 1) / c := Int.ediv_nonneg (by omega) (by omega)
    have h2 : ((m : Int) + c - 1) / c ≤ (m : Int) + c - 1 := Int.ediv_le_self _ (by omega)
    have h3 : ((m : Int) + c - 1) / c * c ≤ (m : Int) + c - 1 := Int.ediv_mul_le _ (by omega)
    unfold Builtin.Range.small
    rw [e]
    generalize ((m : Int) + c - 1) / c = k at h1 h2 h3
    simp only [Builtin.Range.rangeFitsLong, Bool.and_eq_true, Bool.or_eq_true, decide_eq_true_eq, beq_iff_eq]
    refine ⟨by omega, .inr ?_⟩
    rw [if_pos (by omega)]
    simp only [Bool.and_eq_true, decide_eq_true_eq]
    omega
  · rw [e]
    have : 0 ≤ ((m : Int) + c - 1) / c := Int.ediv_nonneg (by omega) (by omega)
    omega
  · have h1 : (i : Int) < ((m : Int) + c - 1) / c := by omega
    have h2 : ((i : Int) + 1) * c ≤ (m : Int) + c - 1 := by
      have := (Int.le_ediv_iff_mul_le (c := (c : Int)) (a := (i : Int) + 1) (b := (m : Int) + c - 1) (by omega)).mp (by omega)
      exact this
    have h3 : ((i : Int) + 1) * c = ((i * c : Nat) : Int) + c := by rw [Int.add_mul, Int.one_mul, Int.natCast_mul]
    omega
end Gx

set_option maxHeartbeats 4000000
namespace K01
open PySem PySem.Spec PyProof.Rows L2 Gx
def topS (i : Nat) : Stmt := PySem.Challenge.pw_typedahead_k01_texts_rows_and_places.main.body.getD i (.Pass ⟨0, 0, 0, 0⟩)
abbrev s_is_text : Stmt := topS 4
abbrev s_is_row : Stmt := topS 5
abbrev s_is_sign : Stmt := topS 6
abbrev s_rows_of : Stmt := topS 7
abbrev s_text_of : Stmt := topS 8
abbrev s_spot : Stmt := topS 9
abbrev s_at_of : Stmt := topS 10
abbrev s_L_box : Stmt := topS 12
abbrev s_L_take : Stmt := topS 13
abbrev s_L_cells : Stmt := topS 14
abbrev s_L_one_of : Stmt := topS 15
abbrev s_L_row : Stmt := topS 16
abbrev s_L_text : Stmt := topS 17
abbrev s_L_signs : Stmt := topS 18
abbrev s_L_is_text : Stmt := topS 19
abbrev s_L_spot : Stmt := topS 20
abbrev s_L_others : Stmt := topS 21
abbrev s_L_right : Stmt := topS 22
abbrev s_law : Stmt := topS 23
theorem sc_is_text : FnScope ["thing", "rows", "row"] ["thing"] (defScope s_is_text) := ⟨rfl, rfl, rfl, by decide +kernel, rfl, by decide +kernel, by decide +kernel⟩
theorem sc_is_row : FnScope ["row", "sign"] ["row"] (defScope s_is_row) := ⟨rfl, rfl, rfl, by decide +kernel, rfl, by decide +kernel, by decide +kernel⟩
theorem sc_is_sign : FnScope ["sign"] ["sign"] (defScope s_is_sign) := ⟨rfl, rfl, rfl, by decide +kernel, rfl, by decide +kernel, by decide +kernel⟩
theorem sc_rows_of : FnScope ["text"] ["text"] (defScope s_rows_of) := ⟨rfl, rfl, rfl, by decide +kernel, rfl, by decide +kernel, by decide +kernel⟩
theorem sc_text_of : FnScope ["rows"] ["rows"] (defScope s_text_of) := ⟨rfl, rfl, rfl, by decide +kernel, rfl, by decide +kernel, by decide +kernel⟩
theorem sc_spot : FnScope ["text", "at", "ahead"] ["text", "at"] (defScope s_spot) := ⟨rfl, rfl, rfl, by decide +kernel, rfl, by decide +kernel, by decide +kernel⟩
theorem sc_at_of : FnScope ["text", "row", "column", "ahead"] ["text", "row", "column"] (defScope s_at_of) := ⟨rfl, rfl, rfl, by decide +kernel, rfl, by decide +kernel, by decide +kernel⟩
theorem sc_L_box : FnScope ["_law_cells_here", "_law_k", "_law_cell"] ["_law_cells_here", "_law_k"] (defScope s_L_box) := ⟨rfl, rfl, rfl, by decide +kernel, rfl, by decide +kernel, by decide +kernel⟩
theorem sc_L_take : FnScope ["_law_box_here", "_law_many", "_law_found", "_law_mixed"] ["_law_box_here", "_law_many"] (defScope s_L_take) := ⟨rfl, rfl, rfl, by decide +kernel, rfl, by decide +kernel, by decide +kernel⟩
theorem sc_L_cells : FnScope ["_law_script", "_law_utmost", "_law_cells_here", "_law_k", "_law_cell"] ["_law_script", "_law_utmost"] (defScope s_L_cells) := ⟨rfl, rfl, rfl, by decide +kernel, rfl, by decide +kernel, by decide +kernel⟩
theorem sc_L_one_of : FnScope ["_law_box_here", "_law_some"] ["_law_box_here", "_law_some"] (defScope s_L_one_of) := ⟨rfl, rfl, rfl, by decide +kernel, rfl, by decide +kernel, by decide +kernel⟩
theorem sc_L_row : FnScope ["_law_box_here", "_law_some", "_law_line", "_law_way", "_law_signs_here", "_law_k"] ["_law_box_here"] (defScope s_L_row) := ⟨rfl, rfl, rfl, by decide +kernel, rfl, by decide +kernel, by decide +kernel⟩
theorem sc_L_text : FnScope ["_law_box_here", "_law_many", "_law_k"] ["_law_box_here", "_law_many"] (defScope s_L_text) := ⟨rfl, rfl, rfl, by decide +kernel, rfl, by decide +kernel, by decide +kernel⟩
theorem sc_L_signs : FnScope ["_law_found"] [] (defScope s_L_signs) := ⟨rfl, rfl, rfl, by decide +kernel, rfl, by decide +kernel, by decide +kernel⟩
theorem sc_L_is_text : FnScope ["_law_matter", "_law_lines", "_law_signs_here", "_law_sign", "_law_line"] ["_law_matter"] (defScope s_L_is_text) := ⟨rfl, rfl, rfl, by decide +kernel, rfl, by decide +kernel, by decide +kernel⟩
theorem sc_L_spot : FnScope ["_law_writing", "_law_place", "_law_line", "_law_col", "_law_sign"] ["_law_writing", "_law_place"] (defScope s_L_spot) := ⟨rfl, rfl, rfl, by decide +kernel, rfl, by decide +kernel, by decide +kernel⟩
theorem sc_L_others : FnScope ["_law_box_here", "_law_writing", "_law_lines", "_law_place", "_law_signs_here", "_law_some", "_law_sign"] ["_law_box_here", "_law_writing"] (defScope s_L_others) := ⟨rfl, rfl, rfl, by decide +kernel, rfl, by decide +kernel, by decide +kernel⟩
theorem sc_L_right : FnScope ["_law_box_here", "_law_turn", "_law_writing", "_law_lines", "_law_place", "_law_due", "_law_last", "_law_matter", "_law_found"] ["_law_box_here"] (defScope s_L_right) := ⟨rfl, rfl, rfl, by decide +kernel, rfl, by decide +kernel, by decide +kernel⟩
theorem sc_law : FnScope ["_law_script", "_law_cells_here", "_law_k"] ["_law_script"] (defScope s_law) := ⟨rfl, rfl, rfl, by decide +kernel, rfl, by decide +kernel, by decide +kernel⟩
/-- what the top leaves -/
structure Facts (K : PySem.W.Frag) (mg : Str → Option Value) : Type where
  f_is_text : Addr
  d_is_text : FuncData
  F_is_text : Fun K "is_text" "is_text" s_is_text f_is_text d_is_text
  g_is_text : mg "is_text" = some (.ref f_is_text)
  b_is_text : Binds K d_is_text ["thing"] []
  f_is_row : Addr
  d_is_row : FuncData
  F_is_row : Fun K "is_row" "is_row" s_is_row f_is_row d_is_row
  g_is_row : mg "is_row" = some (.ref f_is_row)
  b_is_row : Binds K d_is_row ["row"] []
  f_is_sign : Addr
  d_is_sign : FuncData
  F_is_sign : Fun K "is_sign" "is_sign" s_is_sign f_is_sign d_is_sign
  g_is_sign : mg "is_sign" = some (.ref f_is_sign)
  b_is_sign : Binds K d_is_sign ["sign"] []
  f_rows_of : Addr
  d_rows_of : FuncData
  F_rows_of : Fun K "rows_of" "rows_of" s_rows_of f_rows_of d_rows_of
  g_rows_of : mg "rows_of" = some (.ref f_rows_of)
  b_rows_of : Binds K d_rows_of ["text"] []
  f_text_of : Addr
  d_text_of : FuncData
  F_text_of : Fun K "text_of" "text_of" s_text_of f_text_of d_text_of
  g_text_of : mg "text_of" = some (.ref f_text_of)
  b_text_of : Binds K d_text_of ["rows"] []
  f_spot : Addr
  d_spot : FuncData
  F_spot : Fun K "spot" "spot" s_spot f_spot d_spot
  g_spot : mg "spot" = some (.ref f_spot)
  b_spot : Binds K d_spot ["text", "at"] []
  f_at_of : Addr
  d_at_of : FuncData
  F_at_of : Fun K "at_of" "at_of" s_at_of f_at_of d_at_of
  g_at_of : mg "at_of" = some (.ref f_at_of)
  b_at_of : Binds K d_at_of ["text", "row", "column"] []
  f_L_box : Addr
  d_L_box : FuncData
  F_L_box : Fun K "_law_box" "_law_box" s_L_box f_L_box d_L_box
  g_L_box : mg "_law_box" = some (.ref f_L_box)
  b_L_box : Binds K d_L_box ["_law_cells_here", "_law_k"] []
  f_L_take : Addr
  d_L_take : FuncData
  F_L_take : Fun K "_law_take" "_law_take" s_L_take f_L_take d_L_take
  g_L_take : mg "_law_take" = some (.ref f_L_take)
  b_L_take : Binds K d_L_take ["_law_box_here", "_law_many"] []
  f_L_cells : Addr
  d_L_cells : FuncData
  F_L_cells : Fun K "_law_cells" "_law_cells" s_L_cells f_L_cells d_L_cells
  g_L_cells : mg "_law_cells" = some (.ref f_L_cells)
  b_L_cells : Binds K d_L_cells ["_law_script", "_law_utmost"] []
  f_L_one_of : Addr
  d_L_one_of : FuncData
  F_L_one_of : Fun K "_law_one_of" "_law_one_of" s_L_one_of f_L_one_of d_L_one_of
  g_L_one_of : mg "_law_one_of" = some (.ref f_L_one_of)
  b_L_one_of : Binds K d_L_one_of ["_law_box_here", "_law_some"] []
  f_L_row : Addr
  d_L_row : FuncData
  F_L_row : Fun K "_law_row" "_law_row" s_L_row f_L_row d_L_row
  g_L_row : mg "_law_row" = some (.ref f_L_row)
  b_L_row : Binds K d_L_row ["_law_box_here"] []
  f_L_text : Addr
  d_L_text : FuncData
  F_L_text : Fun K "_law_text" "_law_text" s_L_text f_L_text d_L_text
  g_L_text : mg "_law_text" = some (.ref f_L_text)
  b_L_text : Binds K d_L_text ["_law_box_here", "_law_many"] []
  f_L_signs : Addr
  d_L_signs : FuncData
  F_L_signs : Fun K "_law_signs" "_law_signs" s_L_signs f_L_signs d_L_signs
  g_L_signs : mg "_law_signs" = some (.ref f_L_signs)
  b_L_signs : Binds K d_L_signs [] []
  f_L_is_text : Addr
  d_L_is_text : FuncData
  F_L_is_text : Fun K "_law_is_text" "_law_is_text" s_L_is_text f_L_is_text d_L_is_text
  g_L_is_text : mg "_law_is_text" = some (.ref f_L_is_text)
  b_L_is_text : Binds K d_L_is_text ["_law_matter"] []
  f_L_spot : Addr
  d_L_spot : FuncData
  F_L_spot : Fun K "_law_spot" "_law_spot" s_L_spot f_L_spot d_L_spot
  g_L_spot : mg "_law_spot" = some (.ref f_L_spot)
  b_L_spot : Binds K d_L_spot ["_law_writing", "_law_place"] []
  f_L_others : Addr
  d_L_others : FuncData
  F_L_others : Fun K "_law_others" "_law_others" s_L_others f_L_others d_L_others
  g_L_others : mg "_law_others" = some (.ref f_L_others)
  b_L_others : Binds K d_L_others ["_law_box_here", "_law_writing"] []
  f_L_right : Addr
  d_L_right : FuncData
  F_L_right : Fun K "_law_right" "_law_right" s_L_right f_L_right d_L_right
  g_L_right : mg "_law_right" = some (.ref f_L_right)
  b_L_right : Binds K d_L_right ["_law_box_here"] []
  f_law : Addr
  d_law : FuncData
  F_law : Fun K "law" "law" s_law f_law d_law
  g_law : mg "law" = some (.ref f_law)
  b_law : Binds K d_law ["_law_script"] []
  n_all : mg "all" = none
  n_len : mg "len" = none
  n_isinstance : mg "isinstance" = none
  n_str : mg "str" = none
  n_ord : mg "ord" = none
  n_sum : mg "sum" = none
  n_abs : mg "abs" = none
  n_int : mg "int" = none
  n_enumerate : mg "enumerate" = none
  n_list : mg "list" = none
  n_range : mg "range" = none
  n_max : mg "max" = none
  n_tuple : mg "tuple" = none
  n_bool : mg "bool" = none
  n_repr : mg "repr" = none
  c_MOST_ROWS : ∃ t, mg "MOST_ROWS" = some (.int 24 t)
  c_MOST_SIGNS : ∃ t, mg "MOST_SIGNS" = some (.int 60 t)
  c_NO_SIGN : ∃ t, mg "NO_SIGN" = some (.int 37 t)
structure HasDef (K : PySem.W.Frag) (x : Str) (st : Stmt) (f : Addr) (fd : FuncData) : Prop where
  at_ : PySem.W.nsIn K mainGlobals x = some (some (.ref f))
  fn : Fun K x x st f fd
theorem hasDef_mk {K : PySem.W.Frag} {x : Str} {st : Stmt} {f : Addr} {oc : Value} {od an : Option Addr} {osl : Array (Option Value)} {kV doc pm cdv ct : Value} (a : PySem.W.nsIn K mainGlobals x = some (some (.ref f)))
    (l : K.lookup f = some ⟨oc, od, .func (PySem.W.fnOf x x (defArgs st) (defBody st) (defScope st) .none kV doc pm an cdv ct), osl⟩) (c : PySem.W.codeIn K cdv x = true) (k : PySem.W.keepIn K (.ref f) = true) :
    HasDef K x st f (PySem.W.fnOf x x (defArgs st) (defBody st) (defScope st) .none kV doc pm an cdv ct) := ⟨a, fun_mk l c k⟩
theorem bd_is_text {K : PySem.W.Frag} {f : Addr} {fd : FuncData} (F : Fun K "is_text" "is_text" s_is_text f fd) : Binds K fd ["thing"] [] := F.binds fun _ _ _ _ _ _ us hl => match us, hl with | [_], _ => rfl
theorem bd_is_row {K : PySem.W.Frag} {f : Addr} {fd : FuncData} (F : Fun K "is_row" "is_row" s_is_row f fd) : Binds K fd ["row"] [] := F.binds fun _ _ _ _ _ _ us hl => match us, hl with | [_], _ => rfl
theorem bd_is_sign {K : PySem.W.Frag} {f : Addr} {fd : FuncData} (F : Fun K "is_sign" "is_sign" s_is_sign f fd) : Binds K fd ["sign"] [] := F.binds fun _ _ _ _ _ _ us hl => match us, hl with | [_], _ => rfl
theorem bd_rows_of {K : PySem.W.Frag} {f : Addr} {fd : FuncData} (F : Fun K "rows_of" "rows_of" s_rows_of f fd) : Binds K fd ["text"] [] := F.binds fun _ _ _ _ _ _ us hl => match us, hl with | [_], _ => rfl
theorem bd_text_of {K : PySem.W.Frag} {f : Addr} {fd : FuncData} (F : Fun K "text_of" "text_of" s_text_of f fd) : Binds K fd ["rows"] [] := F.binds fun _ _ _ _ _ _ us hl => match us, hl with | [_], _ => rfl
theorem bd_spot {K : PySem.W.Frag} {f : Addr} {fd : FuncData} (F : Fun K "spot" "spot" s_spot f fd) : Binds K fd ["text", "at"] [] := F.binds fun _ _ _ _ _ _ us hl => match us, hl with | [_, _], _ => rfl
theorem bd_at_of {K : PySem.W.Frag} {f : Addr} {fd : FuncData} (F : Fun K "at_of" "at_of" s_at_of f fd) : Binds K fd ["text", "row", "column"] [] := F.binds fun _ _ _ _ _ _ us hl => match us, hl with | [_, _, _], _ => rfl
theorem bd_L_box {K : PySem.W.Frag} {f : Addr} {fd : FuncData} (F : Fun K "_law_box" "_law_box" s_L_box f fd) : Binds K fd ["_law_cells_here", "_law_k"] [] := F.binds fun _ _ _ _ _ _ us hl => match us, hl with | [_, _], _ => rfl
theorem bd_L_take {K : PySem.W.Frag} {f : Addr} {fd : FuncData} (F : Fun K "_law_take" "_law_take" s_L_take f fd) : Binds K fd ["_law_box_here", "_law_many"] [] := F.binds fun _ _ _ _ _ _ us hl => match us, hl with | [_, _], _ => rfl
theorem bd_L_cells {K : PySem.W.Frag} {f : Addr} {fd : FuncData} (F : Fun K "_law_cells" "_law_cells" s_L_cells f fd) : Binds K fd ["_law_script", "_law_utmost"] [] := F.binds fun _ _ _ _ _ _ us hl => match us, hl with | [_, _], _ => rfl
theorem bd_L_one_of {K : PySem.W.Frag} {f : Addr} {fd : FuncData} (F : Fun K "_law_one_of" "_law_one_of" s_L_one_of f fd) : Binds K fd ["_law_box_here", "_law_some"] [] := F.binds fun _ _ _ _ _ _ us hl => match us, hl with | [_, _], _ => rfl
theorem bd_L_row {K : PySem.W.Frag} {f : Addr} {fd : FuncData} (F : Fun K "_law_row" "_law_row" s_L_row f fd) : Binds K fd ["_law_box_here"] [] := F.binds fun _ _ _ _ _ _ us hl => match us, hl with | [_], _ => rfl
theorem bd_L_text {K : PySem.W.Frag} {f : Addr} {fd : FuncData} (F : Fun K "_law_text" "_law_text" s_L_text f fd) : Binds K fd ["_law_box_here", "_law_many"] [] := F.binds fun _ _ _ _ _ _ us hl => match us, hl with | [_, _], _ => rfl
theorem bd_L_signs {K : PySem.W.Frag} {f : Addr} {fd : FuncData} (F : Fun K "_law_signs" "_law_signs" s_L_signs f fd) : Binds K fd [] [] := F.binds fun _ _ _ _ _ _ us hl => match us, hl with | [], _ => rfl
theorem bd_L_is_text {K : PySem.W.Frag} {f : Addr} {fd : FuncData} (F : Fun K "_law_is_text" "_law_is_text" s_L_is_text f fd) : Binds K fd ["_law_matter"] [] := F.binds fun _ _ _ _ _ _ us hl => match us, hl with | [_], _ => rfl
theorem bd_L_spot {K : PySem.W.Frag} {f : Addr} {fd : FuncData} (F : Fun K "_law_spot" "_law_spot" s_L_spot f fd) : Binds K fd ["_law_writing", "_law_place"] [] := F.binds fun _ _ _ _ _ _ us hl => match us, hl with | [_, _], _ => rfl
theorem bd_L_others {K : PySem.W.Frag} {f : Addr} {fd : FuncData} (F : Fun K "_law_others" "_law_others" s_L_others f fd) : Binds K fd ["_law_box_here", "_law_writing"] [] := F.binds fun _ _ _ _ _ _ us hl => match us, hl with | [_, _], _ => rfl
theorem bd_L_right {K : PySem.W.Frag} {f : Addr} {fd : FuncData} (F : Fun K "_law_right" "_law_right" s_L_right f fd) : Binds K fd ["_law_box_here"] [] := F.binds fun _ _ _ _ _ _ us hl => match us, hl with | [_], _ => rfl
theorem bd_law {K : PySem.W.Frag} {f : Addr} {fd : FuncData} (F : Fun K "law" "law" s_law f fd) : Binds K fd ["_law_script"] [] := F.binds fun _ _ _ _ _ _ us hl => match us, hl with | [_], _ => rfl
def txt_mk {K : PySem.W.Frag} {h : Heap} {mg : Str → Option Value} (X : K.In h) (G : h.Ns mainGlobals mg)
    {f_is_text : Addr} {d_is_text : FuncData} (h_is_text : HasDef K "is_text" s_is_text f_is_text d_is_text) {f_is_row : Addr} {d_is_row : FuncData} (h_is_row : HasDef K "is_row" s_is_row f_is_row d_is_row) {f_is_sign : Addr} {d_is_sign : FuncData} (h_is_sign : HasDef K "is_sign" s_is_sign f_is_sign d_is_sign) {f_rows_of : Addr} {d_rows_of : FuncData} (h_rows_of : HasDef K "rows_of" s_rows_of f_rows_of d_rows_of) {f_text_of : Addr} {d_text_of : FuncData} (h_text_of : HasDef K "text_of" s_text_of f_text_of d_text_of) {f_spot : Addr} {d_spot : FuncData} (h_spot : HasDef K "spot" s_spot f_spot d_spot) {f_at_of : Addr} {d_at_of : FuncData} (h_at_of : HasDef K "at_of" s_at_of f_at_of d_at_of) {f_L_box : Addr} {d_L_box : FuncData} (h_L_box : HasDef K "_law_box" s_L_box f_L_box d_L_box) {f_L_take : Addr} {d_L_take : FuncData} (h_L_take : HasDef K "_law_take" s_L_take f_L_take d_L_take) {f_L_cells : Addr} {d_L_cells : FuncData} (h_L_cells : HasDef K "_law_cells" s_L_cells f_L_cells d_L_cells) {f_L_one_of : Addr} {d_L_one_of : FuncData} (h_L_one_of : HasDef K "_law_one_of" s_L_one_of f_L_one_of d_L_one_of) {f_L_row : Addr} {d_L_row : FuncData} (h_L_row : HasDef K "_law_row" s_L_row f_L_row d_L_row) {f_L_text : Addr} {d_L_text : FuncData} (h_L_text : HasDef K "_law_text" s_L_text f_L_text d_L_text) {f_L_signs : Addr} {d_L_signs : FuncData} (h_L_signs : HasDef K "_law_signs" s_L_signs f_L_signs d_L_signs) {f_L_is_text : Addr} {d_L_is_text : FuncData} (h_L_is_text : HasDef K "_law_is_text" s_L_is_text f_L_is_text d_L_is_text) {f_L_spot : Addr} {d_L_spot : FuncData} (h_L_spot : HasDef K "_law_spot" s_L_spot f_L_spot d_L_spot) {f_L_others : Addr} {d_L_others : FuncData} (h_L_others : HasDef K "_law_others" s_L_others f_L_others d_L_others) {f_L_right : Addr} {d_L_right : FuncData} (h_L_right : HasDef K "_law_right" s_L_right f_L_right d_L_right) {f_law : Addr} {d_law : FuncData} (h_law : HasDef K "law" s_law f_law d_law)
    (z_all : PySem.W.nsIn K mainGlobals "all" = some none) (z_len : PySem.W.nsIn K mainGlobals "len" = some none) (z_isinstance : PySem.W.nsIn K mainGlobals "isinstance" = some none) (z_str : PySem.W.nsIn K mainGlobals "str" = some none) (z_ord : PySem.W.nsIn K mainGlobals "ord" = some none) (z_sum : PySem.W.nsIn K mainGlobals "sum" = some none) (z_abs : PySem.W.nsIn K mainGlobals "abs" = some none) (z_int : PySem.W.nsIn K mainGlobals "int" = some none) (z_enumerate : PySem.W.nsIn K mainGlobals "enumerate" = some none) (z_list : PySem.W.nsIn K mainGlobals "list" = some none) (z_range : PySem.W.nsIn K mainGlobals "range" = some none) (z_max : PySem.W.nsIn K mainGlobals "max" = some none) (z_tuple : PySem.W.nsIn K mainGlobals "tuple" = some none) (z_bool : PySem.W.nsIn K mainGlobals "bool" = some none) (z_repr : PySem.W.nsIn K mainGlobals "repr" = some none)
    {t_MOST_ROWS : Tok} (z_MOST_ROWS : PySem.W.nsIn K mainGlobals "MOST_ROWS" = some (some (.int 24 t_MOST_ROWS))) {t_MOST_SIGNS : Tok} (z_MOST_SIGNS : PySem.W.nsIn K mainGlobals "MOST_SIGNS" = some (some (.int 60 t_MOST_SIGNS))) {t_NO_SIGN : Tok} (z_NO_SIGN : PySem.W.nsIn K mainGlobals "NO_SIGN" = some (some (.int 37 t_NO_SIGN))) : Facts K mg where
  f_is_text := f_is_text
  d_is_text := d_is_text
  F_is_text := h_is_text.fn
  g_is_text := PySem.W.mg_of X G h_is_text.at_
  b_is_text := bd_is_text h_is_text.fn
  f_is_row := f_is_row
  d_is_row := d_is_row
  F_is_row := h_is_row.fn
  g_is_row := PySem.W.mg_of X G h_is_row.at_
  b_is_row := bd_is_row h_is_row.fn
  f_is_sign := f_is_sign
  d_is_sign := d_is_sign
  F_is_sign := h_is_sign.fn
  g_is_sign := PySem.W.mg_of X G h_is_sign.at_
  b_is_sign := bd_is_sign h_is_sign.fn
  f_rows_of := f_rows_of
  d_rows_of := d_rows_of
  F_rows_of := h_rows_of.fn
  g_rows_of := PySem.W.mg_of X G h_rows_of.at_
  b_rows_of := bd_rows_of h_rows_of.fn
  f_text_of := f_text_of
  d_text_of := d_text_of
  F_text_of := h_text_of.fn
  g_text_of := PySem.W.mg_of X G h_text_of.at_
  b_text_of := bd_text_of h_text_of.fn
  f_spot := f_spot
  d_spot := d_spot
  F_spot := h_spot.fn
  g_spot := PySem.W.mg_of X G h_spot.at_
  b_spot := bd_spot h_spot.fn
  f_at_of := f_at_of
  d_at_of := d_at_of
  F_at_of := h_at_of.fn
  g_at_of := PySem.W.mg_of X G h_at_of.at_
  b_at_of := bd_at_of h_at_of.fn
  f_L_box := f_L_box
  d_L_box := d_L_box
  F_L_box := h_L_box.fn
  g_L_box := PySem.W.mg_of X G h_L_box.at_
  b_L_box := bd_L_box h_L_box.fn
  f_L_take := f_L_take
  d_L_take := d_L_take
  F_L_take := h_L_take.fn
  g_L_take := PySem.W.mg_of X G h_L_take.at_
  b_L_take := bd_L_take h_L_take.fn
  f_L_cells := f_L_cells
  d_L_cells := d_L_cells
  F_L_cells := h_L_cells.fn
  g_L_cells := PySem.W.mg_of X G h_L_cells.at_
  b_L_cells := bd_L_cells h_L_cells.fn
  f_L_one_of := f_L_one_of
  d_L_one_of := d_L_one_of
  F_L_one_of := h_L_one_of.fn
  g_L_one_of := PySem.W.mg_of X G h_L_one_of.at_
  b_L_one_of := bd_L_one_of h_L_one_of.fn
  f_L_row := f_L_row
  d_L_row := d_L_row
  F_L_row := h_L_row.fn
  g_L_row := PySem.W.mg_of X G h_L_row.at_
  b_L_row := bd_L_row h_L_row.fn
  f_L_text := f_L_text
  d_L_text := d_L_text
  F_L_text := h_L_text.fn
  g_L_text := PySem.W.mg_of X G h_L_text.at_
  b_L_text := bd_L_text h_L_text.fn
  f_L_signs := f_L_signs
  d_L_signs := d_L_signs
  F_L_signs := h_L_signs.fn
  g_L_signs := PySem.W.mg_of X G h_L_signs.at_
  b_L_signs := bd_L_signs h_L_signs.fn
  f_L_is_text := f_L_is_text
  d_L_is_text := d_L_is_text
  F_L_is_text := h_L_is_text.fn
  g_L_is_text := PySem.W.mg_of X G h_L_is_text.at_
  b_L_is_text := bd_L_is_text h_L_is_text.fn
  f_L_spot := f_L_spot
  d_L_spot := d_L_spot
  F_L_spot := h_L_spot.fn
  g_L_spot := PySem.W.mg_of X G h_L_spot.at_
  b_L_spot := bd_L_spot h_L_spot.fn
  f_L_others := f_L_others
  d_L_others := d_L_others
  F_L_others := h_L_others.fn
  g_L_others := PySem.W.mg_of X G h_L_others.at_
  b_L_others := bd_L_others h_L_others.fn
  f_L_right := f_L_right
  d_L_right := d_L_right
  F_L_right := h_L_right.fn
  g_L_right := PySem.W.mg_of X G h_L_right.at_
  b_L_right := bd_L_right h_L_right.fn
  f_law := f_law
  d_law := d_law
  F_law := h_law.fn
  g_law := PySem.W.mg_of X G h_law.at_
  b_law := bd_law h_law.fn
  n_all := PySem.W.mg_none_of X G z_all
  n_len := PySem.W.mg_none_of X G z_len
  n_isinstance := PySem.W.mg_none_of X G z_isinstance
  n_str := PySem.W.mg_none_of X G z_str
  n_ord := PySem.W.mg_none_of X G z_ord
  n_sum := PySem.W.mg_none_of X G z_sum
  n_abs := PySem.W.mg_none_of X G z_abs
  n_int := PySem.W.mg_none_of X G z_int
  n_enumerate := PySem.W.mg_none_of X G z_enumerate
  n_list := PySem.W.mg_none_of X G z_list
  n_range := PySem.W.mg_none_of X G z_range
  n_max := PySem.W.mg_none_of X G z_max
  n_tuple := PySem.W.mg_none_of X G z_tuple
  n_bool := PySem.W.mg_none_of X G z_bool
  n_repr := PySem.W.mg_none_of X G z_repr
  c_MOST_ROWS := ⟨t_MOST_ROWS, PySem.W.mg_of X G z_MOST_ROWS⟩
  c_MOST_SIGNS := ⟨t_MOST_SIGNS, PySem.W.mg_of X G z_MOST_SIGNS⟩
  c_NO_SIGN := ⟨t_NO_SIGN, PySem.W.mg_of X G z_NO_SIGN⟩
theorem kb_at_of_0_column_row_text {K : PySem.W.Frag} {mg : Str → Option Value} (T : Facts K mg) : KBn K T.d_at_of ["text", "row", "column"] 0 ["column", "row", "text"] (fun us ws => us ++ pick [2, 1, 0] ws) (fun vs zs => vs ++ pick [2, 1, 0] zs) :=
  kbn_pick T.F_at_of [2, 1, 0] fun _ _ _ _ _ _ us ws h1 h2 => match us, ws, h1, h2 with | [], [_, _, _], _, _ => rfl
theorem kb_spot_0_at_text {K : PySem.W.Frag} {mg : Str → Option Value} (T : Facts K mg) : KBn K T.d_spot ["text", "at"] 0 ["at", "text"] (fun us ws => us ++ pick [1, 0] ws) (fun vs zs => vs ++ pick [1, 0] zs) :=
  kbn_pick T.F_spot [1, 0] fun _ _ _ _ _ _ us ws h1 h2 => match us, ws, h1, h2 with | [], [_, _], _, _ => rfl
theorem kb_is_text_0_thing {K : PySem.W.Frag} {mg : Str → Option Value} (T : Facts K mg) : KBn K T.d_is_text ["thing"] 0 ["thing"] (fun us ws => us ++ pick [0] ws) (fun vs zs => vs ++ pick [0] zs) :=
  kbn_pick T.F_is_text [0] fun _ _ _ _ _ _ us ws h1 h2 => match us, ws, h1, h2 with | [], [_], _, _ => rfl
theorem kb_rows_of_0_text {K : PySem.W.Frag} {mg : Str → Option Value} (T : Facts K mg) : KBn K T.d_rows_of ["text"] 0 ["text"] (fun us ws => us ++ pick [0] ws) (fun vs zs => vs ++ pick [0] zs) :=
  kbn_pick T.F_rows_of [0] fun _ _ _ _ _ _ us ws h1 h2 => match us, ws, h1, h2 with | [], [_], _, _ => rfl
theorem kb_text_of_0_rows {K : PySem.W.Frag} {mg : Str → Option Value} (T : Facts K mg) : KBn K T.d_text_of ["rows"] 0 ["rows"] (fun us ws => us ++ pick [0] ws) (fun vs zs => vs ++ pick [0] zs) :=
  kbn_pick T.F_text_of [0] fun _ _ _ _ _ _ us ws h1 h2 => match us, ws, h1, h2 with | [], [_], _, _ => rfl
end K01

set_option maxHeartbeats 4000000
namespace K01
open PySem PySem.Spec PyProof.Rows L2 Gx Lx
local macro_rules | `(tactic| walk_at "rd") => `(tactic| simp only [tRet, tAndV, tOrV, tNotV, tChain, tOp, tUn, tCB, tCons, tNil, tVar, tC, tGo, tTup, tLst, tSl, tM1, tM0, tSeq, tAsg, gName, tIfS, tNext, rNe, rEq, rI, rI0, rU, tB, tTest, tNot, tAnd, tOr, tIf, L2.start, wipe, List.map_cons, List.map_nil, List.cons_append, List.nil_append, List.replicate_succ, List.replicate_zero, List.set_cons_zero, List.set_cons_succ, List.getElem?_cons_zero, List.getElem?_cons_succ, List.length_cons, List.length_nil, Option.some.injEq, exists_eq_left', exists_eq_left, V.str.injEq, V.bl.injEq, V.int.injEq, V.ref.injEq, List.cons.injEq, and_true, true_and, exists_and_left, Bool.false_eq_true, if_false, if_true, if_pos])
variable {P : Program} {w : World} {K : PySem.W.Frag} {mg : Str → Option Value} {base : Heap}
theorem lt1 (a b : Nat) : ([a] < [b]) ↔ a < b := by
  constructor
  · intro h
    cases h with
    | rel h => exact h
    | cons h => cases h
  · exact fun h => List.Lex.rel h
def ok1 (c : Nat) : Bool := (!decide (c < 32) && !decide (126 < c)) && !decide (c = 37)
def sp_is_sign : Sp := fun vs H Q _ => ∃ c : Nat, vs = [.str (SX.S [c])] ∧ Q (.bl (ok1 c)) H
theorem ok_is_sign (T : Facts K mg) : FnG P w K mg base 1 T.f_is_sign T.d_is_sign ["sign"] sp_is_sign := by
  obtain ⟨tN, c_NO_SIGN⟩ := T.c_NO_SIGN
  refine fnG_of T.F_is_sign sc_is_sign (fun vs H Q E h => ?_) (fun cdv A outer s H vs Q hG hr h => ?_)
  · obtain ⟨c, rfl, _⟩ := h; rfl
  · obtain ⟨c, rfl, q⟩ := h
    refine ⟨_, (pss_one (ps_ret (pe_and (pe_chain op_le_str op_le_str pe_str (pv 0) pe_str) (pe_one (pe_cmpR op_ne (pe_callB call_ord (by rfl) T.n_ord (by decide +kernel) (pa_cons (pv 0) pa_nil)) (pe_glob (v := .int 37) rfl c_NO_SIGN ⟨_, rfl⟩) (nomark _)))))), ?_⟩
    have e1 : decide ((SX.S [c]).cps.toList < (" " : Str).cps.toList) = decide (c < 32) := decide_eq_decide.mpr (lt1 c 32)
    have e2 : decide (("~" : Str).cps.toList < (SX.S [c]).cps.toList) = decide (126 < c) := decide_eq_decide.mpr (lt1 126 c)
    walk_at "rd"
    unfold ok1 at q
    by_cases h1 : c < 32
    · simpa [e1, h1] using q
    · by_cases h2 : 126 < c
      · simpa [e1, e2, h1, h2] using q
      · have e3 : decide (V.int ((c : Nat) : Int) = V.int 37) = decide (c = 37) := decide_eq_decide.mpr ⟨fun h => by injection h with h; omega, fun h => by rw [h]; rfl⟩
        rw [e1, e2]
        simp only [h1, h2, decide_false, Bool.not_false, if_true, Bool.true_and] at q ⊢
        refine ⟨rfl, rfl, ?_⟩
        have e4 : decide (((#[c].getD 0 0 : Nat) : Int) = 37) = decide (c = 37) := decide_eq_decide.mpr (by show ((c : Nat) : Int) = 37 ↔ c = 37; omega)
        rw [e4]
        exact q
def rowOk (l : List Nat) : Bool := decide ((l.length : Int) ≤ 60) && l.all ok1
def sp_is_row : Sp := fun vs H Q _ => ∃ x : Str, vs = [.str x] ∧ x.length ≤ 1000000 ∧ ∀ H', Same H H' → Q (.bl (rowOk x.cps.toList)) H'
theorem ok_is_row (T : Facts K mg) : FnG P w K mg base 2 T.f_is_row T.d_is_row ["row"] sp_is_row := by
  obtain ⟨tS, c_MOST_SIGNS⟩ := T.c_MOST_SIGNS
  refine fnG_of T.F_is_row sc_is_row (fun vs H Q E h => ?_) (fun cdv A outer s H vs Q hG hr h => ?_)
  · obtain ⟨c, rfl, _⟩ := h; rfl
  · obtain ⟨x, rfl, hx, q⟩ := h
    refine ⟨_, (pss_one (ps_ret (pe_and (pe_cmpR op_le (pe_callB call_len_str (by rfl) T.n_len PySem.boot_len (pa_cons (pv 0) pa_nil)) (pe_glob (v := .int 60) rfl c_MOST_SIGNS ⟨_, rfl⟩) (nomark _)) (pe_one (pe_callB (cr_all rfl) (by rfl) T.n_all (by decide +kernel) (pa_cons (pe_lc (own := [("sign", 1)]) rfl sc_is_row.nd (pi_str (pv 0)) (blkOk_by (own := [("sign", 1)]) (N := ["row", "sign"]) (sc := defScope s_is_row) (by decide +kernel)) (fun _ _ _ _ _ => (pg_name (i := 1) sc_is_row.nd rfl (.inl rfl))) (fun _ _ _ _ _ => pts_nil) (fun _ _ _ _ _ => (pe_go (ok_is_sign T) hG (hr.mono (by decide)) (by rfl) T.g_is_sign T.F_is_sign.kp T.b_is_sign (pa_cons (pv 1) pa_nil)))) pa_nil)))))), ?_⟩
    walk_at "rd"
    refine ⟨Nat.le_trans hx (by decide), ite2 (fun h => ?_) (fun h => ?_)⟩
    · refine lc_text (x := x) (fun c => .bl (ok1 c)) (fun R r => ⟨_, rfl, r _ _ (Same.refl _) rfl⟩) hx (fun c H' hc s1 Qv q1 => ?_) (fun D H' hD s1 e1 => ?_)
      · exact ⟨_, rfl, c, rfl, q1 _ (Same.refl _)⟩
      · refine ⟨D, x.cps.toList.map ok1, rfl, SqL.of (by rw [e1, List.map_map]; rfl), ?_⟩
        have q1 := q H' s1
        unfold rowOk at q1
        rw [show x.cps.toList.length = x.length from Array.length_toList, h, Bool.true_and] at q1
        rw [List.all_map]
        exact q1
    · have q1 := q H (Same.refl _)
      unfold rowOk at q1
      rw [show x.cps.toList.length = x.length from Array.length_toList, Bool.eq_false_iff.mpr h] at q1
      exact q1
end K01

set_option maxHeartbeats 4000000
namespace K01
open PySem PySem.Spec PyProof.Rows L2 Gx Lx
local macro_rules | `(tactic| walk_at "rd") => `(tactic| simp only [tRet, tAndV, tOrV, tNotV, tChain, tOp, tUn, tCB, tCons, tNil, tVar, tC, tGo, tTup, tLst, tSl, tM1, tM0, tSeq, tAsg, gName, tIfS, tNext, rNe, rEq, rI, rI0, rU, tB, tTest, tNot, tAnd, tOr, tIf, L2.start, wipe, List.map_cons, List.map_nil, List.cons_append, List.nil_append, List.replicate_succ, List.replicate_zero, List.set_cons_zero, List.set_cons_succ, List.getElem?_cons_zero, List.getElem?_cons_succ, List.length_cons, List.length_nil, Option.some.injEq, exists_eq_left', exists_eq_left, V.str.injEq, V.bl.injEq, V.int.injEq, V.ref.injEq, List.cons.injEq, and_true, true_and, exists_and_left, Bool.false_eq_true, if_false, if_true, if_pos])
variable {P : Program} {w : World} {K : PySem.W.Frag} {mg : Str → Option Value} {base : Heap}
/-! ### rows_of, text_of -/
def sp_rows_of : Sp := fun vs H Q _ => ∃ x : Str, vs = [.str x] ∧ x.length ≤ 900000 ∧ ∀ p, H p = none → Q (.ref p) (upd H p (.lst (txts (lines x.cps.toList))))
theorem ok_rows_of (T : Facts K mg) : FnG P w K mg base 1 T.f_rows_of T.d_rows_of ["text"] sp_rows_of := by
  refine fnG_of T.F_rows_of sc_rows_of (fun vs H Q E h => ?_) (fun cdv A outer s H vs Q hG hr h => ?_)
  · obtain ⟨c, rfl, _⟩ := h; rfl
  · obtain ⟨x, rfl, hx, q⟩ := h
    refine ⟨_, (pss_one (ps_ret (pe_split (pv 0) pe_str))), ?_⟩
    refine ⟨.str x, rfl, ⟨_, rfl⟩, x, nl, rfl, rfl, rfl, Nat.le_trans (Nat.add_le_add_right hx 2) (by decide), fun p hp => ?_⟩
    have q1 := q p hp
    rw [txts_eq, ← split_lines] at q1
    exact q1
def sp_text_of (K : PySem.W.Frag) : Sp := fun vs H Q _ => ∃ (p : Addr) (ls : List (List Nat)), vs = [.ref p] ∧ (SqL K H p (txts ls) ∨ SqT K H p (txts ls)) ∧ (ls.map fun l => l.length + 1).sum ≤ 1000000 ∧ Q (.str (SX.S (TL.joinL [10] ls))) H
theorem ok_text_of (T : Facts K mg) : FnG P w K mg base 1 T.f_text_of T.d_text_of ["rows"] (sp_text_of K) := by
  refine fnG_of T.F_text_of sc_text_of (fun vs H Q E h => ?_) (fun cdv A outer s H vs Q hG hr h => ?_)
  · obtain ⟨c, _, rfl, _⟩ := h; rfl
  · obtain ⟨p, ls, rfl, hp, hz, q⟩ := h
    refine ⟨_, (pss_one (ps_ret (pe_join pe_str (pv 0)))), ?_⟩
    rw [txts_eq] at hp
    refine ⟨⟨_, rfl⟩, .ref p, rfl, nl, p, ls.map SX.S, rfl, rfl, hp, join_room hz, ?_⟩
    rw [join_S ⟨#[]⟩ ls]
    exact q
/-! ### spot, at_of -/
def spotV (l : List Nat) : List V := [.int (spotOf l).1, .int (spotOf l).2]
def sp_spot : Sp := fun vs H Q _ => ∃ (x : Str) (n : Nat), vs = [.str x, .int (n : Int)] ∧ x.length ≤ 900000 ∧ n ≤ x.length ∧
  ∀ p H', H p = none → Same H H' → H' p = some (.tup (spotV (x.cps.toList.take n))) → Q (.ref p) H'
theorem ok_spot (T : Facts K mg) : FnG P w K mg base 2 T.f_spot T.d_spot ["text", "at"] sp_spot := by
  refine fnG_of T.F_spot sc_spot (fun vs H Q E h => ?_) (fun cdv A outer s H vs Q hG hr h => ?_)
  · obtain ⟨c, _, rfl, _⟩ := h; rfl
  · obtain ⟨x, n, rfl, hx, hn, q⟩ := h
    refine ⟨_, (pss_cons (ps_set (i := 2) sc_spot.nd rfl (.inl rfl) (pe_go (ok_rows_of T) hG (hr.mono (by decide)) (by rfl) T.g_rows_of T.F_rows_of.kp T.b_rows_of (pa_cons (pe_slice sl_str (pv 0) po_none (po_some (pv 1))) pa_nil)))
        (pss_one (ps_ret (pe_tup (pa_cons (pe_op op_sub (pe_callB call_len_seq (by rfl) T.n_len PySem.boot_len (pa_cons (pv 2) pa_nil)) pe_int) (pa_cons (pe_callB call_len_str (by rfl) T.n_len PySem.boot_len (pa_cons (pe_ix ix_list (pv 2) (pe_un un_neg pe_int) (fun _ _ => rfl)) pa_nil)) pa_nil)))))), ?_⟩
    have hc := cutS_to x n
    refine ⟨.str x, rfl, .int n, rfl, n, rfl, x, rfl, Nat.le_trans hx (by decide), cutS x none (some n), rfl, Nat.le_trans (cutS_length x _ _) hx, fun p hp => ?_⟩
    rw [hc]
    have hS : SqL K (upd H p (.lst (txts (lines (x.cps.toList.take n))))) p (txts (lines (x.cps.toList.take n))) := SqL.of upd_same
    have s1 : Same H (upd H p (.lst (txts (lines (x.cps.toList.take n))))) := same_new hp
    generalize upd H p (.lst (txts (lines (x.cps.toList.take n)))) = H1 at hS s1 ⊢
    have hne := lines_ne (x.cps.toList.take n)
    have hp0 := lines_len_pos (x.cps.toList.take n)
    have hlast : atI (txts (lines (x.cps.toList.take n))) (-1) = some (.str (SX.S ((lines (x.cps.toList.take n)).getLastD []))) := by
      rw [lines_last (x.cps.toList.take n)]
      unfold txts
      rw [List.map_append, ← lines_last]
      exact atI_last _ _
    have hlen : ((lines (x.cps.toList.take n)).getLastD []).length ≤ 1000000 := by
      have e1 := lines_sum (x.cps.toList.take n)
      rw [lines_last (x.cps.toList.take n), List.map_append, List.sum_append, List.map_singleton, List.sum_singleton] at e1
      have e2 : (x.cps.toList.take n).length ≤ x.length := by rw [List.length_take, Array.length_toList]; exact Nat.min_le_right _ _
      omega
    refine ⟨.ref p, rfl, p, _, rfl, .inl hS, _, _, rfl, rfl, .ref p, rfl, 1, rfl, p, _, -1, _, rfl, rfl, hS, hlast, _, rfl, by rw [SX.S_len]; exact Nat.le_trans hlen (by decide), ?_⟩
    refine ⟨by show 2 ≤ sizeLine; decide, fun p2 hp2 => q p2 _ (s1.free hp2) (s1.trans (same_new hp2)) ?_⟩
    rw [upd_same]
    unfold spotV spotOf txts
    rw [SX.S_len, List.length_map]
    dsimp only
    rw [show (((lines (x.cps.toList.take n)).length : Int) - 1) = (((lines (x.cps.toList.take n)).length - 1 : Nat) : Int) by omega]
def sp_at_of : Sp := fun vs H Q _ => ∃ (x : Str) (r c : Int), vs = [.str x, .int r, .int c] ∧ x.length ≤ 900000 ∧ 0 ≤ r ∧ ∀ H', Same H H' → Q (.int (atOf x.cps.toList r c)) H'
theorem ok_at_of (T : Facts K mg) : FnG P w K mg base 2 T.f_at_of T.d_at_of ["text", "row", "column"] sp_at_of := by
  refine fnG_of T.F_at_of sc_at_of (fun vs H Q E h => ?_) (fun cdv A outer s H vs Q hG hr h => ?_)
  · obtain ⟨c, _, _, rfl, _⟩ := h; rfl
  · obtain ⟨x, r, c, rfl, hx, hr0, q⟩ := h
    refine ⟨_, (pss_one (ps_ret (pe_op op_add (pe_callB (cr_sum rfl) (by rfl) T.n_sum (by decide +kernel) (pa_cons (pe_lc (own := [("ahead", 3)]) rfl sc_at_of.nd (pi_list (pe_slice sl_list (pe_go (ok_rows_of T) hG (hr.mono (by decide)) (by rfl) T.g_rows_of T.F_rows_of.kp T.b_rows_of (pa_cons (pv 0) pa_nil)) po_none (po_some (pv 1)))) (blkOk_by (own := [("ahead", 3)]) (N := ["text", "row", "column", "ahead"]) (sc := defScope s_at_of) (by decide +kernel)) (fun _ _ _ _ _ => (pg_name (i := 3) sc_at_of.nd rfl (.inl rfl))) (fun _ _ _ _ _ => pts_nil) (fun _ _ _ _ _ => (pe_op op_add (pe_callB call_len_str (by rfl) T.n_len PySem.boot_len (pa_cons (pv 3) pa_nil)) pe_int))) pa_nil)) (pv 2)))), ?_⟩
    have hl : x.length = x.cps.toList.length := (Array.length_toList).symm
    walk_at "rd"
    refine lc_lst (K := K) (xs := txts ((lines x.cps.toList).take r.toNat)) (fun v => match v with | .str z => .int ((z.length : Int) + 1) | v => v) (fun R rr => ?_) ?_ (fun y H' hy s1 Qv q1 => ?_) (fun D H' hD s1 e1 => ?_)
    · refine ⟨.str x, rfl, x, rfl, hx, fun p hp => ?_⟩
      have hS : SqL K (upd H p (.lst (txts (lines x.cps.toList)))) p (txts (lines x.cps.toList)) := SqL.of upd_same
      refine ⟨.int r, rfl, r, rfl, p, _, rfl, hS, fun p2 hp2 => rr _ _ ((same_new hp).trans (same_new hp2)) ⟨p2, rfl, SqL.of ?_⟩⟩
      have er : r = ((r.toNat : Nat) : Int) := by omega
      rw [upd_same, er, cutV_to, Int.toNat_natCast]
      unfold txts
      rw [List.map_take]
    · have := lines_many x.cps.toList
      unfold txts
      rw [List.length_map, List.length_take]
      omega
    · obtain ⟨l, hl2, rfl⟩ := List.mem_map.mp hy
      have h3 := lines_small (List.mem_of_mem_take hl2)
      refine ⟨_, rfl, _, rfl, ?_, _, _, rfl, rfl, q1 _ (Same.refl _)⟩
      rw [SX.S_len]
      have : (1000000 : Nat) ≤ sizeLine := by decide
      omega
    · refine ⟨D, (((lines x.cps.toList).take r.toNat).map fun (y : List Nat) => (y.length : Int) + 1), rfl, SqL.of ?_, _, rfl, q H' s1⟩
      rw [e1]
      unfold txts
      rw [List.map_map, List.map_map]
      congr 2
end K01

set_option maxHeartbeats 4000000
namespace K01
open PySem PySem.Spec PyProof.Rows L2 Gx Lx
local macro_rules | `(tactic| walk_at "rd") => `(tactic| simp only [tRet, tAndV, tOrV, tNotV, tChain, tOp, tUn, tCB, tCons, tNil, tVar, tC, tGo, tTup, tLst, tSl, tM1, tM0, tSeq, tAsg, gName, tIfS, tNext, rNe, rEq, rI, rI0, rU, tB, tTest, tNot, tAnd, tOr, tIf, L2.start, wipe, List.map_cons, List.map_nil, List.cons_append, List.nil_append, List.replicate_succ, List.replicate_zero, List.set_cons_zero, List.set_cons_succ, List.getElem?_cons_zero, List.getElem?_cons_succ, List.length_cons, List.length_nil, Option.some.injEq, exists_eq_left', exists_eq_left, V.str.injEq, V.bl.injEq, V.int.injEq, V.ref.injEq, List.cons.injEq, and_true, true_and, exists_and_left, Bool.false_eq_true, if_false, if_true, if_pos])
variable {P : Program} {w : World} {K : PySem.W.Frag} {mg : Str → Option Value} {base : Heap}
def textOk (l : List Nat) : Bool := decide (((lines l).length : Int) ≤ 24) && (lines l).all rowOk
def NonS (H : Hp) (v : V) : Prop := v = .non ∨ (∃ b, v = .bl b) ∨ (∃ i, v = .int i) ∨ ∃ a xs, v = .ref a ∧ (H a = some (.lst xs) ∨ H a = some (.tup xs))
theorem NonS.same {H H' : Hp} {v : V} (s : Same H H') (h : NonS H v) : NonS H' v := by
  rcases h with h | h | h | ⟨a, xs, h, e⟩
  · exact .inl h
  · exact .inr (.inl h)
  · exact .inr (.inr (.inl h))
  · exact .inr (.inr (.inr ⟨a, xs, h, e.imp (s _ _) (s _ _)⟩))
theorem NonS.ty {H : Hp} {v : V} (h : NonS H v) : ∃ t, TyX K H v t ∧ PySem.W.kitOne K t (.type "str") = some false := by
  rcases h with h | ⟨b, h⟩ | ⟨i, h⟩ | ⟨a, xs, h, e | e⟩ <;> subst h
  · exact ⟨_, .base .non, kit_ty (by decide +kernel)⟩
  · exact ⟨_, .base (.bl b), kit_ty (by decide +kernel)⟩
  · exact ⟨_, .base (.int i), kit_ty (by decide +kernel)⟩
  · exact ⟨_, .base (.lst e), kit_ty (by decide +kernel)⟩
  · exact ⟨_, .base (.tup e), kit_ty (by decide +kernel)⟩
def Thing (H : Hp) (v : V) (b : Bool) : Prop := (∃ x : Str, v = .str x ∧ x.length ≤ 900000 ∧ b = textOk x.cps.toList) ∨ (NonS H v ∧ b = false)
theorem Thing.same {H H' : Hp} {v : V} {b : Bool} (s : Same H H') (h : Thing H v b) : Thing H' v b := h.imp id fun h => ⟨h.1.same s, h.2⟩
def sp_is_text : Sp := fun vs H Q _ => ∃ v b, vs = [v] ∧ Thing H v b ∧ ∀ H', Same H H' → Q (.bl b) H'
theorem ok_is_text (T : Facts K mg) : FnG P w K mg base 3 T.f_is_text T.d_is_text ["thing"] sp_is_text := by
  obtain ⟨tR, c_MOST_ROWS⟩ := T.c_MOST_ROWS
  refine fnG_of T.F_is_text sc_is_text (fun vs H Q E h => ?_) (fun cdv A outer s H vs Q hG hr h => ?_)
  · obtain ⟨c, _, rfl, _⟩ := h; rfl
  · obtain ⟨v, b, rfl, hv, q⟩ := h
    refine ⟨_, (pss_cons (ps_if (pt_not (pt_val (pe_callB call_isi (by rfl) T.n_isinstance (by decide +kernel) (pa_cons (pv 0) (pa_cons (pe_bltn (v := .ty "str") (by rfl) T.n_str (by decide +kernel) rfl) pa_nil))))) (pss_one (ps_ret pe_bl)) pss_nil)
        (pss_cons (ps_set (i := 1) sc_is_text.nd rfl (.inl rfl) (pe_go (ok_rows_of T) hG (hr.mono (by decide)) (by rfl) T.g_rows_of T.F_rows_of.kp T.b_rows_of (pa_cons (pv 0) pa_nil)))
        (pss_one (ps_ret (pe_and (pe_cmpR op_le (pe_callB call_len_seq (by rfl) T.n_len PySem.boot_len (pa_cons (pv 1) pa_nil)) (pe_glob (v := .int 24) rfl c_MOST_ROWS ⟨_, rfl⟩) (nomark _)) (pe_one (pe_callB (cr_all rfl) (by rfl) T.n_all (by decide +kernel) (pa_cons (pe_lc (own := [("row", 2)]) rfl sc_is_text.nd (pi_list (pv 1)) (blkOk_by (own := [("row", 2)]) (N := ["thing", "rows", "row"]) (sc := defScope s_is_text) (by decide +kernel)) (fun _ _ _ _ _ => (pg_name (i := 2) sc_is_text.nd rfl (.inl rfl))) (fun _ _ _ _ _ => pts_nil) (fun _ _ _ _ _ => (pe_go (ok_is_row T) hG (hr.mono (by decide)) (by rfl) T.g_is_row T.F_is_row.kp T.b_is_row (pa_cons (pv 2) pa_nil)))) pa_nil)))))))), ?_⟩
    rcases hv with ⟨x, rfl, hx, rfl⟩ | ⟨hn, rfl⟩
    · refine ⟨.str x, rfl, _, .ty "str", _, _, true, rfl, .ty _, .base (.str x), kit_ty (by decide +kernel), true, rfl, iteF ?_⟩
      refine ⟨.str x, rfl, x, rfl, hx, fun p hp => ?_⟩
      have s1 : Same H (upd H p (.lst (txts (lines x.cps.toList)))) := same_new hp
      have hS : SqL K (upd H p (.lst (txts (lines x.cps.toList)))) p (txts (lines x.cps.toList)) := SqL.of upd_same
      generalize upd H p (.lst (txts (lines x.cps.toList))) = H1 at s1 hS ⊢
      walk_at "rd"
      have hmany := lines_many x.cps.toList
      have hl : x.length = x.cps.toList.length := (Array.length_toList).symm
      have htl : (txts (lines x.cps.toList)).length = (lines x.cps.toList).length := List.length_map _
      refine ⟨_, .inl hS, ?_⟩
      rw [htl]
      refine ite2 (fun h => ?_) (fun h => ?_)
      · refine lc_lst (K := K) (xs := txts (lines x.cps.toList)) (fun v => match v with | .str z => .bl (rowOk z.cps.toList) | v => v) (fun R r => ⟨_, rfl, r _ _ (Same.refl _) ⟨p, rfl, hS⟩⟩) (by rw [htl]; omega) (fun y H' hy s2 Qv q1 => ?_) (fun D H' hD s2 e1 => ?_)
        · obtain ⟨l, hl2, rfl⟩ := List.mem_map.mp hy
          have h3 := lines_small hl2
          refine ⟨_, rfl, SX.S l, rfl, by rw [SX.S_len]; omega, q1⟩
        · refine ⟨D, (lines x.cps.toList).map rowOk, rfl, SqL.of ?_, ?_⟩
          · rw [e1]; unfold txts; rw [List.map_map, List.map_map]; rfl
          · have q1 := q H' (s1.trans s2)
            unfold textOk at q1
            rw [h, Bool.true_and] at q1
            rw [List.all_map]
            exact q1
      · have q1 := q H1 s1
        unfold textOk at q1
        rw [Bool.eq_false_iff.mpr h] at q1
        exact q1
    · obtain ⟨t, h1, h2⟩ := hn.ty (K := K)
      exact ⟨v, rfl, _, .ty "str", _, _, false, rfl, .ty _, h1, h2, false, rfl, iteT (q H (Same.refl _))⟩
def signsL : List Nat := (" !\"#$&'()*+,-./0123456789:;<=>?@ABCDEFGHIJKLMNOPQRSTUVWXYZ[\\]^_`abcdefghijklmnopqrstuvwxyz{|}~" : Str).cps.toList
def sp_signs : Sp := fun vs H Q _ => vs = [] ∧ Q (.str (SX.S signsL)) H
theorem ok_L_signs (T : Facts K mg) : FnG P w K mg base 1 T.f_L_signs T.d_L_signs [] sp_signs := by
  refine fnG_of T.F_L_signs sc_L_signs (fun vs H Q E h => ?_) (fun cdv A outer s H vs Q hG hr h => ?_)
  · obtain ⟨rfl, _⟩ := h; rfl
  · obtain ⟨rfl, q⟩ := h
    refine ⟨_, (pss_cons (ps_set (i := 0) sc_L_signs.nd rfl (.inl rfl) pe_str)
        (pss_one (ps_ret (pv 0)))), ?_⟩
    refine ⟨_, rfl, ?_⟩
    unfold signsL at q
    rw [SX.S_tl] at q
    exact q
theorem signs_ok : ∀ c : Nat, decide (c ∈ signsL) = ok1 c := by
  have h1 : ∀ c, c < 128 → decide (c ∈ signsL) = ok1 c := by decide +kernel
  have h2 : ∀ c ∈ signsL, c < 128 := by decide +kernel
  intro c
  by_cases h : c < 128
  · exact h1 c h
  · rw [decide_eq_false fun hc => h (h2 c hc)]
    unfold ok1
    rw [decide_eq_true (show 126 < c by omega)]
    simp
end K01

set_option maxHeartbeats 4000000
namespace K01
open PySem PySem.Spec PyProof.Rows L2 Gx Lx
local macro_rules | `(tactic| walk_at "rd") => `(tactic| simp only [tRet, tAndV, tOrV, tNotV, tChain, tOp, tUn, tCB, tCons, tNil, tVar, tC, tGo, tTup, tLst, tSl, tM1, tM0, tSeq, tAsg, gName, tIfS, tNext, rNe, rEq, rI, rI0, rU, tB, tTest, tNot, tAnd, tOr, tIf, L2.start, wipe, List.map_cons, List.map_nil, List.cons_append, List.nil_append, List.replicate_succ, List.replicate_zero, List.set_cons_zero, List.set_cons_succ, List.getElem?_cons_zero, List.getElem?_cons_succ, List.length_cons, List.length_nil, Option.some.injEq, exists_eq_left', exists_eq_left, V.str.injEq, V.bl.injEq, V.int.injEq, V.ref.injEq, List.cons.injEq, and_true, true_and, exists_and_left, Bool.false_eq_true, if_false, if_true, if_pos])
variable {P : Program} {w : World} {K : PySem.W.Frag} {mg : Str → Option Value} {base : Heap}
theorem joinL_nil (ls : List (List Nat)) : TL.joinL [] ls = ls.flatten := by
  induction ls with
  | nil => rfl
  | cons a t ih =>
    cases t with
    | nil => simp [TL.joinL]
    | cons b r => 
      show a ++ ([] ++ TL.joinL [] (b :: r)) = _
      rw [ih]; simp
theorem textOk_all {ls : List (List Nat)} (h : ∀ r ∈ ls, r.length ≤ 60) : ls.all rowOk = (TL.joinL [] ls).all ok1 := by
  rw [joinL_nil]
  induction ls with
  | nil => rfl
  | cons a t ih =>
    rw [List.all_cons, ih fun r hr => h r (List.mem_cons_of_mem _ hr), List.flatten_cons, List.all_append]
    unfold rowOk
    have := h a (List.mem_cons_self ..)
    rw [decide_eq_true (show ((a.length : Int) ≤ 60) by omega), Bool.true_and]
theorem flat_len (ls : List (List Nat)) : ls.flatten.length + ls.length = (ls.map fun r => r.length + 1).sum := by
  induction ls with
  | nil => rfl
  | cons a t ih => rw [List.flatten_cons, List.length_append, List.map_cons, List.sum_cons, ← ih, List.length_cons]; omega
theorem ok_L_is_text (T : Facts K mg) : FnG P w K mg base 2 T.f_L_is_text T.d_L_is_text ["_law_matter"] sp_is_text := by
  refine fnG_of T.F_L_is_text sc_L_is_text (fun vs H Q E h => ?_) (fun cdv A outer s H vs Q hG hr h => ?_)
  · obtain ⟨c, _, rfl, _⟩ := h; rfl
  · obtain ⟨v, b, rfl, hv, q⟩ := h
    refine ⟨_, (pss_cons (ps_if (pt_not (pt_val (pe_callB call_isi (by rfl) T.n_isinstance (by decide +kernel) (pa_cons (pv 0) (pa_cons (pe_bltn (v := .ty "str") (by rfl) T.n_str (by decide +kernel) rfl) pa_nil))))) (pss_one (ps_ret pe_bl)) pss_nil)
        (pss_cons (ps_asg (pe_tup (pa_cons (pe_split (pv 0) pe_str) (pa_cons (pe_go0 (ok_L_signs T) hG (hr.mono (by decide)) (by rfl) T.g_L_signs T.F_L_signs.kp T.b_L_signs) pa_nil))) (pg_tup rfl (pgs_cons (pg_name (i := 1) sc_L_is_text.nd rfl (.inl rfl)) (pgs_cons (pg_name (i := 2) sc_L_is_text.nd rfl (.inr rfl)) pgs_nil))))
        (pss_cons (ps_if (PW.pt (pw_or (pt_cmpR op_gt (pe_callB call_len_seq (by rfl) T.n_len PySem.boot_len (pa_cons (pv 1) pa_nil)) pe_int (nomark _)) (pw_or1 (pt_cmpR op_gt (pe_callB (cr_max rfl) (by rfl) T.n_max (by decide +kernel) (pa_cons (pe_lc (own := [("_law_line", 4)]) rfl sc_L_is_text.nd (pi_list (pv 1)) (blkOk_by (own := [("_law_line", 4)]) (N := ["_law_matter", "_law_lines", "_law_signs_here", "_law_sign", "_law_line"]) (sc := defScope s_L_is_text) (by decide +kernel)) (fun _ _ _ _ _ => (pg_name (i := 4) sc_L_is_text.nd rfl (.inl rfl))) (fun _ _ _ _ _ => pts_nil) (fun _ _ _ _ _ => (pe_callB call_len_str (by rfl) T.n_len PySem.boot_len (pa_cons (pv 4) pa_nil)))) pa_nil)) pe_int (nomark _))))) (pss_one (ps_ret pe_bl)) pss_nil)
        (pss_one (ps_ret (pe_callB (cr_all rfl) (by rfl) T.n_all (by decide +kernel) (pa_cons (pe_lc (own := [("_law_sign", 3)]) rfl sc_L_is_text.nd (pi_str (pe_join pe_str (pv 1))) (blkOk_by (own := [("_law_sign", 3)]) (N := ["_law_matter", "_law_lines", "_law_signs_here", "_law_sign", "_law_line"]) (sc := defScope s_L_is_text) (by decide +kernel)) (fun _ _ _ _ _ => (pg_name (i := 3) sc_L_is_text.nd rfl (.inl rfl))) (fun _ _ _ _ _ => pts_nil) (fun _ _ _ _ _ => (pe_cmpR op_in_sign (pv 3) (pv 2) rfl))) pa_nil))))))), ?_⟩
    rcases hv with ⟨x, rfl, hx, rfl⟩ | ⟨hn, rfl⟩
    · refine ⟨.str x, rfl, _, .ty "str", _, _, true, rfl, .ty _, .base (.str x), kit_ty (by decide +kernel), true, rfl, iteF ?_⟩
      have hmany := lines_many x.cps.toList
      have hsum := lines_sum x.cps.toList
      have hl : x.length = x.cps.toList.length := (Array.length_toList).symm
      have htl : (txts (lines x.cps.toList)).length = (lines x.cps.toList).length := List.length_map _
      -- both at once
      refine ⟨.str x, rfl, ⟨_, rfl⟩, x, nl, rfl, rfl, rfl, Nat.le_trans (Nat.add_le_add_right hx 2) (by decide), fun p hp => ?_⟩
      rw [split_lines, ← txts_eq]
      refine ⟨rfl, by show 2 ≤ sizeLine; decide, fun t ht => ?_⟩
      refine ⟨t, _, rfl, SqT.of upd_same, rfl, _, _, rfl, _, _, rfl, rfl, ?_⟩
      have s1 : Same H (upd (upd H p (.lst (txts (lines x.cps.toList)))) t (.tup [.ref p, .str (SX.S signsL)])) := (same_new hp).trans (same_new ht)
      have hS : SqL K (upd (upd H p (.lst (txts (lines x.cps.toList)))) t (.tup [.ref p, .str (SX.S signsL)])) p (txts (lines x.cps.toList)) := SqL.of (same_new ht _ _ upd_same)
      generalize upd (upd H p (.lst (txts (lines x.cps.toList)))) t (.tup [.ref p, .str (SX.S signsL)]) = H1 at s1 hS ⊢
      walk_at "rd"
      refine ⟨_, .inl hS, ?_⟩
      rw [htl]
      have q0 := q
      unfold textOk at q0
      refine ite2 (fun h => ?_) (fun h => ?_)
      · have h' := of_decide_eq_true h
        have q1 := q0 H1 s1
        rw [decide_eq_false (show ¬ ((lines x.cps.toList).length : Int) ≤ 24 by omega)] at q1
        exact q1
      · have h' : ((lines x.cps.toList).length : Int) ≤ 24 := by
          have := of_decide_eq_false (Bool.eq_false_iff.mpr h)
          omega
        refine lc_lst (K := K) (xs := txts (lines x.cps.toList)) (fun v => match v with | .str z => .int z.length | v => v) (fun R r => ⟨_, rfl, r _ _ (Same.refl _) ⟨p, rfl, hS⟩⟩) (by rw [htl]; omega) (fun y H' hy s2 Qv q1 => ?_) (fun D H' hD s2 e1 => ?_)
        · obtain ⟨l, hl2, rfl⟩ := List.mem_map.mp hy
          have h3 := lines_small hl2
          have : (1000000 : Nat) ≤ sizeLine := by decide
          refine ⟨_, rfl, SX.S l, rfl, by rw [SX.S_len]; omega, q1 _ (Same.refl _)⟩
        · refine ⟨D, (lines x.cps.toList).map fun (r : List Nat) => (r.length : Int), rfl, SqL.of ?_, ?_, fun m hm hmax => ?_⟩
          · rw [e1]; unfold txts; rw [List.map_map, List.map_map]; rfl
          · rw [List.length_map]; exact lines_len_pos _
          · refine ⟨m, rfl, ite2 (fun h6 => ?_) (fun h6 => ?_)⟩
            · have h6' := of_decide_eq_true h6
              have q1 := q0 H' (s1.trans s2)
              obtain ⟨r, hr1, rfl⟩ := List.mem_map.mp hm
              have : (lines x.cps.toList).all rowOk = false := by
                refine Bool.eq_false_iff.mpr fun hall => ?_
                have h7 := List.all_eq_true.mp hall r hr1
                unfold rowOk at h7
                rw [Bool.and_eq_true] at h7
                have := of_decide_eq_true h7.1
                omega
              rw [this, Bool.and_false] at q1
              exact q1
            · have h60 : ∀ r ∈ lines x.cps.toList, r.length ≤ 60 := fun r hr => by
                have h8 := hmax _ (List.mem_map.mpr ⟨r, hr, rfl⟩)
                have h9 : ¬ ((60 : Int) < m) := fun z => h6 (decide_eq_true z)
                omega
              have hfl := flat_len (lines x.cps.toList)
              rw [hsum] at hfl
              refine lc_text (x := SX.S (TL.joinL [] (lines x.cps.toList))) (fun c => .bl (decide (c ∈ signsL))) (fun R r => ?_) ?_ (fun c H'' hc s3 Qv q1 => ?_) (fun D2 H'' hD2 s3 e2 => ?_)
              · refine ⟨⟨_, rfl⟩, .ref p, rfl, SX.S [], rfl, p, rfl, (lines x.cps.toList).map SX.S, .inl ?_, ?_, ?_⟩
                · rw [← txts_eq]; exact s2.seq hS
                · rw [SX.lens, SX.S_len]
                  have : ((lines x.cps.toList).map (·.length)).sum = (lines x.cps.toList).flatten.length := by rw [List.length_flatten]
                  simp only [List.length_nil, Nat.mul_zero, Nat.add_zero, this]
                  omega
                · rw [SX.join_S]; exact r _ _ (Same.refl _) rfl
              · rw [SX.S_len, joinL_nil]; omega
              · exact ⟨_, rfl, _, rfl, c, rfl, _, rfl, q1 _ (Same.refl _)⟩
              · refine ⟨D2, (TL.joinL [] (lines x.cps.toList)).map fun c => decide (c ∈ signsL), rfl, SqL.of ?_, ?_⟩
                · rw [e2, List.map_map]; rfl
                · have q1 := q0 H'' ((s1.trans s2).trans s3)
                  rw [decide_eq_true h', Bool.true_and, textOk_all h60] at q1
                  rw [List.all_map]
                  have e3 : (TL.joinL [] (lines x.cps.toList)).all (id ∘ fun c => decide (c ∈ signsL)) = (TL.joinL [] (lines x.cps.toList)).all ok1 := by
                    congr 1
                    funext c
                    exact signs_ok c
                  rw [e3]
                  exact q1
    · obtain ⟨t, h1, h2⟩ := hn.ty (K := K)
      exact ⟨v, rfl, _, .ty "str", _, _, false, rfl, .ty _, h1, h2, false, rfl, iteT (q H (Same.refl _))⟩
end K01

set_option maxHeartbeats 4000000
namespace K01
open PySem PySem.Spec PyProof.Rows L2 Gx Lx
local macro_rules | `(tactic| walk_at "rd") => `(tactic| simp only [tRet, tAndV, tOrV, tNotV, tChain, tOp, tUn, tCB, tCons, tNil, tVar, tC, tGo, tTup, tLst, tSl, tM1, tM0, tSeq, tAsg, gName, tIfS, tNext, rNe, rEq, rI, rI0, rU, tB, tTest, tNot, tAnd, tOr, tIf, L2.start, wipe, List.map_cons, List.map_nil, List.cons_append, List.nil_append, List.replicate_succ, List.replicate_zero, List.set_cons_zero, List.set_cons_succ, List.getElem?_cons_zero, List.getElem?_cons_succ, List.length_cons, List.length_nil, Option.some.injEq, exists_eq_left', exists_eq_left, V.str.injEq, V.bl.injEq, V.int.injEq, V.ref.injEq, List.cons.injEq, and_true, true_and, exists_and_left, Bool.false_eq_true, if_false, if_true, if_pos])
variable {P : Program} {w : World} {K : PySem.W.Frag} {mg : Str → Option Value} {base : Heap}
theorem ok_L_spot (T : Facts K mg) : FnG P w K mg base 1 T.f_L_spot T.d_L_spot ["_law_writing", "_law_place"] sp_spot := by
  refine fnG_of T.F_L_spot sc_L_spot (fun vs H Q E h => ?_) (fun cdv A outer s H vs Q hG hr h => ?_)
  · obtain ⟨c, _, rfl, _⟩ := h; rfl
  · obtain ⟨x, n, rfl, hx, hn, q⟩ := h
    refine ⟨_, (pss_cons (ps_asg (pe_tup (pa_cons pe_int (pa_cons pe_int pa_nil))) (pg_tup rfl (pgs_cons (pg_name (i := 2) sc_L_spot.nd rfl (.inl rfl)) (pgs_cons (pg_name (i := 3) sc_L_spot.nd rfl (.inl rfl)) pgs_nil))))
        (pss_cons (ps_for PassesOwn.never rfl (pi_str (pe_slice sl_str (pv 0) po_none (po_some (pv 1)))) (pg_name (i := 4) sc_L_spot.nd rfl (.inl rfl)) (pss_one (ps_par (i := 2) (j := 3) (by rfl) sc_L_spot.nd rfl rfl (by decide) rfl rfl (pa_cons (pe_op op_add (pv 2) (pe_callTy call_int1 (by rfl) T.n_int (by decide +kernel) (pa_cons (pe_cmpR op_eq (pv 4) pe_str (nomark _)) pa_nil))) (pa_cons (pe_op op_mul (pe_op op_add (pv 3) pe_int) (pe_callTy call_int1 (by rfl) T.n_int (by decide +kernel) (pa_cons (pe_cmpR op_ne (pv 4) pe_str (nomark _)) pa_nil))) pa_nil)) (by rfl))))
        (pss_one (ps_ret (pe_tup (pa_cons (pv 2) (pa_cons (pv 3) pa_nil))))))), ?_⟩
    have hc := cutS_to x n
    have hfold := fold_spot0 (x.cps.toList.take n)
    refine ⟨by show 2 ≤ sizeLine; decide, fun t ht => ?_⟩
    refine ⟨t, _, rfl, SqT.of upd_same, rfl, _, _, rfl, _, _, rfl, rfl, ?_⟩
    have s1 : Same H (upd H t (.tup [.int 0, .int 0])) := same_new ht
    generalize upd H t (.tup [.int 0, .int 0]) = H1 at s1 ⊢
    refine ⟨.str x, rfl, .int n, rfl, n, rfl, x, rfl, Nat.le_trans hx (by decide), cutS x none (some n), rfl, ?_⟩
    refine for_it walk_str (fun i σ H' => H' = H1 ∧ ∃ y, σ = [some (.str x), some (.int n), some (.int (((x.cps.toList.take n).take i).foldl spotStep (0, 0)).1), some (.int (((x.cps.toList.take n).take i).foldl spotStep (0, 0)).2), y])
      ⟨rfl, none, rfl⟩ (fun _ _ _ _ _ => trivial) (fun i v σ H2 H3 hi hP hy => ?_) (fun σ H2 hP => ?_)
    · obtain ⟨rfl, y, rfl⟩ := hP
      obtain ⟨rfl, c, hcc, rfl⟩ := hy
      have hcc' : (x.cps.toList.take n)[i]? = some c := by rw [← hc]; simpa using hcc
      have hstep : (x.cps.toList.take n).take (i + 1) = (x.cps.toList.take n).take i ++ [c] := by
        rw [List.take_add_one, hcc']; rfl
      rw [hstep, List.foldl_append, List.foldl_cons, List.foldl_nil]
      generalize ((x.cps.toList.take n).take i).foldl spotStep (0, 0) = st
      have e10 : decide (V.str (SX.S [c]) = V.str nl) = decide (c = 10) := decide_eq_decide.mpr ⟨fun h => by
        injection h with h
        have h2 := SX.S_inj (a := [c]) (b := [10]) h
        injection h2, fun h => by rw [h]; rfl⟩
      refine ⟨_, rfl, _, rfl, rfl, .inr ⟨_, rfl, _, _, rfl, rfl, _, rfl, _, _, rfl, rfl, _, rfl, rfl, .inr ⟨_, rfl, _, _, rfl, rfl, .inr ?_, _, _, rfl, rfl, some (.str (SX.S [c])), ?_⟩⟩⟩
      · cases (!decide (V.str ⟨#[c]⟩ = V.str nl)) <;> decide
      · have e11 : decide (V.str ⟨#[c]⟩ = V.str nl) = decide (c = 10) := e10
        show [_, _, _, _, _] = _
        rw [e11]
        unfold spotStep
        by_cases h : c = 10 <;> simp [h]
    · obtain ⟨rfl, y, rfl⟩ := hP
      have hl : (cutS x none (some (n : Int))).cps.size = (x.cps.toList.take n).length := by rw [← hc, Array.length_toList]
      rw [hl, List.take_length, hfold]
      refine ⟨_, rfl, _, rfl, by show 2 ≤ sizeLine; decide, fun p hp => q p _ (s1.free hp) (s1.trans (same_new hp)) ?_⟩
      rw [upd_same]; rfl
end K01

set_option maxHeartbeats 4000000
namespace K01
open PySem PySem.Spec PyProof.Rows L2 Gx Lx
local macro_rules | `(tactic| walk_at "rd") => `(tactic| simp only [tRet, tAndV, tOrV, tNotV, tChain, tOp, tUn, tCB, tCons, tNil, tVar, tC, tGo, tTup, tLst, tSl, tM1, tM0, tSeq, tAsg, gName, tIfS, tNext, rNe, rEq, rI, rI0, rU, tB, tTest, tNot, tAnd, tOr, tIf, L2.start, wipe, List.map_cons, List.map_nil, List.cons_append, List.nil_append, List.replicate_succ, List.replicate_zero, List.set_cons_zero, List.set_cons_succ, List.getElem?_cons_zero, List.getElem?_cons_succ, List.length_cons, List.length_nil, Option.some.injEq, exists_eq_left', exists_eq_left, V.str.injEq, V.bl.injEq, V.int.injEq, V.ref.injEq, List.cons.injEq, and_true, true_and, exists_and_left, Bool.false_eq_true, if_false, if_true, if_pos])
variable {P : Program} {w : World} {K : PySem.W.Frag} {mg : Str → Option Value} {base : Heap}
theorem ok_L_take (T : Facts K mg) : FnG P w K mg base 1 T.f_L_take T.d_L_take ["_law_box_here", "_law_many"] sp_take := by
  refine fnG_of T.F_L_take sc_L_take (fun vs H Q E h => ?_) (fun cdv A outer s H vs Q hG hr h => ?_)
  · obtain ⟨c, _, rfl, _⟩ := h; rfl
  · obtain ⟨b, n, rfl, ⟨i, j, k, hb⟩, h0, h1, q⟩ := h
    refine ⟨_, (pss_cons (ps_if (pt_cmpR op_gt (pe_ix ix_list (pv 0) pe_int (fun _ _ => rfl)) pe_int (nomark _)) (pss_cons (ps_set (i := 2) sc_L_take.nd rfl (.inl rfl) (pe_op op_mod (pe_ix ix_list (pv 0) pe_int (fun _ _ => rfl)) (pv 1)))
        (pss_cons (ps_asg (pe_op op_fdiv (pe_ix ix_list (pv 0) pe_int (fun _ _ => rfl)) (pv 1)) (pg_sub (pv 0) pe_int set_list))
        (pss_one (ps_ret (pv 2))))) pss_nil)
        (pss_cons (ps_asg (pe_op op_add (pe_ix ix_list (pv 0) pe_int (fun _ _ => rfl)) pe_int) (pg_sub (pv 0) pe_int set_list))
        (pss_cons (ps_set (i := 3) sc_L_take.nd rfl (.inl rfl) (pe_op op_mod (pe_op op_add (pe_ix ix_list (pv 0) pe_int (fun _ _ => rfl)) (pe_op op_mul pe_int (pe_ix ix_list (pv 0) pe_int (fun _ _ => rfl)))) pe_int))
        (pss_cons (ps_set (i := 3) sc_L_take.nd rfl (.inl rfl) (pe_op op_mod (pe_op op_add (pe_op op_add (pe_op op_mul (pv 3) (pv 3)) (pe_op op_mul pe_int (pe_ix ix_list (pv 0) pe_int (fun _ _ => rfl)))) pe_int) pe_int))
        (pss_cons (ps_set (i := 3) sc_L_take.nd rfl (.inl rfl) (pe_op op_mod (pe_op op_add (pe_op op_mul (pv 3) (pe_op op_add (pe_op op_fdiv (pv 3) pe_int) pe_int)) (pe_ix ix_list (pv 0) pe_int (fun _ _ => rfl))) pe_int))
        (pss_one (ps_ret (pe_op op_mod (pe_op op_fdiv (pv 3) pe_int) (pv 1))))))))), ?_⟩
    have at0 : ∀ a b' c : V, atI [a, b', c] 0 = some a := fun a b' c => atI_nat (j := 0) rfl
    have at1 : ∀ a b' c : V, atI [a, b', c] 1 = some b' := fun a b' c => atI_nat (j := 1) rfl
    have at2 : ∀ a b' c : V, atI [a, b', c] 2 = some c := fun a b' c => atI_nat (j := 2) rfl
    have hS : SqL K H b [.int i, .int j, .int k] := SqL.of hb
    refine ⟨.ref b, rfl, b, _, 0, _, rfl, rfl, hS, at0 _ _ _, _, _, rfl, rfl, _, rfl, ite2 (fun hi => ?_) (fun hi => ?_)⟩
    · have hi' : 0 < i := of_decide_eq_true hi
      refine ⟨.ref b, rfl, b, _, 0, _, rfl, rfl, hS, at0 _ _ _, _, rfl, _, _, rfl, rfl, h0, ?_⟩
      refine ⟨.ref b, rfl, b, _, 0, _, rfl, rfl, hS, at0 _ _ _, _, rfl, _, _, rfl, rfl, ⟨h0, h1⟩, ?_⟩
      refine ⟨.ref b, rfl, b, _, 0, 0, rfl, rfl, hb, rfl, ?_⟩
      refine ⟨_, rfl, q _ _ (Int.emod_nonneg _ (by omega)) (Int.emod_lt_of_pos _ h0) ?_⟩
      exact Drawn.set fun a o _ h => h
    · refine ⟨.ref b, rfl, b, _, 2, _, rfl, rfl, hS, at2 _ _ _, _, _, rfl, rfl, ?_⟩
      refine ⟨.ref b, rfl, b, _, 2, 2, rfl, rfl, hb, rfl, ?_⟩
      have hb2 : upd H b (.lst ([V.int i, .int j, .int k].set 2 (.int (k + 1)))) b = some (.lst [.int i, .int j, .int (k + 1)]) := upd_same
      have hd : ∀ a o, a ≠ b → H a = some o → upd H b (.lst ([V.int i, .int j, .int k].set 2 (.int (k + 1)))) a = some o := fun a o n h => by rw [upd_ne n]; exact h
      generalize upd H b (.lst ([V.int i, .int j, .int k].set 2 (.int (k + 1)))) = H1 at hb2 hd ⊢
      have hS1 : SqL K H1 b [.int i, .int j, .int (k + 1)] := SqL.of hb2
      -- mixed
      refine ⟨.ref b, rfl, b, _, 1, _, rfl, rfl, hS1, at1 _ _ _, .ref b, rfl, b, _, 2, _, rfl, rfl, hS1, at2 _ _ _, _, _, rfl, rfl, .inl (by decide), _, _, rfl, rfl, _, _, rfl, rfl, (by decide : (0 : Int) < 2305843009213693951), ?_⟩
      have hm1 := Int.emod_nonneg (j + 1442695040888963407 * (k + 1)) (show (2305843009213693951 : Int) ≠ 0 by decide)
      have hm2 := Int.emod_lt_of_pos (j + 1442695040888963407 * (k + 1)) (show (0 : Int) < 2305843009213693951 by decide)
      dsimp only
      generalize (j + 1442695040888963407 * (k + 1)) % 2305843009213693951 = m at hm1 hm2
      refine ⟨.int m, rfl, .int m, rfl, _, _, rfl, rfl, .inl (by omega), .ref b, rfl, b, _, 2, _, rfl, rfl, hS1, at2 _ _ _, _, _, rfl, rfl, .inl (by decide), _, _, rfl, rfl, _, _, rfl, rfl, _, _, rfl, rfl, (by decide : (0 : Int) < 2305843009213693921), ?_⟩
      have hm3 := Int.emod_nonneg (m * m + 39373 * (k + 1) + 7) (show (2305843009213693921 : Int) ≠ 0 by decide)
      have hm4 := Int.emod_lt_of_pos (m * m + 39373 * (k + 1) + 7) (show (0 : Int) < 2305843009213693921 by decide)
      dsimp only
      generalize (m * m + 39373 * (k + 1) + 7) % 2305843009213693921 = m' at hm3 hm4
      refine ⟨.int m', rfl, .int m', rfl, _, _, rfl, rfl, ⟨by decide, by decide⟩, _, _, rfl, rfl, _, _, rfl, rfl, .inl (by omega), .ref b, rfl, b, _, 2, _, rfl, rfl, hS1, at2 _ _ _, _, _, rfl, rfl, _, _, rfl, rfl, (by decide : (0 : Int) < 2305843009213693907), ?_⟩
      dsimp only
      generalize (m' * (m' / 65536 + 3) + (k + 1)) % 2305843009213693907 = m''
      refine ⟨.int m'', rfl, _, _, rfl, rfl, ⟨by decide, by decide⟩, .int n, rfl, _, _, rfl, rfl, h0, q _ _ (Int.emod_nonneg _ (by omega)) (Int.emod_lt_of_pos _ h0) ⟨⟨_, _, _, hb2⟩, hd⟩⟩
end K01

set_option maxHeartbeats 4000000
namespace K01
open PySem PySem.Spec PyProof.Rows L2 Gx Lx
local macro_rules | `(tactic| walk_at "rd") => `(tactic| simp only [tRet, tAndV, tOrV, tNotV, tChain, tOp, tUn, tCB, tCons, tNil, tVar, tC, tGo, tTup, tLst, tSl, tM1, tM0, tSeq, tAsg, gName, tIfS, tNext, rNe, rEq, rI, rI0, rU, tB, tTest, tNot, tAnd, tOr, tIf, L2.start, wipe, List.map_cons, List.map_nil, List.cons_append, List.nil_append, List.replicate_succ, List.replicate_zero, List.set_cons_zero, List.set_cons_succ, List.getElem?_cons_zero, List.getElem?_cons_succ, List.length_cons, List.length_nil, Option.some.injEq, exists_eq_left', exists_eq_left, V.str.injEq, V.bl.injEq, V.int.injEq, V.ref.injEq, List.cons.injEq, and_true, true_and, exists_and_left, Bool.false_eq_true, if_false, if_true, if_pos])
variable {P : Program} {w : World} {K : PySem.W.Frag} {mg : Str → Option Value} {base : Heap}
/-! ### one of some -/
theorem ok_L_one_of (T : Facts K mg) : FnG P w K mg base 2 T.f_L_one_of T.d_L_one_of ["_law_box_here", "_law_some"] sp_one_of := by
  refine fnG_of T.F_L_one_of sc_L_one_of (fun vs H Q E h => ?_) (fun cdv A outer s H vs Q hG hr h => ?_)
  · obtain ⟨c, _, _, rfl, _⟩ := h; rfl
  · obtain ⟨b, v, ls, rfl, hb, hne, hlen, hv, q⟩ := h
    refine ⟨_, (pss_one (ps_ret (pe_ix ix_seq (pv 1) (pe_go (ok_L_take T) hG (hr.mono (by decide)) (by rfl) T.g_L_take T.F_L_take.kp T.b_L_take (pa_cons (pv 0) (pa_cons (pe_callB call_len (by rfl) T.n_len PySem.boot_len (pa_cons (pv 1) pa_nil)) pa_nil))) (fun _ _ => rfl)))), ?_⟩
    have hpos : 0 < ls.length := List.length_pos_iff.mpr hne
    rcases hv with ⟨a, rfl, ha⟩ | ⟨x, rfl, hx⟩
    · have hab : a ≠ b := fun e => by
        subst e
        obtain ⟨i, j, k, z⟩ := hb
        rw [ha] at z
        cases ls with
        | nil => exact hne rfl
        | cons l r => cases z
      refine ⟨_, rfl, _, rfl, _, rfl, _, ls.length, rfl, .inl ⟨_, SqL.of ha, by unfold txts; rw [List.length_map]⟩, b, _, rfl, hb, by omega, by omega, fun z H' h0 h1 hd => ?_⟩
      have hz : ls[z.toNat]? = some (ls[z.toNat]'(by omega)) := List.getElem?_eq_getElem (by omega)
      refine .inl ⟨a, txts ls, z, _, rfl, rfl, SqL.of (hd.2 _ _ hab ha), at_of (j := z.toNat) (by omega) (by unfold txts; rw [List.getElem?_map, hz]; rfl), q _ _ (List.getElem_mem _) hd⟩
    · have hline : (1000 : Nat) ≤ sizeLine := by decide
      have hxl : x.length = ls.length := by rw [hx, List.length_map, Array.length_toList]; rfl
      refine ⟨_, rfl, _, rfl, _, rfl, _, ls.length, rfl, ⟨by omega, hxl.symm⟩, b, _, rfl, hb, by omega, by omega, fun z H' h0 h1 hd => ?_⟩
      have hz2 : z.toNat < x.cps.toList.length := by rw [Array.length_toList]; show z.toNat < x.length; omega
      obtain ⟨c, hz⟩ : ∃ c, x.cps.toList[z.toNat]? = some c := ⟨_, List.getElem?_eq_getElem hz2⟩
      have ez := atI_nat (j := z.toNat) hz
      rw [show ((z.toNat : Nat) : Int) = z by omega] at ez
      exact .inr (.inr ⟨x, z, c, rfl, rfl, by omega, ez, q [c] _ (by rw [hx]; exact List.mem_map.mpr ⟨_, List.mem_of_getElem? hz, rfl⟩) hd⟩)
/-! ### the box, the cells -/
def sp_box (K : PySem.W.Frag) : Sp := fun vs H Q _ => ∃ (a : Addr) (cs : List Int) (k : Nat), vs = [.ref a, .int (k : Int)] ∧ SqL K H a (cs.map V.int) ∧ k < cs.length ∧ cs.length ≤ 1000 ∧ ∀ p H', H p = none → Same H H' → IsBox H' p → Q (.ref p) H'
theorem ok_L_box (T : Facts K mg) : FnG P w K mg base 1 T.f_L_box T.d_L_box ["_law_cells_here", "_law_k"] (sp_box K) := by
  refine fnG_of T.F_L_box sc_L_box (fun vs H Q E h => ?_) (fun cdv A outer s H vs Q hG hr h => ?_)
  · obtain ⟨c, _, _, rfl, _⟩ := h; rfl
  · obtain ⟨a, cs, k, rfl, hS, hk, hz, q⟩ := h
    refine ⟨_, (pss_cons (ps_set (i := 2) sc_L_box.nd rfl (.inl rfl) (pe_ix ix_list (pv 0) (pv 1) (fun _ _ => rfl)))
        (pss_one (ps_ret (pe_lst (pa_cons (pe_op op_mul (pe_callB call_abs (by rfl) T.n_abs (by decide +kernel) (pa_cons (pv 2) pa_nil)) (pe_callTy call_int1 (by rfl) T.n_int (by decide +kernel) (pa_cons (pe_cmpR op_ge (pe_callB call_abs (by rfl) T.n_abs (by decide +kernel) (pa_cons (pv 2) pa_nil)) (pe_op op_pow pe_int pe_int) (nomark _)) pa_nil))) (pa_cons (pe_op op_add (pe_op op_add (pe_op op_mod (pv 2) pe_int) (pe_op op_mul pe_int (pv 1))) pe_int) (pa_cons pe_int pa_nil))))))), ?_⟩
    have hc : (cs.map V.int)[k]? = some (.int cs[k]) := by rw [List.getElem?_map, List.getElem?_eq_getElem hk]; rfl
    refine ⟨_, rfl, _, rfl, a, _, _, _, rfl, rfl, hS, atI_nat hc, ?_⟩
    generalize cs[k] = c
    refine ⟨.int c, rfl, c, rfl, .int c, rfl, c, rfl, 10, 18, rfl, rfl, ⟨by decide, by decide, by decide⟩, _, _, rfl, rfl, .inr ⟨_, rfl, ?_⟩⟩
    refine ⟨_, _, rfl, rfl, .inr ?_, .int c, rfl, c, _, rfl, rfl, (by decide : (0 : Int) < 2305843009213693951), .int k, rfl, _, _, rfl, rfl, .inl (by decide), _, _, rfl, rfl, _, _, rfl, rfl, ?_⟩
    · exact (by decide : ∀ d : Bool, -(2 : Int) ^ 64 < (if d = true then (1 : Int) else 0) ∧ (if d = true then (1 : Int) else 0) < 2 ^ 64) _
    · refine ⟨by show 3 ≤ sizeLine; decide, fun p hp => q p _ hp (same_new hp) ⟨_, _, _, upd_same⟩⟩
end K01

set_option maxHeartbeats 4000000
namespace K01
open PySem PySem.Spec PyProof.Rows L2 Gx Lx
variable {P : Program} {w : World} {K : PySem.W.Frag} {mg : Str → Option Value} {base : Heap}
def sp_cells (K : PySem.W.Frag) : Sp := fun vs H Q _ => ∃ (a : Addr) (ns : List Int) (u : Nat), vs = [.ref a, .int (u : Int)] ∧ SqL K H a (ns.map V.int) ∧ ns.length ≤ 63 ∧ 0 < u ∧ u ≤ 63 ∧
  ∀ (p : Addr) (cs : List Int) (H' : Hp), 0 < cs.length → cs.length ≤ u → H p = none → Same H H' → H' p = some (.lst (cs.map V.int)) → Q (.ref p) H'
theorem or_cells {ta : TE} {σ : L2.St} {H : Hp} {Q0 : VK} {ns : List Int} {u : Nat} (hu0 : 0 < u)
    (hta : ∀ R : VK, (∀ l H1, H l = none → Same H H1 → H1 l = some (.lst ((ns.take u).map V.int)) → R (.ref l) H1) → ta σ H R)
    (rest : ∀ p H1 (cs : List Int), H p = none → Same H H1 → H1 p = some (.lst (cs.map V.int)) → 0 < cs.length → (u < ns.length → cs.length = u) → cs.length ≤ u → Q0 (.ref p) H1) :
    tOrT K ta (tLst (tCons (tC (.int 0)) tNil)) σ H Q0 := by
  refine hta _ fun l H1 hl s1 e1 => ⟨_, .inl ⟨_, SqL.of e1, rfl⟩, ite2 (fun h => ?_) (fun h => ?_)⟩
  · exact rest l _ (ns.take u) hl s1 e1 (by cases ns with
      | nil => simp at h
      | cons n r => rw [List.length_take, List.length_cons]; omega) (fun h => by rw [List.length_take]; omega) (by rw [List.length_take]; omega)
  · refine ⟨by show 1 ≤ sizeLine; decide, fun p hp => rest p _ [0] (s1.free hp) (s1.trans (same_new hp)) upd_same (by decide) (fun h2 => ?_) (by show 1 ≤ u; omega)⟩
    exfalso
    apply h
    cases ns with
    | nil => simp at h2
    | cons n r => cases u with
      | zero => omega
      | succ u => rfl
theorem ok_L_cells (T : Facts K mg) : FnG P w K mg base 1 T.f_L_cells T.d_L_cells ["_law_script", "_law_utmost"] (sp_cells K) := by
  refine fnG_of T.F_L_cells sc_L_cells (fun vs H Q E h => ?_) (fun cdv A outer s H vs Q hG hr h => ?_)
  · obtain ⟨c, _, _, rfl, _⟩ := h; rfl
  · obtain ⟨a, ns, u, rfl, hS, hz, hu0, hu, q⟩ := h
    refine ⟨_, (pss_cons (ps_set (i := 2) sc_L_cells.nd rfl (.inl rfl) (pe_orT (pe_callTy call_list_of (by rfl) T.n_list (by decide +kernel) (pa_cons (pe_slice sl_list (pv 0) po_none (po_some (pv 1))) pa_nil)) (pe_one (pe_lst (pa_cons pe_int pa_nil)))))
        (pss_cons (ps_for PassesOwn.never rfl (pi_enum (by rfl) T.n_enumerate (pa_cons (pe_slice sl_list (pv 0) (po_some (pv 1)) (po_some pe_int)) pa_nil)) (pg_tup rfl (pgs_cons (pg_name (i := 3) sc_L_cells.nd rfl (.inl rfl)) (pgs_cons (pg_name (i := 4) sc_L_cells.nd rfl (.inl rfl)) pgs_nil))) (pss_one (ps_asg (pe_op op_add (pe_ix ix_list (pv 2) (pe_op op_mod (pv 3) (pv 1)) (fun _ _ => rfl)) (pe_op op_mul (pv 4) (pe_op op_add (pv 3) pe_int))) (pg_sub (pv 2) (pe_op op_mod (pv 3) (pv 1)) set_list))))
        (pss_one (ps_ret (pv 2))))), ?_⟩
    refine or_cells (K := K) (ns := ns) hu0 (fun R r => ?_) (fun p H1 cs hp s1 e1 h0 h2 h3 => ?_)
    · refine ⟨.ref a, rfl, .int u, rfl, u, rfl, a, _, rfl, hS, fun p1 hp1 => ?_⟩
      rw [cutV_to, ← List.map_take]
      exact ⟨p1, _, rfl, .inl (SqL.of upd_same), fun l hl => r l _ ((same_new hp1).free hl) ((same_new hp1).trans (same_new hl)) upd_same⟩
    · have hS1 := s1.seq hS
      refine ⟨.ref a, rfl, .int u, rfl, u, rfl, 63, rfl, a, _, rfl, hS1, fun sl hsl => ?_⟩
      rw [show (63 : Int) = ((63 : Nat) : Int) from rfl, cutV_mid, ← List.map_take, List.take_of_length_le hz, ← List.map_drop]
      have hne : p ≠ sl := ne_of_none e1 hsl
      refine ⟨sl, _, rfl, SqL.of upd_same, ?_⟩
      refine for_it (walk_enum (K := K) (a := sl) (xs := (ns.drop u).map V.int)) (fun i σ H' => ∃ cs' y3 y4, σ = [some (.ref a), some (.int u), some (.ref p), y3, y4] ∧ cs'.length = cs.length ∧ H' p = some (.lst (cs'.map V.int)) ∧ H' sl = some (.lst ((ns.drop u).map V.int)) ∧ Same H H')
        ⟨cs, none, none, rfl, rfl, ?_, upd_same, s1.trans (same_new hsl)⟩ (fun i σ H' _ hP => ?_) (fun i v σ H2 H3 hi hP hy => ?_) (fun σ H2 hP => ?_)
      · rw [upd_ne hne]; exact e1
      · obtain ⟨_, _, _, _, _, _, e, _⟩ := hP; exact SqL.of e
      · obtain ⟨cs', y3, y4, rfl, el, ep, es, sm⟩ := hP
        obtain ⟨t, x, y, rfl, ht, rfl, e3, e4⟩ := hy
        have hi' : i < (ns.drop u).length := by rw [List.length_map] at hi; exact hi
        have ex : x = .int (i : Nat) := (Option.some.inj e3).symm
        have ey : y = .int (ns.drop u)[i] := by
          have e5 : ((ns.drop u).map V.int)[i]? = some y := e4
          rw [List.getElem?_map, List.getElem?_eq_getElem hi'] at e5
          exact (Option.some.inj e5).symm
        subst ex ey
        generalize (ns.drop u)[i] = c
        have hcu : cs'.length = u := by rw [el]; exact h2 (by rw [List.length_drop] at hi'; omega)
        refine ⟨t, _, rfl, SqT.of upd_same, rfl, _, _, rfl, _, _, rfl, rfl, ?_⟩
        have hpt : p ≠ t := ne_of_none ep ht
        have hst : sl ≠ t := ne_of_none es ht
        have ep2 : (upd H2 t (.tup [.int (i : Nat), .int c])) p = some (.lst (cs'.map V.int)) := by rw [upd_ne hpt]; exact ep
        have hm : (((i : Nat) : Int) % ((u : Nat) : Int)) = ((i % u : Nat) : Int) := rfl
        have hlt : i % u < cs'.length := by rw [hcu]; exact Nat.mod_lt _ hu0
        have hget : (cs'.map V.int)[i % u]? = some (.int cs'[i % u]) := by rw [List.getElem?_map, List.getElem?_eq_getElem hlt]; rfl
        have hilt : i < 63 := by rw [List.length_drop] at hi'; omega
        refine ⟨_, rfl, _, rfl, .int u, rfl, _, _, rfl, rfl, (by show (0 : Int) < (u : Int); omega), p, _, _, _, rfl, rfl, SqL.of ep2, atI_nat hget, ?_⟩
        refine ⟨.int c, rfl, .int i, rfl, _, _, rfl, rfl, _, _, rfl, rfl, .inr ⟨by show -(2 : Int) ^ 64 < (i : Int) + 2; omega, by show (i : Int) + 2 < (2 : Int) ^ 64; omega⟩, _, _, rfl, rfl, ?_⟩
        refine ⟨_, rfl, .int i, rfl, .int u, rfl, _, _, rfl, rfl, (by show (0 : Int) < (u : Int); omega), p, _, _, i % u, rfl, rfl, ep2, ?_, ?_⟩
        · show ixN _ (((i : Nat) : Int) % ((u : Nat) : Int)) = _
          rw [hm]
          unfold ixN
          rw [List.length_map, if_pos (by omega), if_pos (by omega), Int.toNat_natCast]
        · refine ⟨cs'.set (i % u) (cs'[i % u] + c * ((i : Int) + 2)), _, _, rfl, by rw [List.length_set]; exact el, ?_, ?_, ?_⟩
          · rw [upd_same, List.map_set]
          · rw [upd_ne (Ne.symm hne), upd_ne hst]; exact es
          · exact same_at (sm.trans (same_new ht)) hp
      · obtain ⟨cs', y3, y4, rfl, el, ep, es, sm⟩ := hP
        exact ⟨_, rfl, q p cs' H2 (by omega) (by omega) hp sm ep⟩
end K01

set_option maxHeartbeats 4000000
namespace K01
open PySem PySem.Spec PyProof.Rows L2 Gx Lx
variable {P : Program} {w : World} {K : PySem.W.Frag} {mg : Str → Option Value} {base : Heap}
def rowGood (l : List Nat) : Prop := l.length ≤ 20 ∧ l.all ok1 = true
def sp_row : Sp := fun vs H Q _ => ∃ b : Addr, vs = [.ref b] ∧ IsBox H b ∧ ∀ l H', rowGood l → Drawn b H H' → Q (.str (SX.S l)) H'
def rowsC : List Str := ["", "let a = 1", "let bc = a + 20", "def f(x num) = x * 2", "take b", "let s = \"place b\"", "a b", "if yes", "]"]
theorem rowsC_good : ∀ l ∈ rowsC.map (fun z => z.cps.toList), rowGood l := by
  unfold rowGood; decide +kernel
def rowS : Str := " ab19=+()\",[]&<*-~!.Z"
theorem rowS_good : ∀ l ∈ rowS.cps.toList.map (fun c => [c]), l.length = 1 ∧ l.all ok1 = true := by decide +kernel
theorem rowGood.take {l : List Nat} (h : rowGood l) (n : Nat) : rowGood (l.take n) := by
  refine ⟨by rw [List.length_take]; have := h.1; omega, ?_⟩
  rw [List.all_eq_true]
  exact fun x hx => List.all_eq_true.mp h.2 x (List.mem_of_mem_take hx)
theorem ok_L_row (T : Facts K mg) : FnG P w K mg base 3 T.f_L_row T.d_L_row ["_law_box_here"] sp_row := by
  refine fnG_of T.F_L_row sc_L_row (fun vs H Q E h => ?_) (fun cdv A outer s H vs Q hG hr h => ?_)
  · obtain ⟨c, rfl, _⟩ := h; rfl
  · obtain ⟨b, rfl, hb, q⟩ := h
    refine ⟨_, (pss_cons (ps_set (i := 1) sc_L_row.nd rfl (.inl rfl) (pe_lst (pa_cons pe_str (pa_cons pe_str (pa_cons pe_str (pa_cons pe_str (pa_cons pe_str (pa_cons pe_str pa_nil))))))))
        (pss_cons (ps_set (i := 1) sc_L_row.nd rfl (.inl rfl) (pe_op op_cat (pv 1) (pe_lst (pa_cons pe_str (pa_cons pe_str (pa_cons pe_str pa_nil))))))
        (pss_cons (ps_par (i := 2) (j := 3) (by rfl) sc_L_row.nd rfl rfl (by decide) rfl rfl (pa_cons (pe_go (ok_L_one_of T) hG (hr.mono (by decide)) (by rfl) T.g_L_one_of T.F_L_one_of.kp T.b_L_one_of (pa_cons (pv 0) (pa_cons (pv 1) pa_nil))) (pa_cons (pe_go (ok_L_take T) hG (hr.mono (by decide)) (by rfl) T.g_L_take T.F_L_take.kp T.b_L_take (pa_cons (pv 0) (pa_cons pe_int pa_nil))) pa_nil)) (by rfl))
        (pss_cons (ps_if (pt_cmpR op_eq (pv 3) pe_int (nomark _)) (pss_one (ps_ret (pe_slice sl_str (pv 2) po_none (po_some (pe_go (ok_L_take T) hG (hr.mono (by decide)) (by rfl) T.g_L_take T.F_L_take.kp T.b_L_take (pa_cons (pv 0) (pa_cons (pe_op op_add (pe_callB call_len_str (by rfl) T.n_len PySem.boot_len (pa_cons (pv 2) pa_nil)) pe_int) pa_nil))))))) pss_nil)
        (pss_cons (ps_if (pt_cmpR op_eq (pv 3) pe_int (nomark _)) (pss_cons (ps_set (i := 4) sc_L_row.nd rfl (.inr rfl) pe_str)
        (pss_one (ps_ret (pe_join pe_str (pe_lc (own := [("_law_k", 5)]) rfl sc_L_row.nd (pi_range1 (by rfl) T.n_range (pa_cons (pe_go (ok_L_take T) hG (hr.mono (by decide)) (by rfl) T.g_L_take T.F_L_take.kp T.b_L_take (pa_cons (pv 0) (pa_cons pe_int pa_nil))) pa_nil)) (blkOk_by (own := [("_law_k", 5)]) (N := ["_law_box_here", "_law_some", "_law_line", "_law_way", "_law_signs_here", "_law_k"]) (sc := defScope s_L_row) (by decide +kernel)) (fun _ _ _ _ _ => (pg_name (i := 5) sc_L_row.nd rfl (.inl rfl))) (fun _ _ _ _ _ => pts_nil) (fun _ _ _ _ _ => (pe_go (ok_L_one_of T) hG (hr.mono (by decide)) (by rfl) T.g_L_one_of T.F_L_one_of.kp T.b_L_one_of (pa_cons (pv 0) (pa_cons (pv 4) pa_nil))))))))) pss_nil)
        (pss_one (ps_ret (pv 2)))))))), ?_⟩
    have hline : (1000 : Nat) ≤ sizeLine := by decide
    refine ⟨by show 6 ≤ sizeLine; decide, fun p1 hp1 => ?_⟩
    refine ⟨_, rfl, by show 3 ≤ sizeLine; decide, fun p2 hp2 => ⟨p1, p2, _, _, rfl, rfl, same_new hp2 _ _ upd_same, upd_same, by show 6 + 3 ≤ sizeLine; decide, fun p3 hp3 => ?_⟩⟩
    generalize hH1 : upd (upd (upd H p1 _) p2 _) p3 _ = H1
    have s1 : Same H H1 := by rw [← hH1]; exact ((same_new hp1).trans (same_new hp2)).trans (same_new hp3)
    have e1 : H1 p3 = some (.lst (txts (rowsC.map fun z => z.cps.toList))) := by rw [← hH1, upd_same, txts_of]; rfl
    clear hH1
    have d1 : Drawn b H H1 := Drawn.of hb s1
    refine ⟨_, rfl, _, rfl, b, _, rowsC.map (fun z => z.cps.toList), rfl, d1.1, by decide, by decide, .inl ⟨p3, rfl, e1⟩, fun l H2 hl d2 => ?_⟩
    have hlg := rowsC_good l hl
    refine ⟨_, rfl, b, 4, rfl, d2.1, by decide, by decide, fun way H3 h0 h1 d3 => ?_⟩
    have d4 := (d1.trans d2).trans d3
    refine ⟨_, _, rfl, ?_⟩
    refine ⟨_, rfl, rfl, _, rfl, ite2 (fun hw => ?_) (fun hw => ?_)⟩
    · refine ⟨_, rfl, _, rfl, _, rfl, SX.S l, rfl, by rw [SX.S_len]; have := hlg.1; omega, _, _, rfl, rfl, b, _, rfl, d3.1, by show (0 : Int) < _ + 1; omega, by show ((SX.S l).length : Int) + 1 < 1073741824; rw [SX.S_len]; have := hlg.1; omega, fun v H4 h2 h3 d5 => ?_⟩
      refine ⟨v, rfl, SX.S l, rfl, by rw [SX.S_len]; have := hlg.1; omega, ?_⟩
      have e := cutS_to (SX.S l) v.toNat
      rw [show ((v.toNat : Nat) : Int) = v by omega] at e
      have q1 := q (l.take v.toNat) H4 (hlg.take _) (d4.trans d5)
      rw [← SX.S_tl (cutS (SX.S l) none (some v)), e]
      exact q1
    · refine ⟨_, rfl, rfl, _, rfl, ite2 (fun hw2 => ?_) (fun hw2 => ?_)⟩
      · refine ⟨⟨_, rfl⟩, ?_⟩
        have eS : V.str rowS = V.str (SX.S rowS.cps.toList) := by rw [SX.S_tl]
        refine lc_drawn (b := b) (j := 5) (vs := [5]) (fun m => m ≤ 8) (fun l => l.length = 1 ∧ l.all ok1 = true) d4.1 (fun m h => by omega) (fun R r => ?_) (fun k H' hb' Qv q1 => ?_) (fun D ls H' h8 hR hD d5 => ?_) (fun x => rfl)
        · exact ⟨_, rfl, b, 9, rfl, d4.1, by decide, by decide, fun v H4 h2 h3 d5 => by
            have e := r H4 v.toNat (by omega) d5
            rw [show ((v.toNat : Nat) : Int) = v by omega] at e
            exact e⟩
        · exact ⟨_, rfl, _, rfl, b, _, rowS.cps.toList.map (fun c => [c]), rfl, hb', by decide +kernel, by decide +kernel, .inr ⟨rowS, rfl, rfl⟩, fun l' H4 hl' d5 => q1 l' H4 (rowS_good l' hl') d5⟩
        · have hfl : ls.flatten.length = ls.length := by
            rw [List.length_flatten]
            have : ∀ ys : List (List Nat), (∀ l ∈ ys, l.length = 1 ∧ l.all ok1 = true) → (ys.map List.length).sum = ys.length := by
              intro ys
              induction ys with
              | nil => exact fun _ => rfl
              | cons y ys ih => exact fun h => by rw [List.map_cons, List.sum_cons, ih fun l hl => h l (List.mem_cons_of_mem _ hl), (h y (List.mem_cons_self ..)).1, List.length_cons]; omega
            exact this ls hR
          refine ⟨SX.S [], D, ls.map SX.S, rfl, rfl, .inl (SqL.of (by rw [← txts_eq]; exact hD)), ?_, ?_⟩
          · rw [SX.lens, SX.S_len, List.length_nil, Nat.mul_zero, Nat.add_zero, ← List.length_flatten, hfl]; omega
          · rw [SX.join_S, joinL_nil]
            refine q ls.flatten H' ⟨by omega, ?_⟩ (d4.trans d5)
            rw [List.all_eq_true]
            intro x hx
            obtain ⟨l', hl', hx'⟩ := List.mem_flatten.mp hx
            exact List.all_eq_true.mp (hR l' hl').2 x hx'
      · exact ⟨_, rfl, q l H3 hlg d4⟩
/-! ### a text -/
def sp_ltext : Sp := fun vs H Q _ => ∃ (b : Addr) (n : Int), vs = [.ref b, .int n] ∧ IsBox H b ∧ 0 < n ∧ n ≤ 24 ∧ ∀ (ls : List (List Nat)) (H' : Hp), 0 < ls.length → ls.length ≤ 24 → (∀ l ∈ ls, rowGood l) → Drawn b H H' → Q (.str (SX.S (TL.joinL [10] ls))) H'
theorem ok_L_text (T : Facts K mg) : FnG P w K mg base 4 T.f_L_text T.d_L_text ["_law_box_here", "_law_many"] sp_ltext := by
  refine fnG_of T.F_L_text sc_L_text (fun vs H Q E h => ?_) (fun cdv A outer s H vs Q hG hr h => ?_)
  · obtain ⟨c, _, rfl, _⟩ := h; rfl
  · obtain ⟨b, n, rfl, hb, h0, h1, q⟩ := h
    refine ⟨_, (pss_one (ps_ret (pe_join pe_str (pe_lc (own := [("_law_k", 2)]) rfl sc_L_text.nd (pi_range1 (by rfl) T.n_range (pa_cons (pe_op op_add pe_int (pe_go (ok_L_take T) hG (hr.mono (by decide)) (by rfl) T.g_L_take T.F_L_take.kp T.b_L_take (pa_cons (pv 0) (pa_cons (pv 1) pa_nil)))) pa_nil)) (blkOk_by (own := [("_law_k", 2)]) (N := ["_law_box_here", "_law_many", "_law_k"]) (sc := defScope s_L_text) (by decide +kernel)) (fun _ _ _ _ _ => (pg_name (i := 2) sc_L_text.nd rfl (.inl rfl))) (fun _ _ _ _ _ => pts_nil) (fun _ _ _ _ _ => (pe_go (ok_L_row T) hG (hr.mono (by decide)) (by rfl) T.g_L_row T.F_L_row.kp T.b_L_row (pa_cons (pv 0) pa_nil))))))), ?_⟩
    refine ⟨⟨_, rfl⟩, ?_⟩
    refine lc_drawn (b := b) (j := 2) (vs := [2]) (fun m => 0 < m ∧ m ≤ 24) rowGood hb (fun m h => by omega) (fun R r => ?_) (fun k H' hb' Qv q1 => ?_) (fun D ls H' h8 hR hD d5 => ?_) (fun x => rfl)
    · exact ⟨_, rfl, _, rfl, b, n, rfl, hb, h0, by omega, fun v H4 h2 h3 d5 => ⟨_, _, rfl, rfl, by
        have e := r H4 (1 + v).toNat (by omega) d5
        rw [show (((1 + v).toNat : Nat) : Int) = 1 + v by omega] at e
        exact e⟩⟩
    · exact ⟨_, rfl, b, rfl, hb', fun l H4 hl d5 => q1 l H4 hl d5⟩
    · refine ⟨nl, D, ls.map SX.S, rfl, rfl, .inl (SqL.of (by rw [← txts_eq]; exact hD)), join_room ?_, ?_⟩
      · have : ∀ ys : List (List Nat), (∀ l ∈ ys, rowGood l) → (ys.map fun l => l.length + 1).sum ≤ 21 * ys.length := by
          intro ys
          induction ys with
          | nil => exact fun _ => Nat.le_refl _
          | cons y ys ih =>
            intro h
            rw [List.map_cons, List.sum_cons, List.length_cons]
            have h3 := ih fun l hl => h l (List.mem_cons_of_mem _ hl)
            have h4 := (h y (List.mem_cons_self ..)).1
            omega
        have := this ls hR
        omega
      · rw [join_S ⟨#[]⟩ ls]
        exact q ls H' h8.1 h8.2 hR d5
end K01

set_option maxHeartbeats 4000000
namespace K01
open PySem PySem.Spec PyProof.Rows L2 Gx Lx
variable {P : Program} {w : World} {K : PySem.W.Frag} {mg : Str → Option Value} {base : Heap}
def sp_others : Sp := fun vs H Q _ => ∃ (b : Addr) (x : Str), vs = [.ref b, .str x] ∧ IsBox H b ∧ x.length ≤ 1000 ∧
  ∀ (p : Addr) (xs : List V) (H' : Hp), H' p = some (.lst xs) → xs.length ≤ 1000 → p ≠ b → (∀ v ∈ xs, ∃ c, Thing H' v c) → Drawn b H H' → Q (.ref p) H'
theorem es_signs {σ : L2.St} {b : Addr} {H : Hp} (hb : IsBox H b) : ES (tGo sp_signs tNil) σ b H 94 := fun R r => ⟨rfl, r _ _ (Drawn.refl hb) (Sh.mk (by rw [SX.S_len]; decide +kernel))⟩
theorem es_oneSign {σ : L2.St} {b : Addr} {H : Hp} {i : Nat} (hb : IsBox H b) (hi : σ[i]? = some (some (.ref b))) : ES (tGo sp_one_of (tCons (tVar i) (tCons (tGo sp_signs tNil) tNil))) σ b H 1 := fun R r =>
  ⟨_, hi, rfl, b, _, signsL.map (fun c => [c]), rfl, hb, by decide +kernel, by decide +kernel, .inr ⟨SX.S signsL, rfl, rfl⟩, fun l H' hl d => r _ _ d (Sh.mk (by
    obtain ⟨c, _, rfl⟩ := List.mem_map.mp hl
    exact Nat.le_refl 1))⟩
theorem flat_le (m : Nat) : ∀ ys : List (List Nat), (∀ l ∈ ys, l.length ≤ m) → (ys.map fun l => l.length + 1).sum ≤ (m + 1) * ys.length
  | [], _ => Nat.zero_le _
  | y :: ys, h => by
    have h3 := flat_le m ys fun l hl => h l (List.mem_cons_of_mem _ hl)
    have h4 := h y (List.mem_cons_self ..)
    rw [List.map_cons, List.sum_cons, List.length_cons, Nat.mul_add, Nat.mul_one]
    omega
theorem joinL_len : ∀ ys : List (List Nat), (TL.joinL [10] ys).length ≤ (ys.map fun l => l.length + 1).sum
  | [] => Nat.le_refl _
  | [y] => by show y.length ≤ _; simp
  | y :: z :: ys => by
    have h := joinL_len (z :: ys)
    show (y ++ ([10] ++ TL.joinL [10] (z :: ys))).length ≤ _
    rw [List.map_cons, List.sum_cons, List.length_append, List.length_append, List.length_singleton]
    omega
/-- "\n".join((lines * 25)[:n]) -/
theorem es_rep {σ : L2.St} {b p1 : Addr} {H : Hp} {i n : Nat} {ls : List (List Nat)} (hb : IsBox H b) (hi : σ[i]? = some (some (.ref p1))) (e1 : H p1 = some (.lst (txts ls))) (hl : ls.length ≤ 1001) (h1 : ∀ l ∈ ls, l.length ≤ 1000) (hn : n ≤ 25) :
    ES (tM1 (fun x xs H Q => ∃ a p, ∃ ys : List Str, x = .str a ∧ xs = [.ref p] ∧ (SqL K H p (ys.map V.str) ∨ SqT K H p (ys.map V.str)) ∧ (ys.map (·.length)).sum + ys.length * a.length ≤ 16777216 ∧ Q (.str (Txt.join a ys)) H)
      (tC (.str nl)) (tSl (rSlL K) (tOp rRep (tVar i) (tC (.int 25))) tNoPart (tPart (tC (.int (n : Int)))))) σ b H 100000 := fun R r => by
  have hm : (1000000 : Nat) ≤ sizeLine := by decide
  have htl : (txts ls).length = ls.length := List.length_map _
  refine ⟨⟨_, rfl⟩, _, hi, p1, 25, _, rfl, rfl, e1, by decide, by decide, by rw [htl]; show ls.length * 25 ≤ _; omega, fun p2 hp2 => ?_⟩
  refine ⟨(n : Int), rfl, p2, _, rfl, SqL.of upd_same, fun p3 hp3 => ?_⟩
  rw [cutV_to]
  have d3 : Drawn b H (upd (upd H p2 (.lst (List.replicate (25 : Int).toNat (txts ls)).flatten)) p3 (.lst ((List.replicate (25 : Int).toNat (txts ls)).flatten.take n))) := ((Drawn.refl hb).new hp2).new hp3
  have ey : (List.replicate (25 : Int).toNat (txts ls)).flatten.take n = (((List.replicate 25 ls).flatten.take n).map SX.S).map V.str := by
    rw [← txts_eq]
    unfold txts
    rw [List.map_take, List.map_flatten, List.map_replicate]; rfl
  have hY : ∀ l ∈ (List.replicate 25 ls).flatten.take n, l.length ≤ 1000 := fun l hl => by
    obtain ⟨y, hy, hly⟩ := List.mem_flatten.mp (List.mem_of_mem_take hl)
    rw [(List.mem_replicate.mp hy).2] at hly
    exact h1 l hly
  have hlen : ((List.replicate 25 ls).flatten.take n).length ≤ 25 := by rw [List.length_take]; omega
  have hs := flat_le 1000 _ hY
  have hs2 := Nat.mul_le_mul_left 1001 hlen
  have hs3 := joinL_len ((List.replicate 25 ls).flatten.take n)
  rw [ey] at d3 ⊢
  refine ⟨nl, p3, ((List.replicate 25 ls).flatten.take n).map SX.S, rfl, rfl, .inl (SqL.of upd_same), join_room (by omega), r _ _ d3 ?_⟩
  rw [join_S ⟨#[]⟩]
  exact Sh.mk (by rw [SX.S_len]; omega)
theorem ok_L_others (T : Facts K mg) : FnG P w K mg base 3 T.f_L_others T.d_L_others ["_law_box_here", "_law_writing"] sp_others := by
  refine fnG_of T.F_L_others sc_L_others (fun vs H Q E h => ?_) (fun cdv A outer s H vs Q hG hr h => ?_)
  · obtain ⟨c, _, rfl, _⟩ := h; rfl
  · obtain ⟨b, x, rfl, hb, hx, q⟩ := h
    refine ⟨_, (pss_cons (ps_asg (pe_tup (pa_cons (pe_split (pv 1) pe_str) (pa_cons (pe_go (ok_L_take T) hG (hr.mono (by decide)) (by rfl) T.g_L_take T.F_L_take.kp T.b_L_take (pa_cons (pv 0) (pa_cons (pe_op op_add (pe_callB call_len_str (by rfl) T.n_len PySem.boot_len (pa_cons (pv 1) pa_nil)) pe_int) pa_nil))) pa_nil))) (pg_tup rfl (pgs_cons (pg_name (i := 2) sc_L_others.nd rfl (.inl rfl)) (pgs_cons (pg_name (i := 3) sc_L_others.nd rfl (.inr rfl)) pgs_nil))))
        (pss_cons (ps_set (i := 4) sc_L_others.nd rfl (.inl rfl) (pe_lst (pa_cons pe_str (pa_cons pe_str (pa_cons pe_str (pa_cons pe_str (pa_cons pe_str (pa_cons pe_str pa_nil))))))))
        (pss_cons (ps_set (i := 4) sc_L_others.nd rfl (.inl rfl) (pe_op op_cat (pv 4) (pe_lst (pa_cons (pe_slice sl_str (pe_go0 (ok_L_signs T) hG (hr.mono (by decide)) (by rfl) T.g_L_signs T.F_L_signs.kp T.b_L_signs) po_none (po_some pe_int)) (pa_cons (pe_slice sl_str (pe_go0 (ok_L_signs T) hG (hr.mono (by decide)) (by rfl) T.g_L_signs T.F_L_signs.kp T.b_L_signs) (po_some pe_int) po_none) (pa_cons (pe_go (ok_L_one_of T) hG (hr.mono (by decide)) (by rfl) T.g_L_one_of T.F_L_one_of.kp T.b_L_one_of (pa_cons (pv 0) (pa_cons (pe_go0 (ok_L_signs T) hG (hr.mono (by decide)) (by rfl) T.g_L_signs T.F_L_signs.kp T.b_L_signs) pa_nil))) pa_nil))))))
        (pss_cons (ps_set (i := 5) sc_L_others.nd rfl (.inl rfl) (pe_op op_cat (pe_lc (own := [("_law_sign", 6)]) rfl sc_L_others.nd (pi_list (pv 4)) (blkOk_by (own := [("_law_sign", 6)]) (N := ["_law_box_here", "_law_writing", "_law_lines", "_law_place", "_law_signs_here", "_law_some", "_law_sign"]) (sc := defScope s_L_others) (by decide +kernel)) (fun _ _ _ _ _ => (pg_name (i := 6) sc_L_others.nd rfl (.inl rfl))) (fun _ _ _ _ _ => pts_nil) (fun _ _ _ _ _ => (pe_op op_add_str (pe_op op_add_str (pe_slice sl_str (pv 1) po_none (po_some (pv 3))) (pv 6)) (pe_slice sl_str (pv 1) (po_some (pv 3)) po_none)))) (pe_lst (pa_cons (pe_slice sl_str (pe_go0 (ok_L_signs T) hG (hr.mono (by decide)) (by rfl) T.g_L_signs T.F_L_signs.kp T.b_L_signs) po_none (po_some pe_int)) (pa_cons (pe_slice sl_str (pe_go0 (ok_L_signs T) hG (hr.mono (by decide)) (by rfl) T.g_L_signs T.F_L_signs.kp T.b_L_signs) (po_some pe_int) po_none) pa_nil)))))
        (pss_cons (ps_set (i := 5) sc_L_others.nd rfl (.inl rfl) (pe_op op_cat (pv 5) (pe_lst (pa_cons (pe_join pe_str (pe_slice sl_list (pe_op op_rep (pv 2) pe_int) po_none (po_some pe_int))) (pa_cons (pe_join pe_str (pe_slice sl_list (pe_op op_rep (pv 2) pe_int) po_none (po_some pe_int))) (pa_cons (pe_op op_mulS pe_str pe_int) (pa_cons (pe_op op_mulS pe_str pe_int) pa_nil)))))))
        (pss_cons (ps_set (i := 5) sc_L_others.nd rfl (.inl rfl) (pe_op op_cat (pv 5) (pe_lst (pa_cons (pe_op op_add_str (pe_op op_add_str (pv 1) pe_str) (pe_op op_mulS pe_str pe_int)) (pa_cons (pe_op op_add_str (pe_op op_add_str (pv 1) pe_str) (pe_op op_mulS pe_str pe_int)) (pa_cons (pe_op op_mulS pe_str pe_int) (pa_cons (pe_op op_mulS pe_str pe_int) (pa_cons pe_str (pa_cons pe_str pa_nil)))))))))
        (pss_cons (ps_set (i := 5) sc_L_others.nd rfl (.inl rfl) (pe_op op_cat (pv 5) (pe_lst (pa_cons pe_str (pa_cons (pe_op op_add_str (pe_op op_mulS pe_str pe_int) pe_str) pa_nil)))))
        (pss_one (ps_ret (pe_op op_cat (pv 5) (pe_lst (pa_cons pe_non (pa_cons pe_bl (pa_cons pe_int (pa_cons (pe_tup (pa_cons (pv 1) pa_nil)) (pa_cons (pe_lst (pa_cons (pv 1) pa_nil)) (pa_cons (pv 2) (pa_cons (pe_callTy call_tuple_of (by rfl) T.n_tuple (by decide +kernel) (pa_cons (pv 2) pa_nil)) pa_nil)))))))))))))))))), ?_⟩
    have hline : (900000 : Nat) ≤ sizeLine := by decide
    have hmany := lines_many x.cps.toList
    have hl : x.length = x.cps.toList.length := (Array.length_toList).symm
    have hsm : ∀ l ∈ lines x.cps.toList, l.length ≤ 1000 := fun l h => by have := lines_small h; omega
    -- lines, place
    refine ⟨.str x, rfl, ⟨_, rfl⟩, x, nl, rfl, rfl, rfl, by omega, fun p1 hp1 => ?_⟩
    rw [split_lines, ← txts_eq]
    have hp1b : p1 ≠ b := (Drawn.refl hb).nb hp1
    have d1 : Drawn b H (upd H p1 (.lst (txts (lines x.cps.toList)))) := (Drawn.refl hb).new hp1
    have e1 : (upd H p1 (.lst (txts (lines x.cps.toList)))) p1 = some (.lst (txts (lines x.cps.toList))) := upd_same
    generalize upd H p1 (.lst (txts (lines x.cps.toList))) = H1 at d1 e1 ⊢
    refine ⟨_, rfl, _, rfl, x, rfl, by omega, _, _, rfl, rfl, b, _, rfl, d1.1, by show (0 : Int) < _ + 1; omega, by show (x.length : Int) + 1 < 1073741824; omega, fun pl H2 hpl0 hpl1 d2 => ?_⟩
    refine ⟨by show 2 ≤ sizeLine; decide, fun t ht => ⟨t, _, rfl, SqT.of upd_same, rfl, _, _, rfl, _, _, rfl, rfl, ?_⟩⟩
    have d4 : Drawn b H (upd H2 t (.tup [.ref p1, .int pl])) := (d1.trans d2).new ht
    have e4 := same_new (o := .tup [.ref p1, .int pl]) ht _ _ (d2.2 _ _ hp1b e1)
    generalize upd H2 t (.tup [.ref p1, .int pl]) = H4 at d4 e4 ⊢
    have sx : Sh 1000 (.str x) := Sh.mk hx
    -- the signs
    refine st_setL (b := b) (n := 6) (m := 94) (el_lst (by decide) (ea_cons (es_c d4.1 (by decide)) fun _ d => ea_cons (es_c d.1 (by decide)) fun _ d => ea_cons (es_c d.1 (by decide)) fun _ d => ea_cons (es_c d.1 (by decide)) fun _ d => ea_cons (es_c d.1 (by decide)) fun _ d => ea_cons (es_c d.1 (by decide)) fun _ d => ea_nil d.1)) fun p5 H5 d5 n5 s5 => ?_
    refine st_setL (b := b) (n := 9) (m := 94) (el_cat (n1 := 6) (n2 := 3) (by decide) (el_var d5.1 rfl n5 s5) fun _ da => el_lst (by decide) (ea_cons (es_slice (by decide) (es_signs da.1) (fun _ d => eo_none d.1) (fun _ d => eo_int d.1)) fun _ d => ea_cons (es_slice (by decide) (es_signs d.1) (fun _ d => eo_int d.1) (fun _ d => eo_none d.1)) fun _ d => ea_cons ((es_oneSign d.1 rfl).mono (by decide)) fun _ d => ea_nil d.1)) fun p6 H6 d6 n6 s6 => ?_
    refine st_setL (b := b) (n := 11) (m := 100000) (el_cat (n1 := 9) (n2 := 2) (by decide) (el_comp (m1 := 94) (by decide) d6.1 (el_var d6.1 rfl n6 s6) (fun y _ d hy => ES.mono (es_add (m1 := 1094) (m2 := 1000) (by decide) (es_add (m1 := 1000) (m2 := 94) (by decide)
        (es_slice (by decide) (es_var d.1 rfl sx) (fun _ d => eo_none d.1) (fun _ d => eo_var (i := pl) d.1 rfl)) (fun _ d => es_var d.1 rfl hy)) (fun _ d => es_slice (by decide) (es_var d.1 rfl sx) (fun _ d => eo_var (i := pl) d.1 rfl) (fun _ d => eo_none d.1))) (by decide)))
      fun _ d => el_lst (by decide) (ea_cons (ES.mono (es_slice (by decide) (es_signs d.1) (fun _ d => eo_none d.1) (fun _ d => eo_int d.1)) (by decide)) fun _ d => ea_cons (ES.mono (es_slice (by decide) (es_signs d.1) (fun _ d => eo_int d.1) (fun _ d => eo_none d.1)) (by decide)) fun _ d => ea_nil d.1)) fun p7 H7 d7 n7 s7 => ?_
    have e7 : H7 p1 = some (.lst (txts (lines x.cps.toList))) := d7.2 _ _ hp1b (d6.2 _ _ hp1b (d5.2 _ _ hp1b e4))
    have hml : (lines x.cps.toList).length ≤ 1001 := by omega
    refine st_setL (b := b) (n := 15) (m := 100000) (el_cat (n1 := 11) (n2 := 4) (by decide) (el_var d7.1 rfl n7 s7)
      fun _ da => el_lst (by decide) (ea_cons (es_rep (n := 24) da.1 rfl (da.2 _ _ hp1b e7) hml hsm (by decide)) fun _ db => ea_cons (es_rep (n := 25) db.1 rfl (db.2 _ _ hp1b (da.2 _ _ hp1b e7)) hml hsm (by decide)) fun _ d => ea_cons (ES.mono (es_times (m := 1) (by decide) (by decide) (es_c d.1 (by decide))) (by decide)) fun _ d => ea_cons (ES.mono (es_times (m := 1) (by decide) (by decide) (es_c d.1 (by decide))) (by decide)) fun _ d => ea_nil d.1)) fun p8 H8 d8 n8 s8 => ?_
    refine st_setL (b := b) (n := 21) (m := 100000) (el_cat (n1 := 15) (n2 := 6) (by decide) (el_var d8.1 rfl n8 s8)
      fun _ d => el_lst (by decide) (ea_cons (ES.mono (es_add (m1 := 1001) (by decide) (es_add (m1 := 1000) (m2 := 1) (by decide) (es_var d.1 rfl sx) (fun _ d => es_c d.1 (by decide))) (fun _ d => es_times (m := 1) (by decide) (by decide) (es_c d.1 (by decide)))) (by decide))
        fun _ d => ea_cons (ES.mono (es_add (m1 := 1001) (by decide) (es_add (m1 := 1000) (m2 := 1) (by decide) (es_var d.1 rfl sx) (fun _ d => es_c d.1 (by decide))) (fun _ d => es_times (m := 1) (by decide) (by decide) (es_c d.1 (by decide)))) (by decide))
        fun _ d => ea_cons (ES.mono (es_times (m := 1) (by decide) (by decide) (es_c d.1 (by decide))) (by decide)) fun _ d => ea_cons (ES.mono (es_times (m := 1) (by decide) (by decide) (es_c d.1 (by decide))) (by decide)) fun _ d => ea_cons (es_c d.1 (by decide)) fun _ d => ea_cons (es_c d.1 (by decide)) fun _ d => ea_nil d.1)) fun p9 H9 d9 n9 s9 => ?_
    refine st_setL (b := b) (n := 23) (m := 100000) (el_cat (n1 := 21) (n2 := 2) (by decide) (el_var d9.1 rfl n9 s9)
      fun _ d => el_lst (by decide) (ea_cons (es_c d.1 (by decide)) fun _ d => ea_cons (ES.mono (es_add (m1 := 61) (m2 := 1) (by decide) (ES.mono (es_times (m := 1) (by decide) (by decide) (es_c d.1 (by decide))) (by decide)) (fun _ d => es_c d.1 (by decide))) (by decide)) fun _ d => ea_nil d.1)) fun pa Ha da na sa => ?_
    have ea : Ha p1 = some (.lst (txts (lines x.cps.toList))) := da.2 _ _ hp1b (d9.2 _ _ hp1b (d8.2 _ _ hp1b e7))
    have dA : Drawn b H Ha := (((((d4.trans d5).trans d6).trans d7).trans d8).trans d9).trans da
    obtain ⟨xs, ex, lx, hxs⟩ := sa
    -- the things that are no texts
    refine ⟨_, rfl, ?_⟩
    refine ⟨_, rfl, by show 1 ≤ sizeLine; decide, fun t1 ht1 => ?_⟩
    refine ⟨_, rfl, by show 1 ≤ sizeLine; decide, fun t2 ht2 => ?_⟩
    have s2 : Same Ha (upd (upd Ha t1 (.tup [.str x])) t2 (.lst [.str x])) := (same_new ht1).trans (same_new ht2)
    have f1 := same_new (o := .lst [.str x]) ht2 t1 (.tup [.str x]) upd_same
    have f2 : (upd (upd Ha t1 (.tup [.str x])) t2 (.lst [.str x])) t2 = some (.lst [.str x]) := upd_same
    generalize upd (upd Ha t1 (.tup [.str x])) t2 (.lst [.str x]) = Hb at s2 f1 f2 ⊢
    refine ⟨_, rfl, _, rfl, p1, _, rfl, .inl ⟨SqL.of (s2 _ _ ea), fun t3 ht3 => ?_⟩⟩
    have s3 := same_new (o := .tup (txts (lines x.cps.toList))) ht3
    have f3 : (upd Hb t3 (.tup (txts (lines x.cps.toList)))) t3 = some (.tup (txts (lines x.cps.toList))) := upd_same
    generalize upd Hb t3 (.tup (txts (lines x.cps.toList))) = Hc at s3 f3 ⊢
    refine ⟨by show 7 ≤ sizeLine; decide, fun t4 ht4 => ?_⟩
    have n4 := same_new (o := .lst [.non, .bl true, .int 0, .ref t1, .ref t2, .ref p1, .ref t3]) ht4
    have s4 := (s2.trans s3).trans n4
    refine ⟨pa, t4, xs, _, rfl, rfl, s4 _ _ ex, upd_same, by show xs.length + 7 ≤ sizeLine; omega, fun t5 ht5 => ?_⟩
    have n5' := same_new (o := .lst (xs ++ [.non, .bl true, .int 0, .ref t1, .ref t2, .ref p1, .ref t3])) ht5
    have s5' := s4.trans n5'
    have dE : Drawn b Ha _ := Drawn.of dA.1 s5'
    refine q t5 _ _ upd_same (by rw [List.length_append]; show xs.length + 7 ≤ 1000; omega) ((Drawn.of dA.1 s4).nb ht5) (fun v hv => ?_) (dA.trans dE)
    have g1 := ((s3.trans n4).trans n5') _ _ f1
    have g2 := ((s3.trans n4).trans n5') _ _ f2
    have g3 := (n4.trans n5') _ _ f3
    have g4 := s5' _ _ ea
    rcases List.mem_append.mp hv with hv | hv
    · obtain ⟨z, rfl, hz⟩ := hxs v hv
      exact ⟨_, .inl ⟨z, rfl, by omega, rfl⟩⟩
    · simp only [List.mem_cons, List.not_mem_nil, or_false] at hv
      rcases hv with rfl | rfl | rfl | rfl | rfl | rfl | rfl
      · exact ⟨false, .inr ⟨.inl rfl, rfl⟩⟩
      · exact ⟨false, .inr ⟨.inr (.inl ⟨_, rfl⟩), rfl⟩⟩
      · exact ⟨false, .inr ⟨.inr (.inr (.inl ⟨_, rfl⟩)), rfl⟩⟩
      · exact ⟨false, .inr ⟨.inr (.inr (.inr ⟨_, _, rfl, .inr g1⟩)), rfl⟩⟩
      · exact ⟨false, .inr ⟨.inr (.inr (.inr ⟨_, _, rfl, .inl g2⟩)), rfl⟩⟩
      · exact ⟨false, .inr ⟨.inr (.inr (.inr ⟨_, _, rfl, .inl g4⟩)), rfl⟩⟩
      · exact ⟨false, .inr ⟨.inr (.inr (.inr ⟨_, _, rfl, .inr g3⟩)), rfl⟩⟩
end K01

set_option maxHeartbeats 4000000
namespace K01
open PySem PySem.Spec PyProof.Rows L2 Gx Lx
variable {P : Program} {w : World} {K : PySem.W.Frag} {mg : Str → Option Value} {base : Heap}
/-! ### what is known of a drawn text -/
theorem rowGood.no10 {l : List Nat} (h : rowGood l) : 10 ∉ l := fun hc => by
  have := List.all_eq_true.mp h.2 10 hc
  revert this; decide
theorem ok1_lt {c : Nat} (h : ok1 c = true) : c < 1114112 := by
  unfold ok1 at h
  rw [Bool.and_eq_true, Bool.and_eq_true, Bool.not_eq_true', Bool.not_eq_true'] at h
  have := of_decide_eq_false h.1.2
  omega
theorem rowGood.ok {l : List Nat} (h : rowGood l) : rowOk l = true := by
  unfold rowOk
  rw [decide_eq_true (show ((l.length : Int) ≤ 60) by have := h.1; omega), h.2]; rfl
structure Wr (ls : List (List Nat)) (x : Str) : Prop where
  tl : x.cps.toList = TL.joinL [10] ls
  ln : lines x.cps.toList = ls
  many : 0 < ls.length ∧ ls.length ≤ 24
  good : ∀ l ∈ ls, rowGood l
  short : x.length ≤ 520
theorem wr_of {ls : List (List Nat)} (h0 : 0 < ls.length) (h1 : ls.length ≤ 24) (h : ∀ l ∈ ls, rowGood l) : Wr ls (SX.S (TL.joinL [10] ls)) := by
  refine ⟨rfl, lines_join (List.length_pos_iff.mp h0) fun r hr => (h r hr).no10, ⟨h0, h1⟩, h, ?_⟩
  rw [SX.S_len]
  have h2 := joinL_len ls
  have h3 := flat_le 20 ls fun l hl => (h l hl).1
  have h4 := Nat.mul_le_mul_left 21 h1
  omega
theorem Wr.textOk {ls : List (List Nat)} {x : Str} (h : Wr ls x) : textOk x.cps.toList = true := by
  unfold K01.textOk
  rw [h.ln, decide_eq_true (show ((ls.length : Int) ≤ 24) by have := h.many.2; omega), Bool.true_and, List.all_eq_true]
  exact fun l hl => (h.good l hl).ok
theorem Wr.cps {ls : List (List Nat)} {x : Str} (h : Wr ls x) : ∀ l ∈ ls, ∀ c ∈ l, c < 1114112 := fun l hl c hc => ok1_lt (List.all_eq_true.mp (h.good l hl).2 c hc)
theorem spot_small {l : List Nat} (h : l.length ≤ 100000) : Lt64 (spotOf l).1 ∧ Lt64 (spotOf l).2 := by
  have h1 := lines_many l
  have h2 : ((lines l).getLastD []).length ≤ l.length := by
    refine lines_small ?_
    have := lines_last l
    rw [this]
    exact List.mem_append_right _ (List.mem_singleton.mpr (by rw [← this]))
  have lg : ∀ n : Nat, n ≤ 200000 → n.log2 < 64 := fun n hn => by
    by_cases h0 : n = 0
    · subst h0; decide
    · exact (Nat.log2_lt h0).mpr (by omega)
  unfold Lt64 spotOf
  exact ⟨lg _ (by rw [Int.natAbs_natCast]; omega), lg _ (by rw [Int.natAbs_natCast]; omega)⟩
def sp_right : Sp := fun vs H Q _ => ∃ b : Addr, vs = [.ref b] ∧ IsBox H b ∧ ∀ H', Drawn b H H' → Q (.bl true) H'
theorem ok_L_right (T : Facts K mg) : FnG P w K mg base 5 T.f_L_right T.d_L_right ["_law_box_here"] sp_right := by
  obtain ⟨tR, c_MOST_ROWS⟩ := T.c_MOST_ROWS
  obtain ⟨tS, c_MOST_SIGNS⟩ := T.c_MOST_SIGNS
  refine fnG_of T.F_L_right sc_L_right (fun vs H Q E h => ?_) (fun cdv A outer s H vs Q hG hr h => ?_)
  · obtain ⟨c, rfl, _⟩ := h; rfl
  · obtain ⟨b, rfl, hb, q⟩ := h
    refine ⟨_, (pss_cons (ps_if (pt_cmpR (op_neD hr.units) (pe_lst (pa_cons (pe_glob (v := .int 24) rfl c_MOST_ROWS ⟨_, rfl⟩) (pa_cons (pe_glob (v := .int 60) rfl c_MOST_SIGNS ⟨_, rfl⟩) pa_nil))) (pe_lst (pa_cons pe_int (pa_cons pe_int pa_nil))) (nomark _)) (pss_one (ps_ret pe_bl)) pss_nil)
        (pss_cons (ps_for PassesOwn.never rfl (pi_range1 (by rfl) T.n_range (pa_cons pe_int pa_nil)) (pg_name (i := 1) sc_L_right.nd rfl (.inl rfl)) (pss_cons (ps_set (i := 2) sc_L_right.nd rfl (.inl rfl) (pe_go (ok_L_text T) hG (hr.mono (by decide)) (by rfl) T.g_L_text T.F_L_text.kp T.b_L_text (pa_cons (pv 0) (pa_cons (pe_ix ix_list (pe_lst (pa_cons pe_int (pa_cons pe_int pa_nil))) (pe_go (ok_L_take T) hG (hr.mono (by decide)) (by rfl) T.g_L_take T.F_L_take.kp T.b_L_take (pa_cons (pv 0) (pa_cons pe_int pa_nil))) (fun _ _ => rfl)) pa_nil))))
        (pss_cons (ps_set (i := 3) sc_L_right.nd rfl (.inl rfl) (pe_go (ok_rows_of T) hG (hr.mono (by decide)) (by rfl) T.g_rows_of T.F_rows_of.kp T.b_rows_of (pa_cons (pv 2) pa_nil)))
        (pss_cons (ps_if (PW.pt (pw_or (pt_cmpR (op_neD hr.units) (pv 3) (pe_split (pv 2) pe_str) (nomark _)) (pw_or (pt_cmpR op_ne (pe_go (ok_text_of T) hG (hr.mono (by decide)) (by rfl) T.g_text_of T.F_text_of.kp T.b_text_of (pa_cons (pv 3) pa_nil)) (pv 2) (nomark _)) (pw_or1 (pt_cmpR op_ne (pe_goK0 (ok_text_of T) hG (hr.mono (by decide)) (by rfl) T.g_text_of T.F_text_of.kp (kb_text_of_0_rows T) (pk_cons (pe_callTy call_tuple_of (by rfl) T.n_tuple (by decide +kernel) (pa_cons (pv 3) pa_nil)) pk_nil)) (pv 2) (nomark _)))))) (pss_one (ps_ret pe_bl)) pss_nil)
        (pss_cons (ps_expr (pe_bm PySem.F.plainAttrs_list PySem.F.slot_list_append PySem.F.type_list_append mt_append (pv 3) (pa_cons pe_str pa_nil)))
        (pss_cons (ps_if (PW.pt (pw_or (pt_cmpR (op_neD hr.units) (pe_goK0 (ok_rows_of T) hG (hr.mono (by decide)) (by rfl) T.g_rows_of T.F_rows_of.kp (kb_rows_of_0_text T) (pk_cons (pv 2) pk_nil)) (pe_split (pv 2) pe_str) (nomark _)) (pw_or1 (pt_cmpR op_notBl (pe_goK0 (ok_is_text T) hG (hr.mono (by decide)) (by rfl) T.g_is_text T.F_is_text.kp (kb_is_text_0_thing T) (pk_cons (pv 2) pk_nil)) pe_bl (nomark _))))) (pss_one (ps_ret pe_bl)) pss_nil)
        (pss_cons (ps_for PassesOwn.never rfl (pi_range3 (by rfl) T.n_range (pa_cons pe_int (pa_cons (pe_op op_add (pe_callB call_len_str (by rfl) T.n_len PySem.boot_len (pa_cons (pv 2) pa_nil)) pe_int) (pa_cons (pe_op op_add pe_int (pe_op op_fdiv (pe_callB call_len_str (by rfl) T.n_len PySem.boot_len (pa_cons (pv 2) pa_nil)) pe_int)) pa_nil)))) (pg_name (i := 4) sc_L_right.nd rfl (.inl rfl)) (pss_cons (ps_set (i := 5) sc_L_right.nd rfl (.inl rfl) (pe_go (ok_L_spot T) hG (hr.mono (by decide)) (by rfl) T.g_L_spot T.F_L_spot.kp T.b_L_spot (pa_cons (pv 2) (pa_cons (pv 4) pa_nil))))
        (pss_one (ps_if (PW.pt (pw_or (pt_cmpR op_ne (pe_callB (call_reprD hG hr.units) (by rfl) T.n_repr (by decide +kernel) (pa_cons (pe_go (ok_spot T) hG (hr.mono (by decide)) (by rfl) T.g_spot T.F_spot.kp T.b_spot (pa_cons (pv 2) (pa_cons (pv 4) pa_nil))) pa_nil)) (pe_callB (call_reprD hG hr.units) (by rfl) T.n_repr (by decide +kernel) (pa_cons (pv 5) pa_nil)) (nomark _)) (pw_or1 (pt_cmpR op_ne (pe_go (ok_at_of T) hG (hr.mono (by decide)) (by rfl) T.g_at_of T.F_at_of.kp T.b_at_of (pa_cons (pv 2) (pa_cons (pe_ix ix_tup (pv 5) pe_int (fun _ _ => rfl)) (pa_cons (pe_ix ix_tup (pv 5) pe_int (fun _ _ => rfl)) pa_nil)))) (pv 4) (nomark _))))) (pss_one (ps_ret pe_bl)) pss_nil))))
        (pss_cons (ps_set (i := 6) sc_L_right.nd rfl (.inl rfl) (pe_go (ok_L_spot T) hG (hr.mono (by decide)) (by rfl) T.g_L_spot T.F_L_spot.kp T.b_L_spot (pa_cons (pv 2) (pa_cons (pe_callB call_len_str (by rfl) T.n_len PySem.boot_len (pa_cons (pv 2) pa_nil)) pa_nil))))
        (pss_cons (ps_if (pt_cmpR (op_neD hr.units) (pe_goK0 (ok_spot T) hG (hr.mono (by decide)) (by rfl) T.g_spot T.F_spot.kp (kb_spot_0_at_text T) (pk_cons (pe_callB call_len_str (by rfl) T.n_len PySem.boot_len (pa_cons (pv 2) pa_nil)) (pk_cons (pv 2) pk_nil))) (pv 6) (nomark _)) (pss_one (ps_ret pe_bl)) pss_nil)
        (pss_cons (ps_if (pt_cmpR op_ne (pe_goK0 (ok_at_of T) hG (hr.mono (by decide)) (by rfl) T.g_at_of T.F_at_of.kp (kb_at_of_0_column_row_text T) (pk_cons (pe_ix ix_tup (pv 6) pe_int (fun _ _ => rfl)) (pk_cons (pe_ix ix_tup (pv 6) pe_int (fun _ _ => rfl)) (pk_cons (pv 2) pk_nil)))) (pe_callB call_len_str (by rfl) T.n_len PySem.boot_len (pa_cons (pv 2) pa_nil)) (nomark _)) (pss_one (ps_ret pe_bl)) pss_nil)
        (pss_one (ps_for PassesOwn.never rfl (pi_list (pe_go (ok_L_others T) hG (hr.mono (by decide)) (by rfl) T.g_L_others T.F_L_others.kp T.b_L_others (pa_cons (pv 0) (pa_cons (pv 2) pa_nil)))) (pg_name (i := 7) sc_L_right.nd rfl (.inl rfl)) (pss_cons (ps_set (i := 8) sc_L_right.nd rfl (.inl rfl) (pe_go (ok_is_text T) hG (hr.mono (by decide)) (by rfl) T.g_is_text T.F_is_text.kp T.b_is_text (pa_cons (pv 7) pa_nil)))
        (pss_one (ps_if (PW.pt (pw_or (pt_not (pt_val (pe_callB call_isi (by rfl) T.n_isinstance (by decide +kernel) (pa_cons (pv 8) (pa_cons (pe_bltn (v := .ty "bool") (by rfl) T.n_bool (by decide +kernel) rfl) pa_nil))))) (pw_or1 (pt_cmpR op_ne (pv 8) (pe_go (ok_L_is_text T) hG (hr.mono (by decide)) (by rfl) T.g_L_is_text T.F_L_is_text.kp T.b_L_is_text (pa_cons (pv 7) pa_nil)) (nomark _))))) (pss_one (ps_ret pe_bl)) pss_nil)))))))))))))))
        (pss_one (ps_ret pe_bl)))), ?_⟩
    -- [MOST_ROWS, MOST_SIGNS] != [24, 60]
    refine ⟨by show 2 ≤ sizeLine; decide, fun p1 hp1 => ⟨by show 2 ≤ sizeLine; decide, fun p2 hp2 => ?_⟩⟩
    have sA := (same_new (o := .lst [.int 24, .int 60]) hp1).trans (same_new (o := .lst [.int 24, .int 60]) hp2)
    refine ⟨.list [.int 24, .int 60], .list [.int 24, .int 60], .lst (SqL.of (same_new hp2 _ _ upd_same)) (.cons (.int 24) (.cons (.int 60) .nil)), .lst (SqL.of upd_same) (.cons (.int 24) (.cons (.int 60) .nil)), by decide +kernel, by decide +kernel, _, rfl, ?_⟩
    rw [show PyData.eqv (.list [.int 24, .int 60]) (.list [.int 24, .int 60]) = true from SeqAt.eqv_refl _ (by decide +kernel)]
    refine iteF ?_
    have dA := Drawn.of hb sA
    generalize upd (upd H p1 (.lst [.int 24, .int 60])) p2 (.lst [.int 24, .int 60]) = H0 at dA ⊢
    clear sA
    refine ⟨4, rfl, by decide, by decide, for_it walk_range (fun i σ H' => Drawn b H H' ∧ ∃ y1 y2 y3 y4 y5 y6 y7 y8, σ = [some (.ref b), y1, y2, y3, y4, y5, y6, y7, y8]) ⟨dA, none, none, none, none, none, none, none, none, rfl⟩ (fun _ _ _ _ _ => trivial) (fun i v σ H1 H2 hi hP hy => ?_) (fun σ H1 hP => ?_)⟩
    · obtain ⟨d1, y1, y2, y3, y4, y5, y6, y7, y8, rfl⟩ := hP
      obtain ⟨rfl, rfl⟩ := hy
      -- the text
      refine ⟨_, rfl, by show 2 ≤ sizeLine; decide, fun p3 hp3 => ?_⟩
      have d3 := d1.new (o := .lst [.int 4, .int 24]) hp3
      refine ⟨_, rfl, b, 2, rfl, d3.1, by decide, by decide, fun v H3 h0 h1 d4 => ?_⟩
      have e3 := d4.2 _ _ (d1.nb hp3) (upd_same (H := H2) (o := .lst [.int 4, .int 24]))
      have d4' := d3.trans d4
      have hv : ∃ n : Int, atI [V.int 4, V.int 24] v = some (.int n) ∧ 0 < n ∧ n ≤ 24 := by
        have : v = 0 ∨ v = 1 := by omega
        rcases this with rfl | rfl
        · exact ⟨4, atI_nat (j := 0) rfl, by decide, by decide⟩
        · exact ⟨24, atI_nat (j := 1) rfl, by decide, by decide⟩
      obtain ⟨n, hn, hn0, hn1⟩ := hv
      refine ⟨p3, _, v, _, rfl, rfl, SqL.of e3, hn, b, n, rfl, d4.1, hn0, hn1, fun ls H4 hl0 hl1 hgood d5 => ?_⟩
      have hx := wr_of hl0 hl1 hgood
      have d5' := d4'.trans d5
      generalize SX.S (TL.joinL [10] ls) = x at hx ⊢
      have hxS : SX.S (TL.joinL [10] ls) = x := by rw [← hx.tl, SX.S_tl]
      have hbig : (900000 : Nat) ≤ sizeLine := by decide
      have hxs := hx.short
      have hsum : (ls.map fun l => l.length + 1).sum ≤ 1000000 := by
        have h3 := flat_le 20 ls fun l hl => (hx.good l hl).1
        have h4 := Nat.mul_le_mul_left 21 hl1
        omega
      clear d1 d3 d4 e3 d4' d5 hp3 hn hgood
      -- lines
      refine ⟨_, rfl, x, rfl, by omega, fun p4 hp4 => ?_⟩
      rw [hx.ln]
      have hp4b := d5'.nb hp4
      have hp4H := d5'.free hb hp4
      have d6 := d5'.new (o := .lst (txts ls)) hp4
      have e6 : (upd H4 p4 (.lst (txts ls))) p4 = some (.lst (txts ls)) := upd_same
      generalize upd H4 p4 (.lst (txts ls)) = H6 at d6 e6 ⊢
      -- the first if
      refine ⟨_, rfl, _, rfl, ⟨_, rfl⟩, x, nl, rfl, rfl, rfl, by omega, fun p5 hp5 => ?_⟩
      rw [split_lines, hx.ln, ← txts_eq]
      refine ne_txts (ls := ls) (SqL.of (same_new hp5 _ _ e6)) (SqL.of upd_same) hx.cps ⟨_, rfl, iteF ?_⟩
      have d7 := d6.new (o := .lst (txts ls)) hp5
      have e7 := same_new (o := .lst (txts ls)) hp5 _ _ e6
      generalize upd H6 p5 (.lst (txts ls)) = H7 at d7 e7 ⊢
      refine ⟨_, rfl, p4, ls, rfl, .inl (SqL.of e7), hsum, _, rfl, rfl, _, rfl, ?_⟩
      rw [hxS]
      refine iteNS rfl ?_
      refine ⟨_, rfl, p4, _, rfl, .inl ⟨SqL.of e7, fun t1 ht1 => ?_⟩⟩
      refine ⟨rfl, rfl, t1, ls, rfl, .inr (SqT.of upd_same), hsum, _, rfl, rfl, _, rfl, ?_⟩
      rw [hxS]
      refine iteNS rfl ?_
      have d8 := d7.new (o := .tup (txts ls)) ht1
      have e8 := same_new (o := .tup (txts ls)) ht1 _ _ e7
      generalize upd H7 t1 (.tup (txts ls)) = H8 at d8 e8 ⊢
      -- append
      refine ⟨_, rfl, .inl ⟨rfl, _, SqL.of e8⟩, p4, _, _, rfl, rfl, e8, by unfold txts; rw [List.length_map]; omega, ?_⟩
      have d9 := d8.at hp4H hp4b (.lst (txts ls ++ [.str "more"]))
      generalize upd H8 p4 (.lst (txts ls ++ [.str "more"])) = H9 at d9 ⊢
      -- the second if
      refine ⟨_, rfl, rfl, rfl, x, rfl, by omega, fun p6 hp6 => ?_⟩
      rw [hx.ln]
      refine ⟨_, rfl, ⟨_, rfl⟩, x, nl, rfl, rfl, rfl, by omega, fun p7 hp7 => ?_⟩
      rw [split_lines, hx.ln, ← txts_eq]
      refine ne_txts (ls := ls) (SqL.of (same_new hp7 _ _ upd_same)) (SqL.of upd_same) hx.cps ⟨_, rfl, iteF ?_⟩
      have dA2 := (d9.new (o := .lst (txts ls)) hp6).new (o := .lst (txts ls)) hp7
      generalize upd (upd H9 p6 (.lst (txts ls))) p7 (.lst (txts ls)) = HA at dA2 ⊢
      refine ⟨_, rfl, rfl, rfl, .str x, _, rfl, .inl ⟨x, rfl, by omega, rfl⟩, fun HB sB => ?_⟩
      rw [hx.textOk]
      refine ⟨_, _, rfl, rfl, _, rfl, iteNS rfl ?_⟩
      have dB := dA2.trans (Drawn.of dA2.1 sB)
      clear dA2 sB d9 d8 e8 d7 e7 d6 e6
      -- the places
      have hxl : x.length = x.cps.toList.length := (Array.length_toList).symm
      obtain ⟨nn, hrg, hlt⟩ := rgc_up (m := x.length + 1) (c := 1 + x.length / 60) (by omega) (by omega) (by omega)
      refine ⟨_, rfl, x, rfl, by omega, _, _, rfl, rfl, _, rfl, x, rfl, by omega, _, _, rfl, rfl, ⟨by decide, by decide⟩, _, _, rfl, rfl, ?_⟩
      refine ⟨0, _, _, nn, rfl, hrg, ?_⟩
      refine for_it walk_rangeC (fun k σ H' => Drawn b H H' ∧ ∃ z1 z4 z5, σ = [some (.ref b), z1, some (.str x), some (.ref p4), z4, z5, y6, y7, y8]) ⟨dB, _, _, _, rfl⟩ (fun _ _ _ _ _ => trivial) (fun k v σ H1 H3 hk hP hy => ?_) (fun σ H1 hP => ?_)
      · obtain ⟨d1, z1, z4, z5, rfl⟩ := hP
        obtain ⟨rfl, hv0⟩ := hy
        have hkl := hlt k hk
        obtain ⟨pl, epl, hpl⟩ : ∃ pl : Nat, v = V.int ((pl : Nat) : Int) ∧ pl ≤ x.length := ⟨k * (1 + x.length / 60), hv0.trans (congrArg V.int (by
          show (0 : Int) + (k : Int) * ((1 + x.length / 60 : Nat) : Int) = ((k * (1 + x.length / 60) : Nat) : Int)
          rw [Int.zero_add, Int.natCast_mul])), by omega⟩
        clear hv0
        subst epl
        have hsp := spot_small (l := x.cps.toList.take pl) (by rw [List.length_take]; omega)
        have hsm : ∀ i ∈ [(spotOf (x.cps.toList.take pl)).1, (spotOf (x.cps.toList.take pl)).2], Lt64 i := fun i hi => by
          rcases List.mem_cons.mp hi with rfl | hi
          · exact hsp.1
          · rw [List.mem_singleton.mp hi]; exact hsp.2
        have hat := at_spot (l := x.cps.toList) (n := pl) (by omega)
        refine ⟨_, rfl, _, rfl, x, pl, rfl, by omega, hpl, fun t2 H5 ht2 s5 e5 => ?_⟩
        refine ⟨_, rfl, _, rfl, x, pl, rfl, by omega, hpl, fun t3 H6 ht3 s6 e6 => ?_⟩
        obtain ⟨r1, r2, r3, r4⟩ := repr_ints hsm (by show 2 ≤ 100; decide)
        refine ⟨t3, dInts _, rfl, dp_ints (ns := [(spotOf (x.cps.toList.take pl)).1, (spotOf (x.cps.toList.take pl)).2]) (SqT.of e6), r1, r2, r3, r4, ?_⟩
        refine ⟨_, rfl, ?_⟩
        have e5' := s6 _ _ e5
        refine ⟨t2, dInts _, rfl, dp_ints (ns := [(spotOf (x.cps.toList.take pl)).1, (spotOf (x.cps.toList.take pl)).2]) (SqT.of e5'), r1, r2, r3, r4, ?_⟩
        refine ⟨rfl, _, rfl, iteNS rfl ?_⟩
        refine ⟨_, rfl, _, rfl, t2, _, 0, _, rfl, rfl, SqT.of e5', atI_nat (j := 0) rfl, _, rfl, t2, _, 1, _, rfl, rfl, SqT.of e5', atI_nat (j := 1) rfl, ?_⟩
        refine ⟨x, _, _, rfl, by omega, by show (0 : Int) ≤ (((lines (x.cps.toList.take pl)).length - 1 : Nat) : Int); omega, fun H7 s7 => ?_⟩
        rw [hat]
        refine ⟨_, rfl, rfl, _, rfl, iteNS rfl ?_⟩
        exact ⟨d1.trans (Drawn.of d1.1 ((s5.trans s6).trans s7)), _, _, _, rfl⟩
      · obtain ⟨d1, z1, z4, z5, rfl⟩ := hP
        have hsp := at_spot (l := x.cps.toList) (n := x.length) (by omega)
        refine ⟨_, rfl, _, rfl, x, rfl, by omega, x, x.length, rfl, by omega, Nat.le_refl _, fun t2 H5 ht2 s5 e5 => ?_⟩
        refine ⟨_, rfl, x, rfl, by omega, _, rfl, rfl, rfl, x, x.length, rfl, by omega, Nat.le_refl _, fun t3 H6 ht3 s6 e6 => ?_⟩
        have e5' := s6 _ _ e5
        refine ⟨_, rfl, ne_ints (ns := [(spotOf (x.cps.toList.take x.length)).1, (spotOf (x.cps.toList.take x.length)).2]) (SqT.of e6) (SqT.of e5') ⟨_, rfl, iteF ?_⟩⟩
        refine ⟨_, rfl, t2, _, 1, _, rfl, rfl, SqT.of e5', atI_nat (j := 1) rfl, _, rfl, t2, _, 0, _, rfl, rfl, SqT.of e5', atI_nat (j := 0) rfl, _, rfl, rfl, rfl, x, _, _, rfl, by omega, by show (0 : Int) ≤ (((lines (x.cps.toList.take x.length)).length - 1 : Nat) : Int); omega, fun H7 s7 => ?_⟩
        refine ⟨_, rfl, x, rfl, by omega, rfl, _, rfl, ?_⟩
        rw [hsp]
        refine iteNS rfl ?_
        have d7 := d1.trans (Drawn.of d1.1 ((s5.trans s6).trans s7))
        refine ⟨_, rfl, _, rfl, b, x, rfl, d7.1, by omega, fun p8 xs H8 e8 l8 n8 hxs8 d8 => ?_⟩
        have d9 := d7.trans d8
        refine ⟨p8, rfl, ⟨_, SqL.of e8⟩, ?_⟩
        refine for_it (walk_list (K := K) (xs := xs)) (fun k σ H' => Same H8 H' ∧ ∃ w1 w4 w5 w6 w7 w8, σ = [some (.ref b), w1, some (.str x), some (.ref p4), w4, w5, w6, w7, w8]) ⟨Same.refl _, _, _, _, _, _, _, rfl⟩ (fun k σ H' _ hP => hP.1.seq (SqL.of e8)) (fun k v σ H1 H3 hk hP hy => ?_) (fun σ H1 hP => ?_)
        · obtain ⟨sm, w1, w4, w5, w6, w7, w8, rfl⟩ := hP
          obtain ⟨rfl, hv⟩ := hy
          obtain ⟨c, hc⟩ := hxs8 v (List.mem_of_getElem? hv)
          refine ⟨_, rfl, v, c, rfl, hc.same sm, fun H9 s9 => ?_⟩
          refine ⟨_, rfl, .bl c, .ty "bool", _, _, true, rfl, .ty _, .base (.bl c), kit_ty (by decide +kernel), true, rfl, iteF ?_⟩
          refine ⟨_, rfl, _, rfl, v, c, rfl, (hc.same sm).same s9, fun HA sA => ⟨rfl, _, rfl, iteNS rfl ?_⟩⟩
          exact ⟨(sm.trans s9).trans sA, _, _, _, _, _, _, rfl⟩
        · obtain ⟨sm, w1, w4, w5, w6, w7, w8, rfl⟩ := hP
          exact ⟨d9.trans (Drawn.of d9.1 sm), _, _, _, _, _, _, _, _, rfl⟩
    · obtain ⟨d1, y1, y2, y3, y4, y5, y6, y7, y8, rfl⟩ := hP
      exact q H1 d1
end K01

set_option maxHeartbeats 4000000
namespace K01
open PySem PySem.Spec PyProof.Rows L2 Gx Lx
section
variable {P : Program} {w : World} {K : PySem.W.Frag} {mg : Str → Option Value} {base : Heap}
def sp_law (K : PySem.W.Frag) : Sp := fun vs H Q _ => ∃ (a : Addr) (ns : List Int), vs = [.ref a] ∧ SqL K H a (ns.map V.int) ∧ ns.length ≤ 63 ∧ ∀ H', Q (.bl true) H'
theorem law_end {K : PySem.W.Frag} {n : Nat} {ns : List Int} {H : Hp} {a : Addr} (hl : ns.length ≤ 63) (_ : ∀ z ∈ ns, Builtin.Int.intBits z ≤ n) (_ : Only H) (hS : SqL K H a (ns.map V.int)) : sp_law K [.ref a] H (fun v _ => v = .bl true) E0 :=
  ⟨a, ns, rfl, hS, hl, fun _ => rfl⟩
theorem ok_law (T : Facts K mg) : FnG P w K mg base 6 T.f_law T.d_law ["_law_script"] (sp_law K) := by
  refine fnG_of T.F_law sc_law (fun vs H Q E h => ?_) (fun cdv A outer s H vs Q hG hr h => ?_)
  · obtain ⟨c, _, rfl, _⟩ := h; rfl
  · obtain ⟨a, ns, rfl, hS, hl, q⟩ := h
    refine ⟨_, (pss_cons (ps_set (i := 1) sc_law.nd rfl (.inr rfl) (pe_go (ok_L_cells T) hG (hr.mono (by decide)) (by rfl) T.g_L_cells T.F_L_cells.kp T.b_L_cells (pa_cons (pv 0) (pa_cons pe_int pa_nil))))
        (pss_one (ps_ret (pe_callB (cr_all rfl) (by rfl) T.n_all (by decide +kernel) (pa_cons (pe_lc (own := [("_law_k", 2)]) rfl sc_law.nd (pi_range1 (by rfl) T.n_range (pa_cons (pe_callB call_len_seq (by rfl) T.n_len PySem.boot_len (pa_cons (pv 1) pa_nil)) pa_nil)) (blkOk_by (own := [("_law_k", 2)]) (N := ["_law_script", "_law_cells_here", "_law_k"]) (sc := defScope s_law) (by decide +kernel)) (fun _ _ _ _ _ => (pg_name (i := 2) sc_law.nd rfl (.inl rfl))) (fun _ _ _ _ _ => pts_nil) (fun _ _ _ _ _ => (pe_go (ok_L_right T) hG (hr.mono (by decide)) (by rfl) T.g_L_right T.F_L_right.kp T.b_L_right (pa_cons (pe_go (ok_L_box T) hG (hr.mono (by decide)) (by rfl) T.g_L_box T.F_L_box.kp T.b_L_box (pa_cons (pv 1) (pa_cons (pv 2) pa_nil))) pa_nil)))) pa_nil))))), ?_⟩
    have hbig : (1000 : Nat) < sizeLine := by decide
    refine ⟨_, rfl, a, ns, 4, rfl, hS, hl, by decide, by decide, fun p cs H1 hc0 hc1 hp s1 e1 => ?_⟩
    have e2 : (cs.map V.int).length = cs.length := List.length_map _
    refine ⟨_, rfl, p, _, rfl, .inl (SqL.of e1), _, rfl, by rw [e2]; omega, by rw [e2]; omega, fun D hD => ?_⟩
    rw [e2, Int.toNat_natCast]
    have hpD : p ≠ D := ne_of_none e1 hD
    refine lc_it walk_range (fun i H2 => H2 p = some (.lst (cs.map V.int)) ∧ H2 D = some (.lst ((List.replicate i true).map V.bl))) ⟨by rw [upd_ne hpD]; exact e1, upd_same⟩ (fun _ _ _ _ => trivial) (fun i v H2 H3 hi hP hy => ?_) (fun H2 hP => ?_)
    · obtain ⟨ep, eD⟩ := hP
      obtain ⟨rfl, hv0⟩ := hy
      have hv : v = .int ((i : Nat) : Int) := hv0.trans (congrArg V.int (Int.zero_add _))
      clear hv0
      subst hv
      refine ⟨rfl, ?_⟩
      unfold tYes
      dsimp only
      rw [if_pos rfl]
      refine ⟨_, rfl, _, rfl, p, cs, i, rfl, SqL.of ep, by omega, by omega, fun bx H4 hbx s4 hbox => ?_⟩
      refine ⟨bx, rfl, hbox, fun H5 d5 => ?_⟩
      have hpb : p ≠ bx := ne_of_none ep hbx
      have hDb : D ≠ bx := ne_of_none eD hbx
      refine ⟨_, d5.2 _ _ hDb (s4 _ _ eD), by rw [List.length_map, List.length_replicate]; omega, ?_, ?_⟩
      · rw [upd_ne hpD]; exact d5.2 _ _ hpb (s4 _ _ ep)
      · rw [upd_same, List.replicate_succ', List.map_append]; rfl
    · obtain ⟨ep, eD⟩ := hP
      refine ⟨D, List.replicate cs.length true, rfl, SqL.of eD, ?_⟩
      have : (List.replicate cs.length true).all id = true := by rw [List.all_eq_true]; exact fun x hx => by rw [List.eq_of_mem_replicate hx]; rfl
      rw [this]
      exact q H2
end
theorem all_mk {l : PySem.W.OpenLaw} {w : World} {K : PySem.W.Frag} {h : Heap} {mg : Str → Option Value} {fa : Addr} (X : K.In h) (G : h.Ns mainGlobals mg) (hfa : mg "law" = some (.ref fa))
    {f_is_text : Addr} {d_is_text : FuncData} (h_is_text : HasDef K "is_text" s_is_text f_is_text d_is_text) {f_is_row : Addr} {d_is_row : FuncData} (h_is_row : HasDef K "is_row" s_is_row f_is_row d_is_row) {f_is_sign : Addr} {d_is_sign : FuncData} (h_is_sign : HasDef K "is_sign" s_is_sign f_is_sign d_is_sign) {f_rows_of : Addr} {d_rows_of : FuncData} (h_rows_of : HasDef K "rows_of" s_rows_of f_rows_of d_rows_of) {f_text_of : Addr} {d_text_of : FuncData} (h_text_of : HasDef K "text_of" s_text_of f_text_of d_text_of) {f_spot : Addr} {d_spot : FuncData} (h_spot : HasDef K "spot" s_spot f_spot d_spot) {f_at_of : Addr} {d_at_of : FuncData} (h_at_of : HasDef K "at_of" s_at_of f_at_of d_at_of) {f_L_box : Addr} {d_L_box : FuncData} (h_L_box : HasDef K "_law_box" s_L_box f_L_box d_L_box) {f_L_take : Addr} {d_L_take : FuncData} (h_L_take : HasDef K "_law_take" s_L_take f_L_take d_L_take) {f_L_cells : Addr} {d_L_cells : FuncData} (h_L_cells : HasDef K "_law_cells" s_L_cells f_L_cells d_L_cells) {f_L_one_of : Addr} {d_L_one_of : FuncData} (h_L_one_of : HasDef K "_law_one_of" s_L_one_of f_L_one_of d_L_one_of) {f_L_row : Addr} {d_L_row : FuncData} (h_L_row : HasDef K "_law_row" s_L_row f_L_row d_L_row) {f_L_text : Addr} {d_L_text : FuncData} (h_L_text : HasDef K "_law_text" s_L_text f_L_text d_L_text) {f_L_signs : Addr} {d_L_signs : FuncData} (h_L_signs : HasDef K "_law_signs" s_L_signs f_L_signs d_L_signs) {f_L_is_text : Addr} {d_L_is_text : FuncData} (h_L_is_text : HasDef K "_law_is_text" s_L_is_text f_L_is_text d_L_is_text) {f_L_spot : Addr} {d_L_spot : FuncData} (h_L_spot : HasDef K "_law_spot" s_L_spot f_L_spot d_L_spot) {f_L_others : Addr} {d_L_others : FuncData} (h_L_others : HasDef K "_law_others" s_L_others f_L_others d_L_others) {f_L_right : Addr} {d_L_right : FuncData} (h_L_right : HasDef K "_law_right" s_L_right f_L_right d_L_right) {f_law : Addr} {d_law : FuncData} (h_law : HasDef K "law" s_law f_law d_law)
    (z_all : PySem.W.nsIn K mainGlobals "all" = some none) (z_len : PySem.W.nsIn K mainGlobals "len" = some none) (z_isinstance : PySem.W.nsIn K mainGlobals "isinstance" = some none) (z_str : PySem.W.nsIn K mainGlobals "str" = some none) (z_ord : PySem.W.nsIn K mainGlobals "ord" = some none) (z_sum : PySem.W.nsIn K mainGlobals "sum" = some none) (z_abs : PySem.W.nsIn K mainGlobals "abs" = some none) (z_int : PySem.W.nsIn K mainGlobals "int" = some none) (z_enumerate : PySem.W.nsIn K mainGlobals "enumerate" = some none) (z_list : PySem.W.nsIn K mainGlobals "list" = some none) (z_range : PySem.W.nsIn K mainGlobals "range" = some none) (z_max : PySem.W.nsIn K mainGlobals "max" = some none) (z_tuple : PySem.W.nsIn K mainGlobals "tuple" = some none) (z_bool : PySem.W.nsIn K mainGlobals "bool" = some none) (z_repr : PySem.W.nsIn K mainGlobals "repr" = some none)
    {t_MOST_ROWS : Tok} (z_MOST_ROWS : PySem.W.nsIn K mainGlobals "MOST_ROWS" = some (some (.int 24 t_MOST_ROWS))) {t_MOST_SIGNS : Tok} (z_MOST_SIGNS : PySem.W.nsIn K mainGlobals "MOST_SIGNS" = some (some (.int 60 t_MOST_SIGNS))) {t_NO_SIGN : Tok} (z_NO_SIGN : PySem.W.nsIn K mainGlobals "NO_SIGN" = some (some (.int 37 t_NO_SIGN))) :
    ∃ fd : FuncData, (∀ (s : Shared) (v : Value), BindsTo s fd ⟨[v], []⟩ [("_law_script", v)]) ∧ ∀ base : Heap, K.In base → base.Ns mainGlobals mg → FnG l.prog w K mg base 6 fa fd ["_law_script"] (sp_law K) := by
  have e := hfa.symm.trans (PySem.W.mg_of X G h_law.at_)
  cases e
  exact ⟨_, fun s v => Gx.binds_law h_law.fn (fun _ _ _ _ _ _ us hl => match us, hl with | [_], _ => rfl) s v, fun base _ _ => ok_law (txt_mk X G h_is_text h_is_row h_is_sign h_rows_of h_text_of h_spot h_at_of h_L_box h_L_take h_L_cells h_L_one_of h_L_row h_L_text h_L_signs h_L_is_text h_L_spot h_L_others h_L_right h_law z_all z_len z_isinstance z_str z_ord z_sum z_abs z_int z_enumerate z_list z_range z_max z_tuple z_bool z_repr z_MOST_ROWS z_MOST_SIGNS z_NO_SIGN)⟩
end K01
open PySem PySem.W PyProof.Rows
set_option maxHeartbeats 0 in
theorem PySem.Challenge.cw_typedahead_k01_texts_rows_and_places_holds : PySem.Challenge.rw_typedahead_k01_texts_rows_and_places.Holds := by
  w_on; o_law; k_head; (case hw => w_witness2)
  k_fill
  refine Gx.walk_ofG (l := PySem.Challenge.rw_typedahead_k01_texts_rows_and_places) (n := 63) (k := 6) (x := "_law_script") (sp := fun w => K01.sp_law _) rfl (by decide) rfl ⟨rfl, by decide, by decide⟩ (fun w h Y => PySem.W.kIn_of Y) ?F (fun w H a ns hl hb ho hS => K01.law_end hl hb ho hS)
  case F =>
    intro w mg fa h KX G hmg
    refine' K01.all_mk KX G hmg (K01.hasDef_mk ?a_is_text ?l_is_text ?c_is_text ?k_is_text) (K01.hasDef_mk ?a_is_row ?l_is_row ?c_is_row ?k_is_row) (K01.hasDef_mk ?a_is_sign ?l_is_sign ?c_is_sign ?k_is_sign) (K01.hasDef_mk ?a_rows_of ?l_rows_of ?c_rows_of ?k_rows_of) (K01.hasDef_mk ?a_text_of ?l_text_of ?c_text_of ?k_text_of) (K01.hasDef_mk ?a_spot ?l_spot ?c_spot ?k_spot) (K01.hasDef_mk ?a_at_of ?l_at_of ?c_at_of ?k_at_of) (K01.hasDef_mk ?a_L_box ?l_L_box ?c_L_box ?k_L_box) (K01.hasDef_mk ?a_L_take ?l_L_take ?c_L_take ?k_L_take) (K01.hasDef_mk ?a_L_cells ?l_L_cells ?c_L_cells ?k_L_cells) (K01.hasDef_mk ?a_L_one_of ?l_L_one_of ?c_L_one_of ?k_L_one_of) (K01.hasDef_mk ?a_L_row ?l_L_row ?c_L_row ?k_L_row) (K01.hasDef_mk ?a_L_text ?l_L_text ?c_L_text ?k_L_text) (K01.hasDef_mk ?a_L_signs ?l_L_signs ?c_L_signs ?k_L_signs) (K01.hasDef_mk ?a_L_is_text ?l_L_is_text ?c_L_is_text ?k_L_is_text) (K01.hasDef_mk ?a_L_spot ?l_L_spot ?c_L_spot ?k_L_spot) (K01.hasDef_mk ?a_L_others ?l_L_others ?c_L_others ?k_L_others) (K01.hasDef_mk ?a_L_right ?l_L_right ?c_L_right ?k_L_right) (K01.hasDef_mk ?a_law ?l_law ?c_law ?k_law) ?z_all ?z_len ?z_isinstance ?z_str ?z_ord ?z_sum ?z_abs ?z_int ?z_enumerate ?z_list ?z_range ?z_max ?z_tuple ?z_bool ?z_repr ?z_MOST_ROWS ?z_MOST_SIGNS ?z_NO_SIGN
    (case a_is_text => k_is); (case l_is_text => k_is); (case c_is_text => k_is); (case k_is_text => k_is); (case a_is_row => k_is); (case l_is_row => k_is); (case c_is_row => k_is); (case k_is_row => k_is); (case a_is_sign => k_is); (case l_is_sign => k_is); (case c_is_sign => k_is); (case k_is_sign => k_is); (case a_rows_of => k_is); (case l_rows_of => k_is); (case c_rows_of => k_is); (case k_rows_of => k_is); (case a_text_of => k_is); (case l_text_of => k_is); (case c_text_of => k_is); (case k_text_of => k_is); (case a_spot => k_is); (case l_spot => k_is); (case c_spot => k_is); (case k_spot => k_is); (case a_at_of => k_is); (case l_at_of => k_is); (case c_at_of => k_is); (case k_at_of => k_is); (case a_L_box => k_is); (case l_L_box => k_is); (case c_L_box => k_is); (case k_L_box => k_is); (case a_L_take => k_is); (case l_L_take => k_is); (case c_L_take => k_is); (case k_L_take => k_is); (case a_L_cells => k_is); (case l_L_cells => k_is); (case c_L_cells => k_is); (case k_L_cells => k_is); (case a_L_one_of => k_is); (case l_L_one_of => k_is); (case c_L_one_of => k_is); (case k_L_one_of => k_is); (case a_L_row => k_is); (case l_L_row => k_is); (case c_L_row => k_is); (case k_L_row => k_is); (case a_L_text => k_is); (case l_L_text => k_is); (case c_L_text => k_is); (case k_L_text => k_is); (case a_L_signs => k_is); (case l_L_signs => k_is); (case c_L_signs => k_is); (case k_L_signs => k_is); (case a_L_is_text => k_is); (case l_L_is_text => k_is); (case c_L_is_text => k_is); (case k_L_is_text => k_is); (case a_L_spot => k_is); (case l_L_spot => k_is); (case c_L_spot => k_is); (case k_L_spot => k_is); (case a_L_others => k_is); (case l_L_others => k_is); (case c_L_others => k_is); (case k_L_others => k_is); (case a_L_right => k_is); (case l_L_right => k_is); (case c_L_right => k_is); (case k_L_right => k_is); (case a_law => k_is); (case l_law => k_is); (case c_law => k_is); (case k_law => k_is); (case z_all => k_is); (case z_len => k_is); (case z_isinstance => k_is); (case z_str => k_is); (case z_ord => k_is); (case z_sum => k_is); (case z_abs => k_is); (case z_int => k_is); (case z_enumerate => k_is); (case z_list => k_is); (case z_range => k_is); (case z_max => k_is); (case z_tuple => k_is); (case z_bool => k_is); (case z_repr => k_is); (case z_MOST_ROWS => k_is); (case z_MOST_SIGNS => k_is); (case z_NO_SIGN => k_is)
