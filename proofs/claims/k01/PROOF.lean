import PyProof.Rows.All
import Wide.All
import OpenK.AllK
import Wide.FinOn
import PyProof.EqAt
import PyProof.EqKinds
import PyProof.TupleCall
import PyProof.ReprRoads
import PyProof.TwoTypesSub
import PyProof.AutoIntG7
import PyProof.FactsAll.bool_3
import KE.KMathG
import HandS.ForMost
import HandS.More
import HandS.Gcd
import HandS.Wide
import HandS.Exc
import HandS.TryOnly
import HandS.ExcOwn
import HandS.WordsExc
import HandS.ExcIs
import HandS.IsInst
import HandS.MakeKwOnly
import HandS.NoneIn
import HandS.TupLe
import HandS.Ends
import Flt.RightSqrt
import HandS.Style
import HandS.Codes
import HandS.MakeKw
import HandS.TupAny
import PyProof.ReprBulk
import PyProof.Rows.RegStrFacts
import PySem.Challenge.RW_pointhouse_k01_exacts_made_and_refused
set_option Elab.async false
set_option linter.all false
set_option maxRecDepth 100000
set_option maxHeartbeats 16000000
namespace PH
open PySem PySem.Spec PyProof.Rows L2
section
variable {X : Cx}
/-! ### isqrt -/
def rSqrt : List V → Hp → VK → Prop := fun vs H Q =>
  ∃ a : Int, vs = [.int a] ∧ 0 ≤ a ∧ a < 2 ^ 200 ∧ Q (.int ((Float64.isqrt a.toNat : Nat) : Int)) H
theorem log_le {n k : Nat} (h : n < 2 ^ (k + 1)) : n.log2 ≤ k := by
  by_cases h0 : n = 0
  · rw [h0, Nat.log2_zero]; exact Nat.zero_le _
  · exact Nat.le_of_lt_succ ((Nat.log2_lt h0).mpr h)
theorem cr_isqrt : CallR X (.builtin "math.isqrt") rSqrt := by
  intro pins s σ H vs us Q I r h
  obtain ⟨a, rfl, h0, h1, q⟩ := h
  obtain ⟨u, rfl, t, rfl⟩ := vals1 r
  have hl : a.toNat.log2 ≤ 199 := log_le (by show a.toNat < 2 ^ 200; omega)
  exact call_function_meets PySem.W.MGF.kind_isqrt PySem.W.MGF.plain_isqrt PySem.W.MGF.entry_isqrt (PySem.W.MGF.args_isqrt _)
    (PySem.W.mg_run_isqrt a t (by omega) (by omega) (by omega)).meets ⟨.int _, H, I.tok _, ⟨_, rfl⟩, q⟩
/-! ### repr of data, where nothing is being shown -/
def rRepr (K : PySem.W.Frag) : List V → Hp → VK → Prop := fun xs H Q =>
  ∃ (a : Addr) (d : PyData), xs = [.ref a] ∧ Dp K H (.ref a) d ∧ d.showable = true ∧ d.hasDict = false ∧ d.depth ≤ 60 ∧
    d.shown.length ≤ sizeLine ∧ Q (.str d.shown) H
theorem cr_repr {k : Nat} (hg : X.A.guards = some []) (hr : Room k X.A) : CallR X (.builtin "repr") (rRepr X.K) := by
  intro pins s σ H xs us Q I r h
  obtain ⟨a, d, rfl, hd, hs, hn, hdp, hz, q⟩ := h
  obtain ⟨u, rfl, ru⟩ := vals1 r
  cases (show u = Value.ref a from ru)
  obtain ⟨as, rd⟩ := Dp.reads I d _ _ hd rfl
  have hu := hr.units
  exact repr_of_reads' rd hs (fun e => by rw [hn] at e; cases e) hg (by omega) (fun _ _ e => e)
    (fun h' u tk hk => ⟨.str _, H, I.kept hk, ⟨u, rfl⟩, q⟩) hz
/-! ### self.f = .. among several targets -/
def gFld (K : PySem.W.Frag) (to : TE) (f : Str) : TG := fun v σ H Q => to σ H fun x H1 =>
  ∃ a C dx fs, x = .ref a ∧ H1 a = some (.ins C dx fs) ∧ Cls K C ∧ NoAttr K C f ∧ fs.length < 1000 ∧ Q σ (upd H1 a (.ins C dx (putF f v fs)))
theorem pg_fld {o : Expr} {f : Str} {to : TE} {pos : Pos} (ho : PE X o to) : PG X (.Attribute o f pos) (gFld X.K to f) := by
  refine ⟨fun pins s σ H v u Q I r h => ?_⟩
  rw [assign_Attribute]
  refine wpAny_bind (wpAny_holding (thn (ho.run pins s σ H _ I h) fun ov s1 hh => ?_))
  obtain ⟨x, H1, I1, rx, a, C, dx, fs, ex, ea, c, n, l, q⟩ := hh
  subst ex
  obtain rfl : ov = Value.ref a := rx
  refine wpAny_bind (wpAny_standAt (wpAny_bind (wpAny_holding ?_)))
  exact setattr_ok I1 ea c n l r fun s2 I2 => wpAny_release ⟨σ, _, I2, q⟩
/-! ### int - bool -/
theorem op_sub_ib : OpR X (binaryOp .Sub) (fun x y H Q => ∃ i k, x = .int i ∧ y = .bl k ∧ Q (.int (i - b2i k)) H) := by
  intro pins s σ H x y v u Q I rx ry h
  obtain ⟨i, k, rfl, rfl, q⟩ := h
  obtain ⟨t, rfl⟩ := rx
  cases ry
  have same : reflectedDiffers (.type "int") (.type "bool") "sub" = pure false := by
    show (typeLookup (.type "bool") (dunderR "sub") >>= fun rb => typeLookup (.type "int") (dunderR "sub") >>= fun ra => pure (rb.isSome && rb != ra)) = pure false
    simp only [typeLookup_type]
    rw [builtinLookup_eq_fast]
    kernel_rfl
  exact binaryOp_sub_gives (op := .Sub) (T := "int") (U := "bool") (by decide) (typeIs_int s i t) rfl F.fills_int_sub
    F.fills_bool_sub isSubtype_bool_int same F.slot_int_sub F.entry_int_sub (F.args_int_sub_2 _ _) (AutoIntG7.int___sub___int_bool_0 i t k) trivial
    ⟨.int (i - b2i k), H, I.tok _, ⟨_, rfl⟩, q⟩
end
/-! ### defs that ask what is being shown: their promise holds where nothing is -/
structure FnG (P : Program) (w : World) (K : PySem.W.Frag) (mg : Str → Option Value) (base : Heap) (CX : CXT) (k : Nat) (f : Addr) (fd : FuncData) (ps : List Str) (sp : Sp) : Prop where
  len : ∀ vs H Q E, sp vs H Q E → vs.length = ps.length
  run : ∀ (A : Around) (outer : List Env) (s : Shared) (H : Hp) (args : Args) (us : List Value) (vs : List V) (Q : VK) (E : XK),
    A.guards = some [] → Room k A → Env0 P w K mg base A outer s H → BindsTo s fd args (ps.zip us) → Vals vs us → sp vs H Q E →
    codeAny (model P w) A (.call (.ref f) args) (CR CX outer P w H s Q E) s
section
variable {P : Program} {w : World} {K : PySem.W.Frag} {mg : Str → Option Value} {base : Heap}
theorem Fun.okG {x qual : Str} {st : Stmt} {f : Addr} {fd : FuncData} {N ps : List Str} {k : Nat} {sp : Sp} (F : Fun K x qual st f fd) (S : FnScope N ps (defScope st))
    (len : ∀ vs H Q E, sp vs H Q E → vs.length = ps.length)
    (hbody : ∀ (cdv : Value) (A : Around) (outer : List Env) (s : Shared) (H : Hp) (vs : List V) (Q : VK) (E : XK), A.guards = some [] →
      Room k (A.deeper (envOfC qual (defScope st) s.heap.objs.size f cdv)) → sp vs H Q E →
      ∃ t, PSs (cxOf CX0 P w K mg base N qual (defScope st) f cdv A outer s H E).nox (defBody st) t ∧ t { nx := fun _ H' => Q .non H', rt := Q } (start N vs) H) :
    FnG P w K mg base CX0 (k + 1) f fd ps sp := by
  obtain ⟨oc, od, kV, doc, pm, an, cdv, ct, osl, rfl, lk, hcd⟩ := F.ex
  constructor
  · exact len
  intro A outer s H args us vs Q E hg hr e0 hb r hsp
  have within := fun b o e => (e0.bs b o e).1
  have KX : K.In s.heap := e0.mod.kin.keeps within
  refine codeAny_call_function hr.depth (KX _ _ lk) rfl S.co S.gen rfl (PySem.W.codeRec_of KX hcd) (hb _ _ _ _ ?_)
  refine wpAny_newFunctionEnv_cells S.kind ?_ ?_
  · rintro ⟨n, v⟩ hy
    have q := S.par n (List.of_mem_zip hy).1
    exact q.imp id fun z => And.intro z (PySem.W.cellsFrom_some _ _ _ (Or.inl z))
  intro env he s1 x
  subst he
  refine And.intro ((e0.mod.nolimit.keeps within).keeps x.toInCall.keep) (codeAny_func ?_)
  obtain ⟨t, hx, hq⟩ := hbody cdv A outer s H vs Q E hg (hr.deeper _) hsp
  have ht := hx.nox
  have I := inv_start (CX := CX0) (E := E) S hr.hd e0 (len _ _ _ _ hsp) r x
  have fin : ∀ {σ' : L2.St} {H' : Hp} {v : V} {u : Value} {s' : Shared},
      Inv (cxOf CX0 P w K mg base N qual (defScope st) f cdv A outer s H E) [] σ' H' s' → RelV v u → Q v H' → CE outer P w H s Q u s' := by
    intro σ' H' v u s' J rv q
    exact ⟨v, H', J.os, J.bare, J.base, J.hok, rv, q⟩
  refine wpAny_mono (ht.run [] s1 (start N vs) H _ I hq) ?_ (fun _ _ z => z)
  intro fl s' hs
  match fl, hs with
  | .ret u, ⟨v, _, _, J, rv, q⟩ => exact fin J rv q
  | .next, ⟨_, _, J, q⟩ => exact fin (v := V.non) (u := Value.none) J rfl q
  | .brk, ⟨_, _, _, q⟩ => exact q.elim
  | .cont, ⟨_, _, _, q⟩ => exact q.elim
end
section
variable {X : Cx} {k : Nat} {f : Addr} {fd : FuncData} {ps : List Str} {sp : Sp} {x : Str} {p pos : Pos} {e : Expr} {es : List Expr} {t : TA}
theorem pe_callG (F : FnG X.prog X.w X.K X.mg X.base CX0 k f fd ps sp) (hgu : X.A.guards = some []) (hr : Room k X.A) (hg : Gl X x) (hm : X.mg x = some (.ref f))
    (hk : PySem.W.keepIn X.K (.ref f) = true) (hb : Binds X.K fd ps []) (ha : PA X (e :: es) t) (hdb : (x == ("__debug__" : Str)) = false := by decide)
    (he : starEach (e :: es) X.env = (false, eval e X.env) :: starEach es X.env := by rfl) (hpl : (backTo pos (starEach es X.env)).any (·.1) = false := by rfl) :
    PE X (.Call (.Name x p) (e :: es) [] pos) (tCall sp [] E0 t) := by
  constructor
  intro pins s σ H Q I h
  refine wpAny_Call_Name_kw (ld_glob I hg hm ?_ hdb)
  refine PySem.W.callWith_K (h₀ := X.base) I.ok.mod.kin hk (thn (ha.run pos pins s σ H _ I h) ?_) he hpl
  rintro us s1 ⟨vs, H1, I1, r, q⟩
  refine And.intro I1.kIn ?_
  rw [List.append_nil] at q
  have hl : us.length = ps.length := r.length.symm.trans (F.len _ _ _ _ q)
  have hb' := hb s1 us I1.kIn (by rw [List.append_nil]; exact hl)
  rw [List.append_nil] at hb'
  refine wpAny_call (codeAny_mono (F.run X.A X.stack s1 H1 ⟨us, []⟩ us vs Q E0 hgu hr I1.env0 hb' r q) ?_)
  intro r' s' hq
  match r', hq with
  | .error _, hq => exact hq.elim
  | .ok (.ret _), hq => exact I1.after hq
  | .ok .next, hq => exact hq.elim
  | .ok .brk, hq => exact hq.elim
  | .ok .cont, hq => exact hq.elim
end
end PH
namespace PH
open PySem PySem.Spec PyProof.Rows L2
/-! ### the law's call from the heap behind the top, nothing being shown -/
section
variable {P : Program} {w : World} {K : PySem.W.Frag} {mg mb : Str → Option Value} {k : Nat} {fa a : Addr} {fd : FuncData} {x : Str} {sp : Sp} {s₁ : Shared} {vs : List Value} {ns : List Int}
/-- what may be tracked there: the script, or nothing where the module has it -/
theorem script_heap (KX : K.In s₁.heap) (ha : s₁.heap.get? a = some { cls := .type "list", data := .seq vs.toArray }) (hi : IntsAre vs ns) (hl : ns.length ≤ sizeLine) :
    ∃ H : Hp, Only H ∧ SqL K H a (ns.map V.int) ∧ HOk P w H s₁.heap ∧ ∀ b, H b ≠ none → b = a ∧ K.lookup a = none := by
  have rv := vals_ints hi
  have lenV := hi.length
  rcases hk : K.lookup a with _ | o
  · let ob : Obj := { cls := .type "list", data := .seq vs.toArray }
    refine ⟨fun b => if b = a then some (.frz ob (.lst (ns.map V.int))) else none, ?_, ?_, ?_, ?_⟩
    · intro b
      by_cases h : b = a
      · right; exact ⟨_, _, if_pos h⟩
      · left; exact if_neg h
    · left; right; exact ⟨ob, if_pos rfl⟩
    · intro b u z
      by_cases h : b = a
      · subst h
        have z' := (if_pos rfl).symm.trans z
        cases z'
        refine ⟨ha, ?_, vs, _, rv, ha⟩
        rw [List.length_map]; exact hl
      · have z' := (if_neg h).symm.trans z
        cases z'
    · intro b z
      by_cases h : b = a
      · exact ⟨h, rfl⟩
      · exact absurd (if_neg h) z
  · have e := KX a o hk
    rw [ha] at e
    cases e
    refine ⟨fun _ => none, fun _ => Or.inl rfl, ?_, (fun b u z => by cases (show (none : Option HO) = some u from z)), (fun b z => absurd rfl z)⟩
    right
    refine ⟨_, vs.toArray, _, hk, rfl, rfl, rfl, ?_, ?_⟩
    · rw [List.size_toArray, lenV]; exact hl
    · simpa using rv
theorem law_callG (KX : K.In s₁.heap) (hns : s₁.heap.Ns mainGlobals mg) (hb : s₁.heap.Ns builtinsNs mb) (hbb : ∀ x : Str, x ≠ "__name__" → mb x = bootBuiltins x)
    (hlim : s₁.heap.NoLimit) (hg : s₁.gens = #[]) (ha : s₁.heap.get? a = some { cls := .type "list", data := .seq vs.toArray }) (hi : IntsAre vs ns)
    (hl : ns.length ≤ sizeLine) (hr : Room k callerA) (F : ∀ base : Heap, K.In base → base.Ns mainGlobals mg → FnG P w K mg base CX0 k fa fd [x] sp)
    (hbind : ∀ (s : Shared) (u : Value), BindsTo s fd ⟨[u], []⟩ [(x, u)])
    (hsp : ∀ H : Hp, Only H → SqL K H a (ns.map V.int) → sp [.ref a] H (fun v _ => v = .bl true) fun _ _ _ => False) :
    codeAny (model P w) callerA (.call (.ref fa) ⟨[.ref a], []⟩) (fun r s' => r = .ok (.ret (.bool true)) ∧ OldK s₁.heap s'.heap ∧ s'.os = s₁.os ∧ AllBare s'.gens) s₁ := by
  obtain ⟨H, hO, hS, hok, hA⟩ := script_heap (P := P) (w := w) KX ha hi hl
  have off : ∀ {b : Addr} {o : Obj}, s₁.heap.get? b = some o → (b = a → K.lookup a = none → False) → (hidT s₁.heap H).get? b = some o := by
    intro b o e h
    refine hidT_get e ?_
    rcases q : H b with _ | u
    · rfl
    · have z := hA b (by rw [q]; exact fun z => nomatch z)
      exact (h z.1 z.2).elim
  have dicts : ∀ {b : Addr} {m : Str → Option Value}, s₁.heap.Ns b m → (hidT s₁.heap H).Ns b m := by
    rintro b m ⟨o, es, ep, e, d, r⟩
    refine ⟨o, es, ep, off e ?_, d, r⟩
    intro hba _
    subst hba
    rw [ha] at e
    cases e
    exact nomatch (d : Data.seq vs.toArray _ = Data.dict es ep)
  have hKb : K.In (hidT s₁.heap H) := by
    intro b o e
    refine off (KX b o e) ?_
    intro hba hn
    rw [hba, hn] at e
    cases e
  have hM : Mod K mg (hidT s₁.heap H) := by
    obtain ⟨mc, h1, h2⟩ := hlim
    exact ⟨hKb, dicts hns, ⟨mb, dicts hb, hbb⟩, ⟨mc, dicts h1, h2⟩⟩
  have e0 : Env0 P w K mg (hidT s₁.heap H) callerA [] s₁ H :=
    { frames := rfl, mod := hM, bs := fun b o e => of_hidT e, bsz := Nat.le_of_eq (hidT_size _ _), funs := trivial,
      frf := fun b z => absurd (show b ∈ ([] : List Addr) from z) List.not_mem_nil, hok := hok, bare := .of_eq hg }
  refine codeAny_mono ((F _ hKb (dicts hns)).run callerA [] s₁ H ⟨[.ref a], []⟩ [.ref a] [.ref a] _ _ rfl hr e0 (hbind s₁ (.ref a)) (.cons rfl .nil) (hsp H hO hS)) ?_
  intro r s' h
  match r, h with
  | .error _, h => exact h.elim
  | .ok .next, h => exact h.elim
  | .ok .brk, h => exact h.elim
  | .ok .cont, h => exact h.elim
  | .ok (.ret u), ⟨v, H', os, bare, un, hok', r', q⟩ =>
    subst q
    cases r'
    refine ⟨rfl, OldK.of_keep ?_, os, bare⟩
    intro b o e
    rcases q : H b with _ | y
    · exact un.keep b o e q (fun z => absurd (show b ∈ ([] : List Addr) from z) List.not_mem_nil) List.not_mem_nil
    · rcases hO b with z | ⟨ob, xs, z⟩
      · rw [q] at z; cases z
      · have g1 := (hok b _ z).1
        have g2 := (hok' b _ (un.frzs b ob _ z)).1
        rw [e] at g1
        cases g1
        exact g2
/-- the goal that k_head leaves -/
theorem walk_G {l : PySem.W.OpenLaw} {n k : Nat} {q : Program} {loose : List Str} {XP : (Str → Option Value) → Heap → Prop} {YP : World → Heap → Prop} {d : DefRec} {K : Params → PySem.W.Frag} {sp : PySem.W.Frag → Sp} {x : Str}
    (hn : l.most = some n) (hn2 : n ≤ sizeLine) (hdf : d.params.defaults = []) (hr : Room k callerA) (hY : ∀ (w : World) (h : Heap), YP w h → (K w.params).In h)
    (F : ∀ (w : World) (mg : Str → Option Value) (fa : Addr) (h : Heap), (K w.params).In h → h.Ns mainGlobals mg → mg d.name = some (.ref fa) →
      ∃ fd : FuncData, (∀ (s : Shared) (u : Value), BindsTo s fd ⟨[u], []⟩ [(x, u)]) ∧
        ∀ base : Heap, (K w.params).In base → base.Ns mainGlobals mg → FnG l.prog w (K w.params) mg base CX0 k fa fd [x] (sp (K w.params)))
    (hsp : ∀ (K : PySem.W.Frag) (H : Hp) (a : Addr) (ns : List Int), ns.length ≤ n → Only H → SqL K H a (ns.map V.int) → sp K [.ref a] H (fun v _ => v = .bl true) fun _ _ _ => False) :
    PySem.W.WalkO q loose XP YP l.row.toRowW d [] (fun f vs => PySem.call f vs) := by
  refine Att.attach_call hn hdf ?_
  intro w s₀ s₁ mg mb fa o pm cd doc a vs ns G Y ho hd hcd hmg hobj hints hlen hg
  have KX := hY w _ Y
  obtain ⟨fd, hb, hF⟩ := F w mg fa _ KX G.T.g hmg
  exact law_callG KX G.T.g G.T.b G.T.builtins G.T.nolimit hg hobj hints (Nat.le_trans hlen hn2) hr hF hb
    (fun H hO hS => hsp _ H a ns hlen hO hS)
end
end PH
namespace PH
open PySem
/-! ### the quotient in lowest terms, the whole part of a root, a number's form -/
def g (a b : Int) : Int := ((Nat.gcd a.natAbs b.natAbs : Nat) : Int)
def low (a b : Int) : Int × Int := (a / g a b, b / g a b)
def rt (n : Int) : Int := ((Float64.isqrt n.toNat : Nat) : Int)
def isq (n : Int) : Bool := decide (rt n * rt n = n)
theorem g_pos {a b : Int} (h : 0 < b) : 0 < g a b := by
  unfold g
  have : 0 < Nat.gcd a.natAbs b.natAbs := Nat.gcd_pos_of_pos_right _ (by omega)
  omega
theorem g_dl (a b : Int) : g a b ∣ a := Int.natAbs_dvd_natAbs.mp (by show (a.natAbs.gcd b.natAbs) ∣ a.natAbs; exact Nat.gcd_dvd_left _ _)
theorem g_dr (a b : Int) : g a b ∣ b := Int.natAbs_dvd_natAbs.mp (by show (a.natAbs.gcd b.natAbs) ∣ b.natAbs; exact Nat.gcd_dvd_right _ _)
theorem g_le {a b : Int} (h : 0 < b) : g a b ≤ b := Int.le_of_dvd h (g_dr a b)
theorem g_le_left {a b : Int} (h : 0 < a) : g a b ≤ a := Int.le_of_dvd h (g_dl a b)
theorem low1 (a b : Int) : (low a b).1 * g a b = a := Int.ediv_mul_cancel (g_dl a b)
theorem low2 (a b : Int) : (low a b).2 * g a b = b := Int.ediv_mul_cancel (g_dr a b)
theorem low2_pos {a b : Int} (h : 0 < b) : 0 < (low a b).2 := by
  have h1 := low2 a b
  have h2 := g_pos (a := a) h
  rcases Int.lt_or_le 0 (low a b).2 with h3 | h3
  · exact h3
  · have := Int.mul_le_mul_of_nonneg_right h3 (Int.le_of_lt h2)
    rw [h1, Int.zero_mul] at this
    omega
theorem low1_nonneg {a b : Int} (ha : 0 ≤ a) (h : 0 < b) : 0 ≤ (low a b).1 := Int.ediv_nonneg ha (Int.le_of_lt (g_pos h))
theorem natAbs_div_le {a k : Int} (hk : 0 < k) : (a / k).natAbs ≤ a.natAbs := by
  rcases Int.le_total 0 a with h | h
  · have h1 : 0 ≤ a / k := Int.ediv_nonneg h (Int.le_of_lt hk)
    have h2 : a / k ≤ a := Int.ediv_le_self k h
    omega
  · have h1 : a / k ≤ 0 := by
      have := Int.ediv_le_ediv hk h
      simpa using this
    have h2 : a ≤ a / k := by
      have q := Int.emod_nonneg a (show k ≠ 0 by omega)
      have q2 := Int.mul_ediv_add_emod a k
      have q3 := Int.emod_lt_of_pos a hk
      by_cases hz : a / k = 0
      · omega
      · have : k * (a / k) ≤ 1 * (a / k) := Int.mul_le_mul_of_nonpos_right (by omega) h1
        rcases Int.le_total a (a / k) with z | z
        · exact z
        · have hk1 : 1 ≤ k := by omega
          have e : k * (a / k) ≤ a / k := by omega
          have f : a < k * (a / k) + k := by omega
          have d : a / k < 0 := by omega
          have m1 : a / k + 1 ≤ 0 := by omega
          have m2 : k * (a / k + 1) ≤ 1 * (a / k + 1) := Int.mul_le_mul_of_nonpos_right (by omega) m1
          have m3 : k * (a / k + 1) = k * (a / k) + k := by rw [Int.mul_add, Int.mul_one]
          omega
    omega
theorem low1_abs {a b : Int} (h : 0 < b) : (low a b).1.natAbs ≤ a.natAbs := natAbs_div_le (g_pos h)
theorem low1_le {a b : Int} (ha : 0 ≤ a) (h : 0 < b) : (low a b).1 ≤ a := Int.ediv_le_self _ ha
theorem low2_le {a b : Int} (h : 0 < b) : (low a b).2 ≤ b := Int.ediv_le_self _ (Int.le_of_lt h)
theorem g_mul (a b k : Int) (hk : 0 < k) : g (a * k) (b * k) = g a b * k := by
  unfold g
  rw [Int.natAbs_mul, Int.natAbs_mul, Nat.gcd_mul_right]
  have : ((k.natAbs : Nat) : Int) = k := by omega
  rw [Int.natCast_mul, this]
theorem low_mul (a b k : Int) (hk : 0 < k) : low (a * k) (b * k) = low a b := by
  unfold low
  rw [g_mul a b k hk, Int.mul_ediv_mul_of_pos_left _ _ hk, Int.mul_ediv_mul_of_pos_left _ _ hk]
/-- a quotient that is in lowest terms stays -/
theorem low_id {a b : Int} (h : g a b = 1) : low a b = (a, b) := by
  unfold low
  rw [h, Int.ediv_one, Int.ediv_one]
theorem g_low {a b : Int} (h : 0 < b) : g (low a b).1 (low a b).2 = 1 := by
  have hp := g_pos (a := a) h
  have e : g a b = g (low a b).1 (low a b).2 * g a b := by
    have := g_mul (low a b).1 (low a b).2 (g a b) hp
    rw [low1, low2] at this
    exact this
  have e2 : 1 * g a b = g (low a b).1 (low a b).2 * g a b := by rw [Int.one_mul]; exact e
  exact (Int.eq_of_mul_eq_mul_right (by omega) e2).symm
theorem low_low {a b : Int} (h : 0 < b) : low (low a b).1 (low a b).2 = low a b := low_id (g_low h)
/-! ### roots -/
theorem rt_nonneg (n : Int) : 0 ≤ rt n := Int.natCast_nonneg _
theorem rt_spec {n : Int} (h : 0 ≤ n) : rt n * rt n ≤ n ∧ n < (rt n + 1) * (rt n + 1) := by
  have q := Float64.isqrt_spec n.toNat
  have e : ((n.toNat : Nat) : Int) = n := by omega
  refine ⟨?_, ?_⟩
  · have := Int.ofNat_le.mpr q.1
    rw [e] at this
    unfold rt
    rw [← Int.natCast_mul]
    exact this
  · have := Int.ofNat_lt.mpr q.2
    rw [e] at this
    unfold rt
    have e2 : ((Float64.isqrt n.toNat : Nat) : Int) + 1 = ((Float64.isqrt n.toNat + 1 : Nat) : Int) := by omega
    rw [e2, ← Int.natCast_mul]
    exact this
theorem sq_lt {a b : Int} (ha : 0 ≤ a) (hb : 0 ≤ b) (h : a * a < b * b) : a < b := by
  rcases Int.lt_or_le a b with z | z
  · exact z
  · have := Int.mul_le_mul z z hb ha
    omega
theorem rt_uniq {n r : Int} (hr : 0 ≤ r) (h1 : r * r ≤ n) (h2 : n < (r + 1) * (r + 1)) : rt n = r := by
  have hn : 0 ≤ n := Int.le_trans (Int.mul_nonneg hr hr) h1
  have q := rt_spec hn
  have p := rt_nonneg n
  have a : r < rt n + 1 := sq_lt hr (by omega) (by omega)
  have b : rt n < r + 1 := sq_lt p (by omega) (by omega)
  omega
theorem rt0 : rt 0 = 0 := rt_uniq (by decide) (by decide) (by decide)
theorem rt1 : rt 1 = 1 := rt_uniq (by decide) (by decide) (by decide)
theorem isq0 : isq 0 = true := by unfold isq; rw [rt0]; decide
theorem isq1 : isq 1 = true := by unfold isq; rw [rt1]; decide
theorem isq_eq {n : Int} (h : isq n = true) : rt n * rt n = n := of_decide_eq_true h
theorem rt_pos {n : Int} (h : 0 < n) (hs : isq n = true) : 0 < rt n := by
  have e := isq_eq hs
  rcases Int.lt_or_le 0 (rt n) with z | z
  · exact z
  · have : rt n = 0 := by have := rt_nonneg n; omega
    rw [this] at e
    omega
theorem rt_le {n b : Int} (h : 0 ≤ n) (hb : 0 ≤ b) (h2 : n < (b + 1) * (b + 1)) : rt n ≤ b := by
  have q := (rt_spec h).1
  have : rt n < b + 1 := sq_lt (rt_nonneg n) (by omega) (by omega)
  omega
theorem low01 : low 0 1 = (0, 1) := by decide
/-! ### the five numbers -/
abbrev Five := Int × Int × Int × Int × Int
/-- the root's quotient is a quotient's square -/
def both (p : Int × Int) : Bool := isq p.1 && isq p.2
def form (f : Five) : Five :=
  let u := f.1; let l := f.2.1; let m := f.2.2.1; let r := low f.2.2.2.1 f.2.2.2.2
  if both r = true then
    let q := low (u * rt r.2 + m * rt r.1 * l) (l * rt r.2)
    (q.1, q.2, 0, 0, 1)
  else
    let q := low u l
    if m = 0 then (q.1, q.2, 0, 0, 1) else (q.1, q.2, m, r.1, r.2)
structure Right (f : Five) : Prop where
  l : 0 < f.2.1
  m : f.2.2.1 = -1 ∨ f.2.2.1 = 0 ∨ f.2.2.1 = 1
  a : 0 ≤ f.2.2.2.1
  b : 0 < f.2.2.2.2
/-- the one form -/
structure Canon (f : Five) : Prop where
  l : 0 < f.2.1
  g : g f.1 f.2.1 = 1
  m : (f.2.2.1 = 0 ∧ f.2.2.2.1 = 0 ∧ f.2.2.2.2 = 1) ∨
    ((f.2.2.1 = -1 ∨ f.2.2.1 = 1) ∧ 0 ≤ f.2.2.2.1 ∧ 0 < f.2.2.2.2 ∧ PH.g f.2.2.2.1 f.2.2.2.2 = 1 ∧ both (f.2.2.2.1, f.2.2.2.2) = false)
theorem canon_form {f : Five} (h : Right f) : Canon (form f) := by
  obtain ⟨u, l, m, a, b⟩ := f
  obtain ⟨hl, hm, ha, hb⟩ := h
  dsimp only at hl hm ha hb
  unfold form
  dsimp only
  by_cases c : both (low a b) = true
  · rw [if_pos c]
    have hs : isq (low a b).2 = true := by unfold both at c; rw [Bool.and_eq_true] at c; exact c.2
    have hp : 0 < l * rt (low a b).2 := Int.mul_pos hl (rt_pos (low2_pos hb) hs)
    exact ⟨low2_pos hp, g_low hp, .inl ⟨rfl, rfl, rfl⟩⟩
  · rw [if_neg c]
    by_cases z : m = 0
    · rw [if_pos z]
      exact ⟨low2_pos hl, g_low hl, .inl ⟨rfl, rfl, rfl⟩⟩
    · rw [if_neg z]
      refine ⟨low2_pos hl, g_low hl, .inr ⟨?_, low1_nonneg ha hb, low2_pos hb, g_low hb, ?_⟩⟩
      · dsimp only; omega
      · dsimp only
        cases e : both ((low a b).1, (low a b).2) with
        | false => rfl
        | true => exact absurd e c
theorem form_canon {f : Five} (h : Canon f) : form f = f := by
  obtain ⟨u, l, m, a, b⟩ := f
  obtain ⟨hl, hg, hm⟩ := h
  dsimp only at hl hg hm
  unfold form
  dsimp only
  rcases hm with ⟨rfl, rfl, rfl⟩ | ⟨hm, ha, hb, hgr, hn⟩
  · rw [low01]
    rw [if_pos (show both (0, 1) = true by unfold both; rw [isq0, isq1]; rfl)]
    dsimp only
    rw [rt1, rt0, Int.mul_one, Int.mul_one, Int.zero_mul, Int.zero_mul, Int.add_zero, low_id hg]
  · rw [low_id hgr, if_neg (by rw [hn]; exact Bool.false_ne_true), if_neg (by omega), low_id hg]
theorem form_form {f : Five} (h : Right f) : form (form f) = form f := form_canon (canon_form h)
theorem canon_right {f : Five} (h : Canon f) : Right f := by
  obtain ⟨hl, _, hm⟩ := h
  rcases hm with ⟨h1, h2, h3⟩ | ⟨h1, h2, h3, _⟩
  · exact ⟨hl, by omega, by omega, by omega⟩
  · exact ⟨hl, by omega, h2, h3⟩
/-- as the program goes about it: the root is dropped first where its sign is 0 -/
theorem form_zero {u l a b : Int} (hl : 0 < l) (hb : 0 < b) : form (u, l, 0, a, b) = ((low u l).1, (low u l).2, 0, 0, 1) := by
  unfold form
  dsimp only
  by_cases c : both (low a b) = true
  · rw [if_pos c]
    have hs : isq (low a b).2 = true := by unfold both at c; rw [Bool.and_eq_true] at c; exact c.2
    rw [Int.zero_mul, Int.zero_mul, Int.add_zero, low_mul _ _ _ (rt_pos (low2_pos hb) hs)]
  · rw [if_neg c, if_pos rfl]
/-! ### how great they are -/
structure Small (f : Five) : Prop where
  u : f.1.natAbs ≤ 999999
  l : f.2.1 ≤ 999999
  a : f.2.2.2.1 ≤ 999999
  b : f.2.2.2.2 ≤ 999999
structure Fits (f : Five) : Prop where
  u : f.1.natAbs ≤ 2000000000
  l : f.2.1 ≤ 1000000000
  a : f.2.2.2.1 ≤ 999999
  b : f.2.2.2.2 ≤ 999999
theorem rt_small {n : Int} (h : 0 ≤ n) (h2 : n ≤ 999999) : rt n ≤ 999 := rt_le h (by decide) (by omega)
theorem mul_abs_le {x y : Int} {a b : Nat} (hx : x.natAbs ≤ a) (hy : y.natAbs ≤ b) : (x * y).natAbs ≤ a * b := by
  rw [Int.natAbs_mul]
  exact Nat.mul_le_mul hx hy
theorem upper_fits {u l m x y : Int} (hu : u.natAbs ≤ 999999) (hl : 0 < l) (hl2 : l ≤ 999999) (hm : m = -1 ∨ m = 0 ∨ m = 1) (hx : 0 ≤ x) (hx2 : x ≤ 999) (hy : 0 ≤ y) (hy2 : y ≤ 999) :
    (u * y + m * x * l).natAbs ≤ 2000000000 ∧ l * y ≤ 1000000000 ∧ 0 ≤ l * y := by
  have h1 : (u * y).natAbs ≤ 999999 * 999 := mul_abs_le hu (by omega)
  have h2 : (m * x).natAbs ≤ 1 * 999 := mul_abs_le (by omega) (by omega)
  have h3 : (m * x * l).natAbs ≤ (1 * 999) * 999999 := mul_abs_le h2 (by omega)
  have h4 : (l * y).natAbs ≤ 999999 * 999 := mul_abs_le (by omega) (by omega)
  have h5 := Int.mul_nonneg (Int.le_of_lt hl) hy
  omega
theorem form_fits {f : Five} (h : Right f) (s : Small f) : Fits (form f) := by
  obtain ⟨u, l, m, a, b⟩ := f
  obtain ⟨hl, hm, ha, hb⟩ := h
  obtain ⟨su, sl, sa, sb⟩ := s
  dsimp only at hl hm ha hb su sl sa sb
  have r1 := low1_le (b := b) ha hb
  have r2 := low2_le (a := a) hb
  have n1 := low1_nonneg ha hb
  have n2 := low2_pos (a := a) hb
  unfold form
  dsimp only
  by_cases c : both (low a b) = true
  · rw [if_pos c]
    have hs : isq (low a b).2 = true := by unfold both at c; rw [Bool.and_eq_true] at c; exact c.2
    have hp : 0 < l * rt (low a b).2 := Int.mul_pos hl (rt_pos n2 hs)
    obtain ⟨k1, k2, _⟩ := upper_fits (u := u) (l := l) (m := m) (x := rt (low a b).1) (y := rt (low a b).2) su hl sl hm (rt_nonneg _) (rt_small n1 (by omega)) (rt_nonneg _) (rt_small (by omega) (by omega))
    exact ⟨Nat.le_trans (low1_abs hp) k1, Int.le_trans (low2_le hp) k2, (by decide : (0:Int) ≤ 999999), (by decide : (1:Int) ≤ 999999)⟩
  · rw [if_neg c]
    have q1 := low1_abs (a := u) hl
    have q2 := low2_le (a := u) hl
    by_cases z : m = 0
    · rw [if_pos z]
      exact ⟨by dsimp only; omega, by dsimp only; omega, (by decide : (0:Int) ≤ 999999), (by decide : (1:Int) ≤ 999999)⟩
    · rw [if_neg z]
      exact ⟨by dsimp only; omega, by dsimp only; omega, by dsimp only; omega, by dsimp only; omega⟩
end PH
namespace PH
open PySem PySem.Spec PyProof.Rows L2
def topS (i : Nat) : Stmt := PySem.Challenge.pw_pointhouse_k01_exacts_made_and_refused.main.body.getD i (.Pass ⟨0, 0, 0, 0⟩)
abbrev sWhole : Stmt := topS 20
abbrev sLow : Stmt := topS 22
abbrev sSq : Stmt := topS 23
section
variable {P : Program} {w : World} {K : PySem.W.Frag} {mg : Str → Option Value} {base : Heap}
/-! ### lowest_terms -/
def spLow : Sp := fun vs H Q _ => ∃ a b : Int, vs = [.int a, .int b] ∧ 0 < b ∧ b < 2 ^ 60 ∧
  ∀ p, H p = none → Q (.ref p) (upd H p (.tup [.int (low a b).1, .int (low a b).2]))
theorem div_ok {a b : Int} {x : Int} (h : 0 < b) (h2 : b < 2 ^ 60) : CDivW x (g a b) :=
  wide_div (b := 60) (g_pos h) (by have := g_le (a := a) h; have := g_pos (a := a) h; omega) (by decide) (by decide)
theorem scLow : FnScope ["top", "bottom", "shared"] ["top", "bottom"] (defScope sLow) := ⟨rfl, rfl, rfl, by decide +kernel, rfl, by decide +kernel, by decide +kernel⟩
theorem ok_low {f : Addr} {fd : FuncData} (F : Fun K "lowest_terms" "lowest_terms" sLow f fd) (mG : mg "gcd" = some (.builtin "math.gcd")) :
    FnOk P w K mg base CX0 1 f fd ["top", "bottom"] spLow := by
  refine F.ok scLow ?_ ?_
  · rintro vs H Q E ⟨a, b, rfl, _⟩
    rfl
  intro cdv A outer s H vs Q E hr h
  obtain ⟨a, b, rfl, hb, hb2, k⟩ := h
  refine ⟨_, pss_cons (ps_set (i := 2) scLow.nd rfl (Or.inl rfl) (pe_callBfun cr_gcd rfl mG (pa_cons (pv 0) (pa_cons (pv 1) pa_nil))))
    (pss_one (ps_ret (pe_tup (pa_cons (pe_op op_fdivW (pv 0) (pv 2)) (pa_cons (pe_op op_fdivW (pv 1) (pv 2)) pa_nil))))), ?_⟩
  refine ⟨_, rfl, _, rfl, a, b, rfl, ?_⟩
  refine ⟨_, rfl, _, rfl, a, g a b, rfl, rfl, div_ok hb hb2, _, rfl, _, rfl, b, g a b, rfl, rfl, div_ok hb hb2, (by show 2 ≤ sizeLine; decide), ?_⟩
  exact k
/-! ### is_square -/
def spSq : Sp := fun vs H Q _ => ∃ a : Int, vs = [.int a] ∧ 0 ≤ a ∧ a < 2 ^ 100 ∧ Q (.bl (isq a)) H
theorem scSq : FnScope ["number"] ["number"] (defScope sSq) := ⟨rfl, rfl, rfl, by decide +kernel, rfl, by decide +kernel, by decide +kernel⟩
theorem rt_abs {a : Int} (h : 0 ≤ a) (h2 : a < 2 ^ 100) : (rt a).natAbs < 2 ^ 64 := by
  have e : ((2 : Int) ^ 50 - 1 + 1) * (2 ^ 50 - 1 + 1) = 2 ^ 100 := by decide
  have q := rt_le (n := a) (b := 2 ^ 50 - 1) h (by decide) (by rw [e]; exact h2)
  have := rt_nonneg a
  omega
theorem ok_sq {f : Addr} {fd : FuncData} (F : Fun K "is_square" "is_square" sSq f fd) (mI : mg "isqrt" = some (.builtin "math.isqrt")) :
    FnOk P w K mg base CX0 1 f fd ["number"] spSq := by
  refine F.ok scSq ?_ ?_
  · rintro vs H Q E ⟨a, rfl, _⟩
    rfl
  intro cdv A outer s H vs Q E hr h
  obtain ⟨a, rfl, ha, ha2, k⟩ := h
  refine ⟨_, pss_one (ps_ret (pe_cmpR op_eq (pe_op op_pow (pe_callBfun cr_isqrt rfl mI (pa_cons (pv 0) pa_nil)) pe_int) (pv 0) (nomark _))), ?_⟩
  refine ⟨_, rfl, a, rfl, ha, (by omega), rt a, 2, rfl, rfl, ⟨by decide, by decide, rt_abs ha ha2⟩, _, rfl, rfl, ?_⟩
  have e : rt a ^ (Int.toNat 2) = rt a * rt a := by show rt a ^ 2 = _; rw [Int.pow_succ, Int.pow_succ, Int.pow_zero, Int.one_mul]
  show Q (V.bl (decide (V.int (rt a ^ Int.toNat 2) = V.int a))) H
  rw [e]
  have e2 : decide (V.int (rt a * rt a) = V.int a) = isq a := by
    unfold isq
    exact decide_eq_decide.mpr ⟨fun z => V.int.inj z, fun z => by rw [z]⟩
  rw [e2]
  exact k
/-! ### is_whole: of anything -/
/-- what a thing is to isinstance: an int (no truth), or something else -/
def NotW (K : PySem.W.Frag) (H : Hp) (v : V) : Prop :=
  (∃ b, v = .bl b) ∨ ∃ t, TyX K H v t ∧ PySem.W.kitOne K t (.type "int") = some false
def spWhole (K : PySem.W.Frag) : Sp := fun vs H Q _ => ∃ v : V, vs = [v] ∧ ((∃ i, v = .int i) ∧ Q (.bl true) H ∨ NotW K H v ∧ Q (.bl false) H)
theorem scWhole : FnScope ["thing"] ["thing"] (defScope sWhole) := ⟨rfl, rfl, rfl, by decide +kernel, rfl, by decide +kernel, by decide +kernel⟩
structure TIs (mg : Str → Option Value) : Prop where
  is : mg "isinstance" = none
  int : mg "int" = none
  bool : mg "bool" = none
theorem kit_ii : PySem.W.kitOne K (.type "int") (.type "int") = some true := kit_ty (by decide +kernel)
theorem kit_ib : PySem.W.kitOne K (.type "int") (.type "bool") = some false := kit_ty (by decide +kernel)
theorem kit_bi : PySem.W.kitOne K (.type "bool") (.type "int") = some true := kit_ty (by decide +kernel)
theorem kit_bb : PySem.W.kitOne K (.type "bool") (.type "bool") = some true := kit_ty (by decide +kernel)
theorem ok_whole {f : Addr} {fd : FuncData} (F : Fun K "is_whole" "is_whole" sWhole f fd) (T : TIs mg) :
    FnOk P w K mg base CX0 1 f fd ["thing"] (spWhole K) := by
  refine F.ok scWhole ?_ ?_
  · rintro vs H Q E ⟨a, rfl, _⟩
    rfl
  intro cdv A outer s H vs Q E hr h
  obtain ⟨v, rfl, h⟩ := h
  refine ⟨_, pss_one (ps_ret (pe_and (pe_callB call_isi (by rfl) T.is (by decide +kernel) (pa_cons (pv 0) (pa_cons (pe_bltn (by rfl) T.int (by decide +kernel) (show RelV (.ty "int") (.type "int") from rfl)) pa_nil)))
    (pe_one (pe_not (pe_callB call_isi (by rfl) T.is (by decide +kernel) (pa_cons (pv 0) (pa_cons (pe_bltn (by rfl) T.bool (by decide +kernel) (show RelV (.ty "bool") (.type "bool") from rfl)) pa_nil))))))), ?_⟩
  rcases h with ⟨⟨i, rfl⟩, k⟩ | ⟨hn, k⟩
  · refine ⟨_, rfl, V.int i, V.ty "int", _, _, true, rfl, .ty _, .base (.int i), kit_ii, true, rfl, iteT ?_⟩
    exact ⟨_, rfl, V.int i, V.ty "bool", _, _, false, rfl, .ty _, .base (.int i), kit_ib, false, rfl, k⟩
  rcases hn with ⟨b, rfl⟩ | ⟨t, ht, hk⟩
  · refine ⟨_, rfl, V.bl b, V.ty "int", _, _, true, rfl, .ty _, .base (.bl b), kit_bi, true, rfl, iteT ?_⟩
    exact ⟨_, rfl, V.bl b, V.ty "bool", _, _, true, rfl, .ty _, .base (.bl b), kit_bb, true, rfl, k⟩
  · exact ⟨_, rfl, v, V.ty "int", _, _, false, rfl, .ty _, ht, hk, false, rfl, iteF k⟩
end
end PH
namespace PH
open PySem PySem.Spec PyProof.Rows L2
abbrev sFields : Stmt := topS 26
/-- what is known of the class Exact, at C -/
structure TEx (K : PySem.W.Frag) (mg : Str → Option Value) (C : Addr) : Prop where
  cl : Cls K C
  nT : NoAttr K C "top"
  nB : NoAttr K C "bottom"
  nS : NoAttr K C "sign"
  nO : NoAttr K C "over"
  nU : NoAttr K C "under"
  mgC : mg "Exact" = some (.ref C)
  ha : PySem.W.findIn K (.ref C) "__class__" = some (some (.builtin "object.__class__"))
  hn : PySem.W.specialIn K (.builtin "object.__class__") "__get__" = some (some (.builtin "getset_descriptor.__get__"))
  htk : PySem.W.takesIn K (.builtin "object.__class__") = some true
  hm : PySem.W.mroIn K C (.type "object") = some true
  ki : PySem.W.kitOne K (.ref C) (.type "int") = some false
  kc : PySem.W.kitOne K (.ref C) (.ref C) = some true
  kb : PySem.W.kitOne K (.ref C) (.type "bool") = some false
/-- a thing that is no whole number -/
inductive Odd (C : Addr) (H : Hp) : V → Prop where
  | non : Odd C H .non
  | bl (b : Bool) : Odd C H (.bl b)
  | str (z : Str) : Odd C H (.str z)
  | lst {a : Addr} {xs : List V} (e : H a = some (.lst xs)) : Odd C H (.ref a)
  | tup {a : Addr} {xs : List V} (e : H a = some (.tup xs)) : Odd C H (.ref a)
  | dict {a : Addr} {kvs : List (Key × V)} (e : H a = some (.dK kvs)) : Odd C H (.ref a)
  | ins {a dx : Addr} {fs : List (Str × V)} (e : H a = some (.ins C dx fs)) : Odd C H (.ref a)
theorem Odd.same {C : Addr} {H H' : Hp} {v : V} (s : Same H H') (h : Odd C H v) : Odd C H' v := by
  cases h with
  | non => exact .non
  | bl b => exact .bl b
  | str z => exact .str z
  | lst e => exact .lst (s _ _ e)
  | tup e => exact .tup (s _ _ e)
  | dict e => exact .dict (s _ _ e)
  | ins e => exact .ins (s _ _ e)
theorem Odd.notW {K : PySem.W.Frag} {mg : Str → Option Value} {C : Addr} {H : Hp} {v : V} (T : TEx K mg C) (h : Odd C H v) : NotW K H v := by
  cases h with
  | bl b => exact .inl ⟨b, rfl⟩
  | non => exact .inr ⟨_, .base .non, kit_ty (by decide +kernel)⟩
  | str z => exact .inr ⟨_, .base (.str z), kit_ty (by decide +kernel)⟩
  | lst e => exact .inr ⟨_, .base (.lst e), kit_ty (by decide +kernel)⟩
  | tup e => exact .inr ⟨_, .base (.tup e), kit_ty (by decide +kernel)⟩
  | dict e => exact .inr ⟨_, .base (.dK e), kit_ty (by decide +kernel)⟩
  | ins e => exact .inr ⟨_, .base (.ins e T.cl T.ha T.hn T.htk T.hm), T.ki⟩
theorem same_new {H : Hp} {p : Addr} {o : HO} (h : H p = none) : Same H (upd H p o) := fun b u e => by rw [upd_ne (ne_of_none e h)]; exact e
theorem same_at {H H' : Hp} {p : Addr} {o : HO} (s : Same H H') (h : H p = none) : Same H (upd H' p o) := fun b u e => by rw [upd_ne (ne_of_none e h)]; exact s b u e
theorem yes_if {σ : L2.St} {H : Hp} {A B : Hp → Prop} (h : A H) : tYes σ H (fun b H3 => if b = true then A H3 else B H3) := by
  show if true = true then A H else B H
  rw [if_pos rfl]
  exact h
theorem take_more {α : Type} {l : List α} {i : Nat} {x : α} (h : l[i]? = some x) : l.take (i + 1) = l.take i ++ [x] := by
  rw [List.take_add_one, h]
  rfl
/-- any of five: a whole number or not -/
def Any (C : Addr) (H : Hp) (v : V) : Prop := (∃ i, v = .int i) ∨ Odd C H v
theorem Any.same {C : Addr} {H H' : Hp} {v : V} (s : Same H H') (h : Any C H v) : Any C H' v := h.imp id fun o => o.same s
def isInt : V → Bool
  | .int _ => true
  | _ => false
theorem Odd.isInt {C : Addr} {H : Hp} {v : V} (h : Odd C H v) : isInt v = false := by cases h <;> rfl
theorem spWhole_any {K : PySem.W.Frag} {mg : Str → Option Value} {C : Addr} {H : Hp} {v : V} {Q : VK} {E : XK} (T : TEx K mg C) (h : Any C H v) (q : Q (.bl (PH.isInt v)) H) : spWhole K [v] H Q E := by
  refine ⟨v, rfl, ?_⟩
  rcases h with ⟨i, rfl⟩ | o
  · exact .inl ⟨⟨i, rfl⟩, q⟩
  · refine .inr ⟨o.notW T, ?_⟩
    rw [o.isInt] at q
    exact q
/-! ### are_fields -/
def rightB : List V → Bool
  | [.int _, .int l, .int m, .int a, .int b] => decide (0 < l) && (inV (.int m) [.int (-1), .int 0, .int 1] && (decide (0 ≤ a) && decide (0 < b)))
  | _ => false
def spFields (C : Addr) : Sp := fun vs H Q _ => vs.length = 5 ∧ (∀ v ∈ vs, Any C H v) ∧ ∀ H', Same H H' → Q (.bl (rightB vs)) H'
section
variable {P : Program} {w : World} {K : PySem.W.Frag} {mg : Str → Option Value} {base : Heap} {C : Addr}
abbrev nFields : List Str := ["top", "bottom", "sign", "over", "under", "thing"]
theorem scFields : FnScope nFields ["top", "bottom", "sign", "over", "under"] (defScope sFields) := ⟨rfl, rfl, rfl, by decide +kernel, rfl, by decide +kernel, by decide +kernel⟩
theorem all5 {v0 v1 v2 v3 v4 : V} (h : ∀ i, i ∈ [v0, v1, v2, v3, v4] → isInt i = true) : ∃ a b c d e, v0 = .int a ∧ v1 = .int b ∧ v2 = .int c ∧ v3 = .int d ∧ v4 = .int e := by
  have f : ∀ v, isInt v = true → ∃ i, v = .int i := by intro v; cases v <;> simp [isInt]
  obtain ⟨a, h0⟩ := f v0 (h _ (by simp))
  obtain ⟨b, h1⟩ := f v1 (h _ (by simp))
  obtain ⟨c, h2⟩ := f v2 (h _ (by simp))
  obtain ⟨d, h3⟩ := f v3 (h _ (by simp))
  obtain ⟨e, h4⟩ := f v4 (h _ (by simp))
  exact ⟨a, b, c, d, e, h0, h1, h2, h3, h4⟩
theorem rightB_none {v0 v1 v2 v3 v4 : V} (h : ([v0, v1, v2, v3, v4].map isInt).all id = false) : rightB [v0, v1, v2, v3, v4] = false := by
  cases e : rightB [v0, v1, v2, v3, v4] with
  | false => rfl
  | true =>
    exfalso
    unfold rightB at e
    split at e
    · rename_i q
      simp only [List.cons.injEq, and_true] at q
      obtain ⟨rfl, rfl, rfl, rfl, rfl⟩ := q
      simp [isInt] at h
    · cases e
theorem ok_fields {f fW : Addr} {fd fdW : FuncData} (F : Fun K "are_fields" "are_fields" sFields f fd) (T : TEx K mg C) (I : TIs mg) (mAll : mg "all" = none)
    (FW : Fun K "is_whole" "is_whole" sWhole fW fdW) (bW : Binds K fdW ["thing"] []) (mW : mg "is_whole" = some (.ref fW)) :
    FnOk P w K mg base CX0 2 f fd ["top", "bottom", "sign", "over", "under"] (spFields C) := by
  have GW : FnOk P w K mg base CX0 1 fW fdW ["thing"] (spWhole K) := ok_whole FW I
  refine F.ok scFields ?_ ?_
  · rintro vs H Q E ⟨h, _⟩
    exact h
  intro cdv A outer s H vs Q E hr h
  obtain ⟨hl, hv, k⟩ := h
  match vs, hl with
  | [v0, v1, v2, v3, v4], _ =>
  refine ⟨_, pss_cons (ps_if (pt_not (pt_val (pe_callB (cr_all rfl) (by rfl) mAll (by decide +kernel) (pa_cons
      (pe_lc (own := [("thing", 5)]) (g := gName 5) (tt := tYes) rfl scFields.nd (pi_tup (pe_tup (pa_cons (pv 0) (pa_cons (pv 1) (pa_cons (pv 2) (pa_cons (pv 3) (pa_cons (pv 4) pa_nil)))))))
        (blkOk_by (own := [("thing", 5)]) (N := nFields) (sc := defScope sFields) (by decide +kernel)) (fun _ _ _ _ _ => pg_name (i := 5) scFields.nd rfl (Or.inl rfl)) (fun _ _ _ _ _ => pts_nil)
        (fun _ _ _ _ _ => pe_call GW hr rfl mW FW.kp bW .nil pass0 (pa_cons (pv 5) pa_nil))) pa_nil)))) (pss_one (ps_ret pe_bl)) pss_nil)
    (pss_one (ps_ret (pe_and (pe_cmpR op_gt (pv 1) pe_int (nomark _)) (pe_and (pe_cmpR op_in_seq (pv 2) (pe_tup (pa_cons (pe_un un_neg pe_int) (pa_cons pe_int (pa_cons pe_int pa_nil)))) (by rfl))
      (pe_and (pe_cmpR op_ge (pv 3) pe_int (nomark _)) (pe_one (pe_cmpR op_gt (pv 4) pe_int (nomark _)))))))), ?_⟩
  refine ⟨_, rfl, _, rfl, _, rfl, _, rfl, _, rfl, (by show 5 ≤ sizeLine; decide), fun p hp => ⟨p, rfl, ⟨_, SqT.of upd_same⟩, ?_⟩⟩
  intro D hD
  have s0 : Same H (upd H p (.tup [v0, v1, v2, v3, v4])) := same_new hp
  refine lc_tup (K := K) (a := p) (xs := [v0, v1, v2, v3, v4]) (fun i H' => Same (upd H p (.tup [v0, v1, v2, v3, v4])) H' ∧ H' D = some (.lst (([v0, v1, v2, v3, v4].take i).map fun v => V.bl (PH.isInt v))))
    ⟨same_new hD, upd_same⟩ (fun i H' _ ⟨h, _⟩ => SqT.of (h _ _ upd_same)) ?_ ?_
  · rintro i x H' hx ⟨s1, hd⟩
    refine ⟨rfl, yes_if ?_⟩
    refine ⟨_, rfl, ?_⟩
    dsimp only [tNil, List.append_nil]
    refine spWhole_any T ((hv x (List.mem_of_getElem? hx)).same (s0.trans s1)) ⟨_, hd, ?_, same_at s1 hD, ?_⟩
    · rw [List.length_map, List.length_take]
      exact Nat.lt_of_le_of_lt (Nat.min_le_right _ _) (by show 5 < sizeLine; decide)
    · rw [upd_same, take_more hx, List.map_append]
      rfl
  · rintro H' ⟨s1, hd⟩
    have hd' : H' D = some (.lst (([v0, v1, v2, v3, v4].map isInt).map V.bl)) := by rw [hd]; rfl
    refine ⟨D, _, rfl, SqL.of hd', _, rfl, ?_⟩
    cases e : ([v0, v1, v2, v3, v4].map isInt).all id with
    | false =>
      refine iteT ?_
      have z := k _ (s0.trans s1)
      rw [rightB_none e] at z
      exact z
    | true =>
      refine iteF ?_
      obtain ⟨a, b, c, d, e', rfl, rfl, rfl, rfl, rfl⟩ := all5 fun v hv => by
        have := List.all_eq_true.mp e (isInt v) (List.mem_map_of_mem hv)
        exact this
      have z := fun H2 (s2 : Same H' H2) => k H2 ((s0.trans s1).trans s2)
      have er : rightB [.int a, .int b, .int c, .int d, .int e'] = (decide (0 < b) && (inV (.int c) [.int (-1), .int 0, .int 1] && (decide (0 ≤ d) && decide (0 < e')))) := rfl
      rw [er] at z
      refine ⟨_, rfl, b, 0, rfl, rfl, _, rfl, ?_⟩
      cases e1 : decide (0 < b) with
      | false =>
        rw [e1] at z
        exact iteF (z _ (Same.refl _))
      | true =>
        rw [e1] at z
        refine iteT ?_
        refine ⟨_, rfl, _, rfl, (by show 3 ≤ sizeLine; decide), fun q hq => ?_⟩
        refine ⟨q, _, rfl, .inr (SqT.of upd_same), rfl, rfl, _, rfl, ?_⟩
        rw [if_neg Bool.false_ne_true]
        show if inV (V.int c) [V.int (-1), V.int 0, V.int 1] = true then _ else _
        have s3 : Same H' (upd H' q (.tup [.int (-1), .int 0, .int 1])) := same_new hq
        cases e2 : inV (V.int c) [V.int (-1), V.int 0, V.int 1] with
        | false =>
          rw [e2] at z
          exact iteF (z _ s3)
        | true =>
          rw [e2] at z
          refine iteT ?_
          refine ⟨_, rfl, d, 0, rfl, rfl, _, rfl, ?_⟩
          cases e3 : decide (0 ≤ d) with
          | false =>
            rw [e3] at z
            exact iteF (z _ s3)
          | true =>
            rw [e3] at z
            exact iteT ⟨_, rfl, e', 0, rfl, rfl, z _ s3⟩
end
end PH
namespace PH
open PySem PySem.Spec PyProof.Rows L2
open C8 (pss_cut tCut)
abbrev sInit : Stmt := inClass (topS 25) 0
abbrev bInit : List Stmt := defBody sInit
def fiveV (f : Five) : List V := [.int f.1, .int f.2.1, .int f.2.2.1, .int f.2.2.2.1, .int f.2.2.2.2]
def flds (f : Five) : List (Str × V) := [("top", .int f.1), ("bottom", .int f.2.1), ("sign", .int f.2.2.1), ("over", .int f.2.2.2.1), ("under", .int f.2.2.2.2)]
theorem right_of_B {f : Five} (h : rightB (fiveV f) = true) : Right f := by
  obtain ⟨u, l, m, a, b⟩ := f
  have er : rightB (fiveV (u, l, m, a, b)) = (decide (0 < l) && (inV (.int m) [.int (-1), .int 0, .int 1] && (decide (0 ≤ a) && decide (0 < b)))) := rfl
  rw [er] at h
  simp only [Bool.and_eq_true, decide_eq_true_eq] at h
  obtain ⟨h1, h2, h3, h4⟩ := h
  refine ⟨h1, ?_, h3, h4⟩
  simp [inV, eqV] at h2
  dsimp only
  omega
theorem B_of_right {f : Five} (h : Right f) : rightB (fiveV f) = true := by
  obtain ⟨u, l, m, a, b⟩ := f
  obtain ⟨h1, h2, h3, h4⟩ := h
  dsimp only at h1 h2 h3 h4
  have er : rightB (fiveV (u, l, m, a, b)) = (decide (0 < l) && (inV (.int m) [.int (-1), .int 0, .int 1] && (decide (0 ≤ a) && decide (0 < b)))) := rfl
  rw [er]
  simp only [Bool.and_eq_true, decide_eq_true_eq]
  refine ⟨h1, ?_, h3, h4⟩
  simp [inV, eqV]
  omega
theorem ints_of_B {vs : List V} (h : rightB vs = true) : ∃ f : Five, vs = fiveV f := by
  unfold rightB at h
  split at h
  · exact ⟨(_, _, _, _, _), rfl⟩
  · cases h
theorem upper_big {u l m x y : Int} (hu : u.natAbs ≤ 2000000000) (hl : 0 < l) (hl2 : l ≤ 1000000000) (hm : m = -1 ∨ m = 0 ∨ m = 1) (hx : 0 ≤ x) (hx2 : x ≤ 999) (hy : 0 ≤ y) (hy2 : y ≤ 999) :
    (u * y).natAbs ≤ 2000000000 * 999 ∧ (m * x * l).natAbs ≤ 999 * 1000000000 ∧ l * y ≤ 1000000000 * 999 := by
  have h1 : (u * y).natAbs ≤ 2000000000 * 999 := mul_abs_le hu (by omega)
  have h2 : (m * x).natAbs ≤ 1 * 999 := mul_abs_le (by omega) (by omega)
  have h3 : (m * x * l).natAbs ≤ (1 * 999) * 1000000000 := mul_abs_le h2 (by omega)
  have h4 : (l * y).natAbs ≤ 1000000000 * 999 := mul_abs_le (by omega) (by omega)
  omega
theorem if_t {c : Bool} {A B : Prop} (hc : c = true) (h : A) : if c = true then A else B := by rw [if_pos hc]; exact h
theorem if_f {c : Bool} {A B : Prop} (hc : c = false) (h : B) : if c = true then A else B := by rw [hc, if_neg Bool.false_ne_true]; exact h
theorem dec_int {i j : Int} : decide (V.int i = V.int j) = decide (i = j) := decide_eq_decide.mpr ⟨fun z => V.int.inj z, fun z => by rw [z]⟩
theorem putF5 (a b c d e : V) : putF "under" e (putF "over" d (putF "sign" c (putF "bottom" b (putF "top" a [])))) = ([("top", a), ("bottom", b), ("sign", c), ("over", d), ("under", e)] : List (Str × V)) := by
  have h1 : ¬ ("top" : Str) = "bottom" := by decide +kernel
  have h2 : ¬ ("top" : Str) = "sign" := by decide +kernel
  have h3 : ¬ ("bottom" : Str) = "sign" := by decide +kernel
  have h4 : ¬ ("top" : Str) = "over" := by decide +kernel
  have h5 : ¬ ("bottom" : Str) = "over" := by decide +kernel
  have h6 : ¬ ("sign" : Str) = "over" := by decide +kernel
  have h7 : ¬ ("top" : Str) = "under" := by decide +kernel
  have h8 : ¬ ("bottom" : Str) = "under" := by decide +kernel
  have h9 : ¬ ("sign" : Str) = "under" := by decide +kernel
  have h10 : ¬ ("over" : Str) = "under" := by decide +kernel
  simp only [putF, if_neg h1, if_neg h2, if_neg h3, if_neg h4, if_neg h5, if_neg h6, if_neg h7, if_neg h8, if_neg h9, if_neg h10]
/-- Exact.__init__ -/
def spInit (C NX : Addr) : Sp := fun vs H Q E => ∃ (p dx : Addr) (xs : List V), vs = .ref p :: xs ∧ xs.length = 5 ∧ H p = some (.ins C dx []) ∧ (∀ v ∈ xs, Any C H v) ∧
  (rightB xs = false → ∀ H', Same H H' → E (.ref NX) none H') ∧
  ∀ f : Five, xs = fiveV f → Right f → Fits f ∧ ∀ H', H' p = some (.ins C dx (flds (form f))) → (∀ b o, H b = some o → b ≠ p → H' b = some o) → Q .non H'
structure TNo (P : Program) (K : PySem.W.Frag) (mg : Str → Option Value) (NX : Addr) (bm : List Value) : Prop where
  gP : mg "NoExact" = some (.ref NX)
  xP : PySem.W.excIn K NX [.type "ValueError", .type "Exception", .type "BaseException", .type "object"] "ValueError.__new__" = true
  kP : PySem.W.keepIn K (.ref NX) = true
  bP : PySem.W.subIn K (.ref NX) (.type "BaseException") = some true
  tP : PySem.W.typeIn K (.ref NX) = some (.type "type")
section
variable {P : Program} {w : World} {K : PySem.W.Frag} {mg : Str → Option Value} {base : Heap} {C NX : Addr}
theorem scInit : FnScope ["self", "top", "bottom", "sign", "over", "under", "parts"] ["self", "top", "bottom", "sign", "over", "under"] (defScope sInit) :=
  ⟨rfl, rfl, rfl, by decide +kernel, rfl, by decide +kernel, by decide +kernel⟩
structure Fns (K : PySem.W.Frag) (mg : Str → Option Value) (f : Addr) (fd : FuncData) (x : Str) (i : Nat) (ps : List Str) : Prop where
  F : Fun K x x (topS i) f fd
  b : Binds K fd ps []
  m : mg x = some (.ref f)
theorem ok_init {f fF fL fS : Addr} {fd fdF fdL fdS : FuncData} (F : FunD K "__init__" "Exact.__init__" (defArgs sInit) bInit (defScope sInit) [.int 1] [("sign", .int 0), ("over", .int 0), ("under", .int 1)] f fd)
    (T : TEx K mg C) (N : TNo P K mg NX []) (mI : mg "isqrt" = some (.builtin "math.isqrt"))
    (GF : FnOk P w K mg base CX0 2 fF fdF ["top", "bottom", "sign", "over", "under"] (spFields C)) (FF : Fns K mg fF fdF "are_fields" 26 ["top", "bottom", "sign", "over", "under"])
    (GL : FnOk P w K mg base CX0 1 fL fdL ["top", "bottom"] spLow) (FL : Fns K mg fL fdL "lowest_terms" 22 ["top", "bottom"])
    (GS : FnOk P w K mg base CX0 1 fS fdS ["number"] spSq) (FS : Fns K mg fS fdS "is_square" 23 ["number"]) :
    FnOk P w K mg base (L2.CX P w) 3 f fd ["self", "top", "bottom", "sign", "over", "under"] (spInit C NX) := by
  refine F.ok scInit ?_ ?_
  · rintro vs H Q E ⟨p, dx, xs, rfl, hl, _⟩
    show xs.length + 1 = 6
    omega
  intro cdv A outer s H vs Q E hr h
  have hr1 : Room 1 _ := hr.mono (by decide)
  obtain ⟨p, dx, xs, rfl, hl, hp, hv, kE, kQ⟩ := h
  match xs, hl with
  | [v1, v2, v3, v4, v5], _ =>
  refine ⟨_, pss_cut (ps_if (pt_not (pt_val (pe_call GF hr rfl FF.m FF.F.kp FF.b .nil pass0 (pa_cons (pv 1) (pa_cons (pv 2) (pa_cons (pv 3) (pa_cons (pv 4) (pa_cons (pv 5) pa_nil)))))))) (pss_one (ps_raise rfl (takes_of rfl rfl rfl rfl) (pmk_own PySem.F.excBase_ValueError N.xP N.gP N.kP (raises_own N.bP N.tP) rfl))) pss_nil)
    (pss_cut (ps_if (pt_cmpR op_eq (pv 3) pe_int (nomark _)) (pss_one (ps_asg (pe_tup (pa_cons pe_int (pa_cons pe_int pa_nil))) (pg_tup rfl (pgs_cons (pg_name (i := 4) scInit.nd rfl (Or.inl rfl)) (pgs_cons (pg_name (i := 5) scInit.nd rfl (Or.inl rfl)) pgs_nil))))) pss_nil)
    (pss_cut (ps_asg (pe_call GL hr1 rfl FL.m FL.F.kp FL.b .nil pass0 (pa_cons (pv 4) (pa_cons (pv 5) pa_nil))) (pg_tup rfl (pgs_cons (pg_name (i := 4) scInit.nd rfl (Or.inl rfl)) (pgs_cons (pg_name (i := 5) scInit.nd rfl (Or.inl rfl)) pgs_nil))))
    (pss_cut (ps_if (PW.pt (pw_and (pt_val (pe_call GS hr1 rfl FS.m FS.F.kp FS.b .nil pass0 (pa_cons (pv 4) pa_nil))) (pw_and1 (pt_val (pe_call GS hr1 rfl FS.m FS.F.kp FS.b .nil pass0 (pa_cons (pv 5) pa_nil))))))
        (pss_cons (ps_set (i := 6) scInit.nd rfl (Or.inl rfl) (pe_callBfun cr_isqrt rfl mI (pa_cons (pv 5) pa_nil)))
        (pss_cons (ps_par (i := 1) (j := 2) rfl scInit.nd rfl rfl (by decide) rfl rfl (pa_cons (pe_op op_add (pe_op op_mul (pv 1) (pv 6)) (pe_op op_mul (pe_op op_mul (pv 3) (pe_callBfun cr_isqrt rfl mI (pa_cons (pv 4) pa_nil))) (pv 2))) (pa_cons (pe_op op_mul (pv 2) (pv 6)) pa_nil)) (by rfl))
        (pss_one (ps_asg (pe_tup (pa_cons pe_int (pa_cons pe_int (pa_cons pe_int pa_nil)))) (pg_tup rfl (pgs_cons (pg_name (i := 3) scInit.nd rfl (Or.inl rfl)) (pgs_cons (pg_name (i := 4) scInit.nd rfl (Or.inl rfl)) (pgs_cons (pg_name (i := 5) scInit.nd rfl (Or.inl rfl)) pgs_nil)))))))) pss_nil)
    (pss_cons (ps_asg (pe_call GL hr1 rfl FL.m FL.F.kp FL.b .nil pass0 (pa_cons (pv 1) (pa_cons (pv 2) pa_nil))) (pg_tup rfl (pgs_cons (pg_fld (pv 0)) (pgs_cons (pg_fld (pv 0)) pgs_nil))))
    (pss_cons (ps_fld (pv 0) (pv 3) rfl) (pss_cons (ps_fld (pv 0) (pv 4) rfl) (pss_one (ps_fld (pv 0) (pv 5) rfl)))))))), ?_⟩
  -- if not are_fields(..): raise NoExact(..)
  refine ⟨fun σ' H' => ∃ f : Five, [v1, v2, v3, v4, v5] = fiveV f ∧ Right f ∧ σ' = [some (.ref p), some v1, some v2, some v3, some v4, some v5, none] ∧ Same H H', ?_, ?_⟩
  · refine ⟨_, rfl, _, rfl, _, rfl, _, rfl, _, rfl, ?_⟩
    dsimp only [tNil]
    refine ⟨rfl, hv, fun H1 s1 => ⟨_, rfl, ?_⟩⟩
    cases e : rightB [v1, v2, v3, v4, v5] with
    | false =>
      refine if_t (by show (!rightB [v1, v2, v3, v4, v5]) = true; rw [e]; rfl) ?_
      exact kE e _ s1
    | true =>
      refine if_f (by show (!rightB [v1, v2, v3, v4, v5]) = false; rw [e]; rfl) ?_
      obtain ⟨f, hf⟩ := ints_of_B e
      exact ⟨f, hf, right_of_B (by rw [← hf]; exact e), rfl, s1⟩
  rintro σ1 H1 ⟨f, hf, R, rfl, s1⟩
  obtain ⟨fits, kR⟩ := kQ f hf R
  obtain ⟨u, l, m, a, b⟩ := f
  have hf' : v1 = .int u ∧ v2 = .int l ∧ v3 = .int m ∧ v4 = .int a ∧ v5 = .int b := by
    unfold fiveV at hf
    simpa using hf
  obtain ⟨rfl, rfl, rfl, rfl, rfl⟩ := hf'
  obtain ⟨hl0, hm0, ha0, hb0⟩ := R
  obtain ⟨fu, fl, fa, fb⟩ := fits
  dsimp only at hl0 hm0 ha0 hb0 fu fl fa fb
  -- if sign == 0: over, under = 0, 1
  refine ⟨fun σ' H' => ∃ a' b' : Int, σ' = [some (.ref p), some (.int u), some (.int l), some (.int m), some (.int a'), some (.int b'), none] ∧ Same H H' ∧ 0 ≤ a' ∧ 0 < b' ∧ a' ≤ 999999 ∧ b' ≤ 999999 ∧ (m = 0 ∧ a' = 0 ∧ b' = 1 ∨ m ≠ 0 ∧ a' = a ∧ b' = b), ?_, ?_⟩
  · refine ⟨_, rfl, rfl, _, rfl, ?_⟩
    by_cases z : m = 0
    · refine if_t (by show decide (V.int m = V.int 0) = true; rw [dec_int]; exact decide_eq_true z) ?_
      refine ⟨(by show 2 ≤ sizeLine; decide), fun q hq => ⟨q, _, rfl, SqT.of upd_same, rfl, _, _, rfl, _, _, rfl, rfl, ?_⟩⟩
      exact ⟨0, 1, rfl, s1.trans (same_new hq), by omega, by omega, by omega, by omega, .inl ⟨z, rfl, rfl⟩⟩
    · refine if_f (by show decide (V.int m = V.int 0) = false; rw [dec_int]; exact decide_eq_false z) ?_
      exact ⟨a, b, rfl, s1, ha0, hb0, fa, fb, .inr ⟨z, rfl, rfl⟩⟩
  rintro σ2 H2 ⟨a', b', rfl, s2, ha1, hb1, fa1, fb1, hab⟩
  -- over, under = lowest_terms(over, under)
  refine ⟨fun σ' H' => σ' = [some (.ref p), some (.int u), some (.int l), some (.int m), some (.int (low a' b').1), some (.int (low a' b').2), none] ∧ Same H H', ?_, ?_⟩
  · refine ⟨_, rfl, _, rfl, ?_⟩
    dsimp only [tNil]
    refine ⟨a', b', rfl, hb1, by omega, fun q hq => ?_⟩
    exact ⟨q, _, rfl, SqT.of upd_same, rfl, _, _, rfl, _, _, rfl, rfl, rfl, s2.trans (same_new hq)⟩
  rintro σ3 H3 ⟨rfl, s3⟩
  have n1 := low1_nonneg ha1 hb1
  have n2 := low2_pos (a := a') hb1
  have m1 := low1_le (b := b') ha1 hb1
  have m2 := low2_le (a := a') hb1
  -- the root where it is a quotient
  refine ⟨fun σ' H' => Same H H' ∧ ∃ (t d x a2 b2 : Int) (v6 : Option V), σ' = [some (.ref p), some (.int t), some (.int d), some (.int x), some (.int a2), some (.int b2), v6] ∧ 0 < d ∧ d < 2 ^ 60 ∧ ((low t d).1, (low t d).2, x, a2, b2) = form (u, l, m, a, b), ?_, ?_⟩
  · refine ⟨_, rfl, ?_⟩
    dsimp only [tNil]
    refine ⟨(low a' b').1, rfl, n1, by omega, _, rfl, ?_⟩
    have keep : both (low a' b') = false → ∃ (t d x a2 b2 : Int) (v6 : Option V), [some (V.ref p), some (.int u), some (.int l), some (.int m), some (.int (low a' b').1), some (.int (low a' b').2), none] = [some (V.ref p), some (.int t), some (.int d), some (.int x), some (.int a2), some (.int b2), v6] ∧ 0 < d ∧ d < 2 ^ 60 ∧ ((low t d).1, (low t d).2, x, a2, b2) = form (u, l, m, a, b) := by
      intro nb
      refine ⟨u, l, m, _, _, none, rfl, hl0, by omega, ?_⟩
      rcases hab with ⟨_, rfl, rfl⟩ | ⟨hm, rfl, rfl⟩
      · exfalso
        rw [low01] at nb
        unfold both at nb
        rw [isq0, isq1] at nb
        cases nb
      · unfold form
        dsimp only
        rw [if_neg (by rw [nb]; exact Bool.false_ne_true), if_neg hm]
    cases e1 : isq (low a' b').1 with
    | false =>
      refine if_f rfl ?_
      refine if_f rfl ?_
      exact ⟨s3, keep (by unfold both; rw [e1]; rfl)⟩
    | true =>
      refine if_t rfl ?_
      refine ⟨_, rfl, ?_⟩
      dsimp only [tNil]
      refine ⟨(low a' b').2, rfl, by omega, by omega, _, rfl, ?_⟩
      cases e2 : isq (low a' b').2 with
      | false =>
        refine if_f rfl ?_
        exact ⟨s3, keep (by unfold both; rw [e1, e2]; rfl)⟩
      | true =>
        refine if_t rfl ?_
        have bb : both (low a' b') = true := by unfold both; rw [e1, e2]; rfl
        have q1 := rt_small n1 (by omega)
        have q2 := rt_small (n := (low a' b').2) (by omega) (by omega)
        have q3 := rt_nonneg (low a' b').1
        have q4 := rt_nonneg (low a' b').2
        have hp2 := rt_pos n2 e2
        refine ⟨_, rfl, _, rfl, by omega, by omega, ?_⟩
        refine ⟨_, rfl, _, rfl, _, _, rfl, rfl, Or.inl (by omega), _, rfl, _, rfl, _, rfl, by omega, by omega, _, _, rfl, rfl, Or.inl (by omega), _, rfl, _, _, rfl, rfl, ?_, _, _, rfl, rfl, _, rfl, _, rfl, _, _, rfl, rfl, Or.inl (by omega), _, _, rfl, ?_⟩
        · exact Or.inr (by omega)
        obtain ⟨k1, k2, k3⟩ := upper_big (u := u) (l := l) (m := m) (x := rt (low a' b').1) (y := rt (low a' b').2) fu hl0 fl hm0 q3 q1 q4 q2
        have hd0 : 0 < l * rt (low a' b').2 := Int.mul_pos hl0 hp2
        refine ⟨(by show 3 ≤ sizeLine; decide), fun q hq => ⟨q, _, rfl, SqT.of upd_same, rfl, _, _, rfl, _, _, rfl, _, _, rfl, rfl, ?_⟩⟩
        refine ⟨s3.trans (same_new hq), u * rt (low a' b').2 + m * rt (low a' b').1 * l, l * rt (low a' b').2, 0, 0, 1, some (.int (rt (low a' b').2)), rfl, hd0, by omega, ?_⟩
        rcases hab with ⟨hm, rfl, rfl⟩ | ⟨hm, rfl, rfl⟩
        · subst hm
          rw [form_zero hl0 hb0, low01]
          dsimp only
          rw [rt1, rt0, Int.mul_one, Int.mul_one, Int.zero_mul, Int.zero_mul, Int.add_zero]
        · unfold form
          dsimp only
          rw [if_pos bb]
  rintro σ4 H4 ⟨s4, t, d, x, a2, b2, v6, rfl, hd, hd2, hform⟩
  have hp4 := s4 _ _ hp
  refine ⟨_, rfl, _, rfl, ?_⟩
  dsimp only [tNil]
  refine ⟨t, d, rfl, hd, hd2, fun q hq => ?_⟩
  have hpq : p ≠ q := ne_of_none hp4 hq
  refine ⟨q, _, rfl, SqT.of upd_same, rfl, _, _, rfl, _, rfl, p, C, dx, _, rfl, (by rw [upd_ne hpq]; exact hp4), T.cl, T.nT, (by show 0 < 1000; decide), ?_⟩
  refine ⟨_, _, rfl, _, rfl, p, C, dx, _, rfl, upd_same, T.cl, T.nB, (by show 1 < 1000; decide), rfl, ?_⟩
  refine ⟨_, rfl, _, rfl, p, C, dx, _, rfl, upd_same, T.cl, T.nS, (by show 2 < 1000; decide), ?_⟩
  refine ⟨_, rfl, _, rfl, p, C, dx, _, rfl, upd_same, T.cl, T.nO, (by show 3 < 1000; decide), ?_⟩
  refine ⟨_, rfl, _, rfl, p, C, dx, _, rfl, upd_same, T.cl, T.nU, (by show 4 < 1000; decide), ?_⟩
  refine kR _ ?_ ?_
  · rw [upd_same, ← hform, putF5]
    rfl
  · intro b' o e hb
    rw [upd_ne hb, upd_ne hb, upd_ne hb, upd_ne hb, upd_ne hb]
    exact same_new hq _ _ (s4 _ _ e)
end
end PH
namespace PH
open PySem PySem.Spec PyProof.Rows L2
open C8 (pss_cut tCut)
abbrev sLowest : Stmt := topS 35
abbrev sSqrt : Stmt := topS 36
abbrev sRoot : Stmt := topS 37
abbrev sForm : Stmt := topS 38
section
variable {P : Program} {w : World} {K : PySem.W.Frag} {mg : Str → Option Value} {base : Heap} {C NX : Addr}
/-! ### the law's own lowest terms -/
def spLowest : Sp := fun vs H Q _ => ∃ a b : Int, vs = [.int a, .int b] ∧ 0 < b ∧ b < 2 ^ 60 ∧
  ∀ H' p, Same H H' → H p = none → H' p = some (.tup [.int (low a b).1, .int (low a b).2]) → Q (.ref p) H'
theorem scLowest : FnScope ["_law_upper", "_law_lower", "_law_one", "_law_theirs"] ["_law_upper", "_law_lower"] (defScope sLowest) := ⟨rfl, rfl, rfl, by decide +kernel, rfl, by decide +kernel, by decide +kernel⟩
theorem g_step {x y : Int} (hx : 0 ≤ x) (hy : 0 < y) : g y (x % y) = g x y := by
  unfold g
  have e : (x % y).natAbs = x.natAbs % y.natAbs := by
    have h1 : ((x.natAbs : Nat) : Int) = x := by omega
    have h2 : ((y.natAbs : Nat) : Int) = y := by omega
    have h3 := Int.emod_nonneg x (show y ≠ 0 by omega)
    have h4 : ((x.natAbs % y.natAbs : Nat) : Int) = x % y := by rw [Int.natCast_emod, h1, h2]
    omega
  rw [e, Nat.gcd_comm y.natAbs, ← Nat.gcd_rec, Nat.gcd_comm]
theorem g_abs (a b : Int) : g (if a < 0 then -a else a) (if b < 0 then -b else b) = g a b := by
  unfold g
  have f : ∀ x : Int, (if x < 0 then -x else x).natAbs = x.natAbs := by intro x; split <;> omega
  rw [f, f]
theorem g_zero {x : Int} (hx : 0 ≤ x) : g x 0 = x := by
  unfold g
  rw [Int.natAbs_zero, Nat.gcd_zero_right]
  omega
theorem ok_lowest {f : Addr} {fd : FuncData} (F : Fun K "_law_lowest" "_law_lowest" sLowest f fd) (mA : mg "abs" = none) (mI : mg "int" = none) :
    FnOk P w K mg base CX0 1 f fd ["_law_upper", "_law_lower"] spLowest := by
  refine F.ok scLowest ?_ ?_
  · rintro vs H Q E ⟨a, b, rfl, _⟩
    rfl
  intro cdv A outer s H vs Q E hr h
  obtain ⟨a, b, rfl, hb, hb2, k⟩ := h
  refine ⟨_, pss_cons (ps_par (i := 2) (j := 3) rfl scLowest.nd rfl rfl (by decide) rfl rfl (pa_cons (pe_callB call_abs (by rfl) mA (by decide +kernel) (pa_cons (pv 0) pa_nil)) (pa_cons (pe_callB call_abs (by rfl) mA (by decide +kernel) (pa_cons (pv 1) pa_nil)) pa_nil)) (by rfl))
    (pss_cons (ps_while PassesOwn.never (pt_cmpR op_gt (pv 3) pe_int (nomark _)) (pss_one (ps_par (i := 2) (j := 3) rfl scLowest.nd rfl rfl (by decide) rfl rfl (pa_cons (pv 3) (pa_cons (pe_op op_mod (pv 2) (pv 3)) pa_nil)) (by rfl))))
    (pss_cons (ps_set (i := 2) scLowest.nd rfl (Or.inl rfl) (pe_ix ix_list (pe_lst (pa_cons (pv 2) (pa_cons (pe_op op_sub pe_int (pv 2)) pa_nil))) (pe_callTy call_int1 (by rfl) mI (by decide +kernel) (pa_cons (pe_cmpR op_lt (pv 1) pe_int (nomark _)) pa_nil)) (fun _ _ => rfl)))
    (pss_one (ps_ret (pe_tup (pa_cons (pe_op op_fdivW (pv 0) (pv 2)) (pa_cons (pe_op op_fdivW (pv 1) (pv 2)) pa_nil))))))), ?_⟩
  refine ⟨_, rfl, _, rfl, _, rfl, _, rfl, _, _, rfl, ?_⟩
  refine while_by (fun σ H' => H' = H ∧ ∃ x y : Int, σ = [some (.int a), some (.int b), some (.int x), some (.int y)] ∧ 0 ≤ x ∧ 0 ≤ y ∧ g x y = g a b)
    (fun σ _ => match σ with | [_, _, _, some (.int y)] => y.toNat | _ => 0) ?_ ?_ ?_
  · exact ⟨rfl, _, _, rfl, by split <;> omega, by split <;> omega, g_abs a b⟩
  · rintro σ H' ⟨rfl, x, y, rfl, hx, hy, hg⟩
    refine ⟨_, rfl, y, 0, rfl, rfl, _, rfl, ?_⟩
    by_cases z : 0 < y
    · refine if_t (decide_eq_true z) ?_
      refine ⟨_, rfl, _, rfl, _, rfl, x, y, rfl, rfl, z, _, _, rfl, ?_⟩
      refine ⟨⟨rfl, y, x % y, rfl, hy, Int.emod_nonneg _ (by omega), by rw [g_step hx z, hg]⟩, ?_⟩
      have := Int.emod_lt_of_pos x z
      have := Int.emod_nonneg x (show y ≠ 0 by omega)
      show (x % y).toNat < y.toNat
      omega
    · refine if_f (decide_eq_false z) ?_
      have y0 : y = 0 := by omega
      subst y0
      rw [g_zero hx] at hg
      subst hg
      refine ⟨_, rfl, _, rfl, _, _, rfl, rfl, (by show 2 ≤ sizeLine; decide), fun q hq => ?_⟩
      refine ⟨_, rfl, _, _, rfl, rfl, .inr ⟨_, rfl, q, _, _, V.int (g a b), rfl, rfl, SqL.of upd_same, ?_, ?_⟩⟩
      · rw [decide_eq_false (show ¬ b < 0 by omega)]
        rfl
      have s1 := same_new (o := HO.lst [V.int (g a b), V.int (0 - g a b)]) hq
      refine ⟨_, rfl, _, rfl, a, g a b, rfl, rfl, div_ok hb hb2, _, rfl, _, rfl, b, g a b, rfl, rfl, div_ok hb hb2, (by show 2 ≤ sizeLine; decide), fun p hp => ?_⟩
      exact k _ p (s1.trans (same_new hp)) (s1.free hp) upd_same
  · rintro σ H' R R' hq ⟨v, e1, i, j, e2, e3, c, e4, q⟩
    exact ⟨v, e1, i, j, e2, e3, c, e4, hq _ _ q⟩
end
end PH
namespace PH
open PySem PySem.Spec PyProof.Rows L2
open C8 (pss_cut tCut)
section
variable {P : Program} {w : World} {K : PySem.W.Frag} {mg : Str → Option Value} {base : Heap} {C NX : Addr}
/-! ### the law's own root -/
def spSqrt : Sp := fun vs H Q _ => ∃ n : Int, vs = [.int n] ∧ 0 ≤ n ∧ n < 2 ^ 60 ∧ ∀ H', Same H H' → Q (.int (rt n)) H'
theorem scSqrt : FnScope ["_law_number", "_law_bit", "_law_found"] ["_law_number"] (defScope sSqrt) := ⟨rfl, rfl, rfl, by decide +kernel, rfl, by decide +kernel, by decide +kernel⟩
theorem pow_half (k : Nat) : (2 : Int) ^ (k + 1) / 2 = 2 ^ k := by
  rw [Int.pow_succ]
  exact Int.mul_ediv_cancel _ (by decide)
theorem pow_pos2 (k : Nat) : (0 : Int) < 2 ^ k := Int.pow_pos (by decide)
theorem le_sq {x : Int} (h : 0 ≤ x) : x ≤ x * x ∨ x = 0 := by
  by_cases z : x = 0
  · exact .inr z
  · left
    have := Int.mul_le_mul_of_nonneg_left (show 1 ≤ x by omega) h
    omega
theorem ok_sqrt {f : Addr} {fd : FuncData} (F : Fun K "_law_square_root" "_law_square_root" sSqrt f fd) :
    FnOk P w K mg base CX0 1 f fd ["_law_number"] spSqrt := by
  refine F.ok scSqrt ?_ ?_
  · rintro vs H Q E ⟨n, rfl, _⟩
    rfl
  intro cdv A outer s H vs Q E hr h
  obtain ⟨n, rfl, hn, hn2, k⟩ := h
  refine ⟨_, pss_cons (ps_asg (pe_tup (pa_cons pe_int (pa_cons pe_int pa_nil))) (pg_tup rfl (pgs_cons (pg_name (i := 1) scSqrt.nd rfl (Or.inl rfl)) (pgs_cons (pg_name (i := 2) scSqrt.nd rfl (Or.inl rfl)) pgs_nil))))
    (pss_cons (ps_while PassesOwn.never (pt_cmpR op_le (pe_op op_mul (pv 1) (pv 1)) (pv 0) (nomark _)) (pss_one (ps_set (i := 1) scSqrt.nd rfl (Or.inl rfl) (pe_op op_mul (pv 1) pe_int))))
    (pss_cons (ps_while PassesOwn.never (pt_cmpR op_gt (pv 1) pe_int (nomark _)) (pss_cut (ps_if (pt_cmpR op_le (pe_op op_mul (pe_op op_add (pv 2) (pv 1)) (pe_op op_add (pv 2) (pv 1))) (pv 0) (nomark _)) (pss_one (ps_set (i := 2) scSqrt.nd rfl (Or.inl rfl) (pe_op op_add (pv 2) (pv 1)))) pss_nil)
      (pss_one (ps_set (i := 1) scSqrt.nd rfl (Or.inl rfl) (pe_op op_fdiv (pv 1) pe_int)))))
    (pss_one (ps_ret (pv 2))))), ?_⟩
  refine ⟨(by show 2 ≤ sizeLine; decide), fun q hq => ⟨q, _, rfl, SqT.of upd_same, rfl, _, _, rfl, _, _, rfl, rfl, ?_⟩⟩
  have sq := same_new (o := HO.tup [V.int 1, V.int 0]) hq
  refine while_by (fun σ H' => Same H H' ∧ ∃ (b : Int) (j : Nat), σ = [some (.int n), some (.int b), some (.int 0)] ∧ b = 2 ^ j ∧ b ≤ 2 * n + 1)
    (fun σ _ => match σ with | [_, some (.int b), _] => (n + 1 - b).toNat | _ => 0) ?_ ?_ ?_
  · exact ⟨sq, 1, 0, rfl, rfl, by omega⟩
  · rintro σ H' ⟨s1, b, j, rfl, hb, hb2⟩
    have hp := pow_pos2 j
    rw [← hb] at hp
    refine ⟨_, rfl, _, rfl, b, b, rfl, rfl, Or.inl (by omega), _, rfl, _, _, rfl, rfl, _, rfl, ?_⟩
    by_cases z : b * b ≤ n
    · refine if_t (decide_eq_true z) ?_
      have hbn : b ≤ n := by
        rcases le_sq (Int.le_of_lt hp) with h | h <;> omega
      refine ⟨_, rfl, b, 2, rfl, rfl, Or.inl (by omega), ⟨s1, b * 2, j + 1, rfl, by rw [Int.pow_succ, hb], by omega⟩, ?_⟩
      show (n + 1 - b * 2).toNat < (n + 1 - b).toNat
      omega
    · refine if_f (decide_eq_false z) ?_
      refine while_by (fun σ H' => Same H H' ∧ ∃ (b r : Int), σ = [some (.int n), some (.int b), some (.int r)] ∧ 0 ≤ r ∧ r ≤ n ∧ r * r ≤ n ∧ b ≤ 2 * n + 1 ∧ ((∃ j : Nat, b = 2 ^ j ∧ n < (r + 2 * b) * (r + 2 * b)) ∨ (b = 0 ∧ n < (r + 1) * (r + 1))))
        (fun σ _ => match σ with | [_, some (.int b), _] => b.toNat | _ => 0) ?_ ?_ ?_
      · refine ⟨s1, b, 0, rfl, by omega, by omega, by omega, hb2, .inl ⟨j, hb, ?_⟩⟩
        have h4 : (0 + 2 * b) * (0 + 2 * b) = 4 * (b * b) := by
          rw [Int.zero_add, Int.mul_assoc, Int.mul_left_comm b 2 b, ← Int.mul_assoc]
          rfl
        have := Int.mul_pos hp hp
        omega
      · rintro σ H' ⟨s1, b, r, rfl, hr0, hrn, hrr, hb2, hcase⟩
        refine ⟨_, rfl, b, 0, rfl, rfl, _, rfl, ?_⟩
        rcases hcase with ⟨j, hb, hlt⟩ | ⟨rfl, hlt⟩
        · have hp := pow_pos2 j
          rw [← hb] at hp
          refine if_t (decide_eq_true hp) ?_
          refine ⟨fun σ' H'' => H'' = H' ∧ ∃ r' : Int, σ' = [some (.int n), some (.int b), some (.int r')] ∧ 0 ≤ r' ∧ r' ≤ n ∧ r' * r' ≤ n ∧ n < (r' + b) * (r' + b), ?_, ?_⟩
          · refine ⟨_, rfl, _, rfl, r, b, rfl, rfl, _, rfl, _, rfl, r, b, rfl, rfl, _, _, rfl, rfl, Or.inl (by omega), _, rfl, _, _, rfl, rfl, _, rfl, ?_⟩
            by_cases c : (r + b) * (r + b) ≤ n
            · refine if_t (decide_eq_true c) ?_
              refine ⟨_, rfl, _, rfl, r, b, rfl, rfl, rfl, r + b, rfl, by omega, ?_, c, ?_⟩
              · rcases le_sq (show 0 ≤ r + b by omega) with h | h <;> omega
              · have e : r + b + b = r + 2 * b := by omega
                rw [e]
                exact hlt
            · refine if_f (decide_eq_false c) ?_
              exact ⟨rfl, r, rfl, hr0, hrn, hrr, by omega⟩
          · rintro σ' H'' ⟨rfl, r', rfl, h1, h2, h3, h4⟩
            refine ⟨_, rfl, b, 2, rfl, rfl, ⟨by decide, by decide⟩, ⟨s1, b / 2, r', rfl, h1, h2, h3, by omega, ?_⟩, ?_⟩
            · cases j with
              | zero =>
                have b1 : b = 1 := hb
                subst b1
                exact .inr ⟨by decide, h4⟩
              | succ j =>
                refine .inl ⟨j, by rw [hb, pow_half], ?_⟩
                have e : 2 * (b / 2) = b := by
                  rw [hb, pow_half, Int.pow_succ, Int.mul_comm]
                rw [e]
                exact h4
            · show (b / 2).toNat < b.toNat
              omega
        · refine if_f (by decide) ?_
          refine ⟨_, rfl, ?_⟩
          have e := rt_uniq hr0 hrr hlt
          have z := k H' s1
          rw [e] at z
          exact z
      · rintro σ H' R R' hq ⟨v, e1, i, j, e2, e3, c, e4, q⟩
        exact ⟨v, e1, i, j, e2, e3, c, e4, hq _ _ q⟩
  · rintro σ H' R R' hq ⟨v1, e1, v2, e2, i, j, e3, e4, c, v3, e5, i2, j2, e6, e7, c2, e8, q⟩
    exact ⟨v1, e1, v2, e2, i, j, e3, e4, c, v3, e5, i2, j2, e6, e7, c2, e8, hq _ _ q⟩
end
end PH
namespace PH
open PySem PySem.Spec PyProof.Rows L2
open C8 (pss_cut tCut)
section
variable {P : Program} {w : World} {K : PySem.W.Frag} {mg : Str → Option Value} {base : Heap} {C NX : Addr}
def spRoot : Sp := fun vs H Q _ => ∃ (p : Addr) (a b : Int), vs = [.ref p] ∧ H p = some (.tup [.int a, .int b]) ∧ 0 ≤ a ∧ a < 2 ^ 60 ∧ 0 ≤ b ∧ b < 2 ^ 60 ∧
  (both (a, b) = true → ∀ H' q, Same H H' → H' q = some (.tup [.int (rt a), .int (rt b)]) → Q (.ref q) H') ∧ (both (a, b) = false → ∀ H', Same H H' → Q .non H')
abbrev nRoot : List Str := ["_law_pair", "_law_one", "_law_theirs", "_law_number"]
theorem scRoot : FnScope nRoot ["_law_pair"] (defScope sRoot) := ⟨rfl, rfl, rfl, by decide +kernel, rfl, by decide +kernel, by decide +kernel⟩
theorem dp_pair {H : Hp} {p : Addr} {a b : Int} (h : H p = some (.tup [.int a, .int b])) : Dp K H (.ref p) (.tuple [.int a, .int b]) :=
  .tup (SqT.of h) (.cons (.int a) (.cons (.int b) .nil))
theorem ok_root {f fS : Addr} {fd fdS : FuncData} (F : Fun K "_law_root" "_law_root" sRoot f fd)
    (FS : Fns K mg fS fdS "_law_square_root" 36 ["_law_number"]) : FnOk P w K mg base CX0 2 f fd ["_law_pair"] spRoot := by
  have GS : FnOk P w K mg base CX0 1 fS fdS ["_law_number"] spSqrt := ok_sqrt FS.F
  refine F.ok scRoot ?_ ?_
  · rintro vs H Q E ⟨p, a, b, rfl, _⟩
    rfl
  intro cdv A outer s H vs Q E hr h
  obtain ⟨p, a, b, rfl, hp, ha, ha2, hb, hb2, k1, k2⟩ := h
  refine ⟨_, pss_cons (ps_asg (pe_lc (own := [("_law_number", 3)]) (g := gName 3) (tt := tYes) rfl scRoot.nd (pi_tup (pv 0))
        (blkOk_by (own := [("_law_number", 3)]) (N := nRoot) (sc := defScope sRoot) (by decide +kernel)) (fun _ _ _ _ _ => pg_name (i := 3) scRoot.nd rfl (Or.inl rfl)) (fun _ _ _ _ _ => pts_nil)
        (fun _ _ _ _ _ => pe_call GS hr rfl FS.m FS.F.kp FS.b .nil pass0 (pa_cons (pv 3) pa_nil))) (pg_unl rfl (pgs_cons (pg_name (i := 1) scRoot.nd rfl (Or.inl rfl)) (pgs_cons (pg_name (i := 2) scRoot.nd rfl (Or.inl rfl)) pgs_nil))))
    (pss_one (ps_ret (pe_ifExp (pt_cmpR (op_eqD hr.units) (pe_tup (pa_cons (pe_op op_mul (pv 1) (pv 1)) (pa_cons (pe_op op_mul (pv 2) (pv 2)) pa_nil))) (pv 0) (nomark _)) (pe_tup (pa_cons (pv 1) (pa_cons (pv 2) pa_nil))) pe_non))), ?_⟩
  refine ⟨_, rfl, p, rfl, ⟨_, SqT.of hp⟩, fun D hD => ?_⟩
  refine lc_tup (K := K) (a := p) (xs := [.int a, .int b]) (fun i H' => Same H H' ∧ H' D = some (.lst (([a, b].take i).map fun n => V.int (rt n))))
    ⟨same_new hD, upd_same⟩ (fun i H' _ ⟨h, _⟩ => SqT.of (h _ _ hp)) ?_ ?_
  · rintro i x H' hx ⟨s1, hd⟩
    obtain ⟨n, hn, rfl, hn0, hn1⟩ : ∃ n, [a, b][i]? = some n ∧ x = V.int n ∧ 0 ≤ n ∧ n < 2 ^ 60 := by
      match i, hx with
      | 0, hx => cases hx; exact ⟨a, rfl, rfl, ha, ha2⟩
      | 1, hx => cases hx; exact ⟨b, rfl, rfl, hb, hb2⟩
    refine ⟨rfl, yes_if ?_⟩
    refine ⟨_, rfl, ?_⟩
    dsimp only [tNil]
    refine ⟨n, rfl, hn0, hn1, fun H2 s2 => ⟨_, s2 _ _ hd, ?_, same_at (s1.trans s2) hD, ?_⟩⟩
    · rw [List.length_map, List.length_take]
      exact Nat.lt_of_le_of_lt (Nat.min_le_right _ _) (by show 2 < sizeLine; decide)
    · rw [upd_same, take_more hn, List.map_append]
      rfl
  · rintro H' ⟨s1, hd⟩
    refine ⟨D, [.int (rt a), .int (rt b)], rfl, SqL.of hd, rfl, _, _, rfl, _, _, rfl, rfl, ?_⟩
    have hra := rt_abs ha (Int.lt_trans ha2 (by decide))
    have hrb := rt_abs hb (Int.lt_trans hb2 (by decide))
    refine ⟨_, rfl, _, rfl, _, _, rfl, rfl, Or.inl (by omega), _, rfl, _, rfl, _, _, rfl, rfl, Or.inl (by omega), (by show 2 ≤ sizeLine; decide), fun q hq => ?_⟩
    have s2 := same_new (o := HO.tup [V.int (rt a * rt a), V.int (rt b * rt b)]) hq
    refine ⟨_, rfl, _, _, dp_pair upd_same, dp_pair (s2 _ _ (s1 _ _ hp)), rfl, rfl, _, rfl, ?_⟩
    have e : PyData.eqv (.tuple [.int (rt a * rt a), .int (rt b * rt b)]) (.tuple [.int a, .int b]) = both (a, b) := by
      simp only [PyData.eqv, PyData.eqvAll, Bool.and_true]
      rfl
    cases c : both (a, b) with
    | false => exact if_f (e.trans c) (k2 c _ (s1.trans s2))
    | true =>
      refine if_t (e.trans c) ?_
      refine ⟨_, rfl, _, rfl, (by show 2 ≤ sizeLine; decide), fun q2 hq2 => ?_⟩
      exact k1 c _ q2 ((s1.trans s2).trans (same_new hq2)) upd_same
/-! ### the law's own form -/
def spForm : Sp := fun vs H Q _ => ∃ f : Five, vs = fiveV f ∧ Right f ∧ Fits f ∧ ∀ H' q, Same H H' → H' q = some (.tup (fiveV (form f))) → Q (.ref q) H'
theorem scForm : FnScope ["_law_upper", "_law_lower", "_law_mark", "_law_aloft", "_law_beneath", "_law_radix", "_law_root_here"] ["_law_upper", "_law_lower", "_law_mark", "_law_aloft", "_law_beneath"] (defScope sForm) :=
  ⟨rfl, rfl, rfl, by decide +kernel, rfl, by decide +kernel, by decide +kernel⟩
theorem ok_form {f fL fR : Addr} {fd fdL fdR : FuncData} (F : Fun K "_law_form" "_law_form" sForm f fd)
    (GL : FnOk P w K mg base CX0 1 fL fdL ["_law_upper", "_law_lower"] spLowest) (FL : Fns K mg fL fdL "_law_lowest" 35 ["_law_upper", "_law_lower"])
    (GR : FnOk P w K mg base CX0 2 fR fdR ["_law_pair"] spRoot) (FR : Fns K mg fR fdR "_law_root" 37 ["_law_pair"]) :
    FnOk P w K mg base CX0 3 f fd ["_law_upper", "_law_lower", "_law_mark", "_law_aloft", "_law_beneath"] spForm := by
  refine F.ok scForm ?_ ?_
  · rintro vs H Q E ⟨f, rfl, _⟩
    rfl
  intro cdv A outer s H vs Q E hr h
  have hr1 : Room 1 _ := hr.mono (by decide)
  obtain ⟨⟨u, l, m, a, b⟩, rfl, ⟨hl0, hm0, ha0, hb0⟩, ⟨fu, fl, fa, fb⟩, k⟩ := h
  dsimp only at hl0 hm0 ha0 hb0 fu fl fa fb
  refine ⟨_, pss_cons (ps_set (i := 5) scForm.nd rfl (Or.inl rfl) (pe_call GL hr1 rfl FL.m FL.F.kp FL.b .nil pass0 (pa_cons (pv 3) (pa_cons (pv 4) pa_nil))))
    (pss_cons (ps_set (i := 6) scForm.nd rfl (Or.inl rfl) (pe_call GR hr rfl FR.m FR.F.kp FR.b .nil pass0 (pa_cons (pv 5) pa_nil)))
    (pss_cut (ps_if (pt_cmpR op_notN (pv 6) pe_non (nomark _))
      (pss_cons (ps_set (i := 0) scForm.nd rfl (Or.inl rfl) (pe_op op_add (pe_op op_mul (pv 0) (pe_ix ix_tup (pv 6) pe_int (fun _ _ => rfl))) (pe_op op_mul (pe_op op_mul (pv 2) (pe_ix ix_tup (pv 6) pe_int (fun _ _ => rfl))) (pv 1))))
      (pss_one (ps_par (i := 1) (j := 2) rfl scForm.nd rfl rfl (by decide) rfl rfl (pa_cons (pe_op op_mul (pv 1) (pe_ix ix_tup (pv 6) pe_int (fun _ _ => rfl))) (pa_cons pe_int pa_nil)) (by rfl)))) pss_nil)
    (pss_cut (ps_if (pt_cmpR op_eq (pv 2) pe_int (nomark _)) (pss_one (ps_set (i := 5) scForm.nd rfl (Or.inl rfl) (pe_tup (pa_cons pe_int (pa_cons pe_int pa_nil))))) pss_nil)
    (pss_one (ps_ret (pe_op op_catT (pe_op op_catT (pe_call GL hr1 rfl FL.m FL.F.kp FL.b .nil pass0 (pa_cons (pv 0) (pa_cons (pv 1) pa_nil))) (pe_tup (pa_cons (pv 2) pa_nil))) (pv 5))))))), ?_⟩
  -- radix = lowest(..)
  refine ⟨_, rfl, _, rfl, ?_⟩
  dsimp only [tNil]
  refine ⟨a, b, rfl, hb0, by omega, fun H1 p s1 _ h1 => ?_⟩
  have n1 := low1_nonneg ha0 hb0
  have n2 := low2_pos (a := a) hb0
  have m1 := low1_le (b := b) ha0 hb0
  have m2 := low2_le (a := a) hb0
  have fin : ∀ (H3 : Hp) (t d x : Int) (v6 : V), Same H1 H3 → 0 < d → d < 2 ^ 60 →
      form (u, l, m, a, b) = (if x = 0 then ((low t d).1, (low t d).2, 0, 0, 1) else ((low t d).1, (low t d).2, x, (low a b).1, (low a b).2)) →
      (fun σ' H' => ∃ (t d x : Int) (v6 : V), σ' = [some (.int t), some (.int d), some (.int x), some (.int a), some (.int b), some (.ref p), some v6] ∧ Same H1 H' ∧ 0 < d ∧ d < 2 ^ 60 ∧
        form (u, l, m, a, b) = (if x = 0 then ((low t d).1, (low t d).2, 0, 0, 1) else ((low t d).1, (low t d).2, x, (low a b).1, (low a b).2)))
        [some (.int t), some (.int d), some (.int x), some (.int a), some (.int b), some (.ref p), some v6] H3 :=
    fun H3 t d x v6 s3 hd hd2 hf => ⟨t, d, x, v6, rfl, s3, hd, hd2, hf⟩
  -- root_here = root(radix); the sketch of what comes of it
  refine ⟨_, rfl, ?_⟩
  dsimp only [tNil]
  refine ⟨p, (low a b).1, (low a b).2, rfl, h1, n1, by omega, by omega, by omega, fun bb H2 q s2 h2 => ?_, fun nb H2 s2 => ?_⟩
  all_goals refine ⟨fun σ' H' => ∃ (t d x : Int) (v6 : V), σ' = [some (.int t), some (.int d), some (.int x), some (.int a), some (.int b), some (.ref p), some v6] ∧ Same H1 H' ∧ 0 < d ∧ d < 2 ^ 60 ∧
        form (u, l, m, a, b) = (if x = 0 then ((low t d).1, (low t d).2, 0, 0, 1) else ((low t d).1, (low t d).2, x, (low a b).1, (low a b).2)), ?_, ?_⟩
  rotate_left 1
  rotate_left 1
  · refine ⟨_, rfl, rfl, _, rfl, ?_⟩
    refine if_f (by rfl) ?_
    refine fin H2 u l m .non s2 hl0 (by omega) ?_
    unfold form
    dsimp only
    rw [if_neg (by rw [show both (low a b) = false from nb]; exact Bool.false_ne_true)]
  rotate_left 1
  · refine ⟨_, rfl, rfl, _, rfl, ?_⟩
    refine if_t (by rfl) ?_
    have e1 : isq (low a b).1 = true := by unfold both at bb; rw [Bool.and_eq_true] at bb; exact bb.1
    have e2 : isq (low a b).2 = true := by unfold both at bb; rw [Bool.and_eq_true] at bb; exact bb.2
    have q1 := rt_small n1 (by omega)
    have q2 := rt_small (n := (low a b).2) (by omega) (by omega)
    have q3 := rt_nonneg (low a b).1
    have q4 := rt_nonneg (low a b).2
    obtain ⟨k1, k2, k3⟩ := upper_big (u := u) (l := l) (m := m) (x := rt (low a b).1) (y := rt (low a b).2) fu hl0 fl hm0 q3 q1 q4 q2
    have hd0 : 0 < l * rt (low a b).2 := Int.mul_pos hl0 (rt_pos n2 e2)
    refine ⟨_, rfl, _, rfl, q, _, 1, _, rfl, rfl, SqT.of h2, rfl, _, _, rfl, rfl, Or.inl (by first | omega | (dsimp only; omega)), ?_⟩
    refine ⟨_, rfl, _, rfl, q, _, 0, _, rfl, rfl, SqT.of h2, rfl, _, _, rfl, rfl, Or.inl (by first | omega | (dsimp only; omega)), _, rfl, _, _, rfl, rfl, Or.inr (by first | omega | (dsimp only; omega)), _, _, rfl, rfl, ?_⟩
    refine ⟨_, rfl, _, rfl, q, _, 1, _, rfl, rfl, SqT.of h2, rfl, _, _, rfl, rfl, Or.inl (by first | omega | (dsimp only; omega)), _, _, rfl, ?_⟩
    refine fin H2 (u * rt (low a b).2 + m * rt (low a b).1 * l) (l * rt (low a b).2) 0 (.ref q) s2 hd0 (by omega) ?_
    unfold form
    dsimp only
    rw [if_pos (show both (low a b) = true from bb), if_pos rfl]
  all_goals
    rintro σ3 H3 ⟨t, d, x, v6, rfl, s3, hd, hd2, hf⟩
    refine ⟨fun σ' H' => ∃ (r : Addr) (a2 b2 : Int), σ' = [some (.int t), some (.int d), some (.int x), some (.int a), some (.int b), some (.ref r), some v6] ∧ Same H1 H' ∧ H' r = some (.tup [.int a2, .int b2]) ∧
      form (u, l, m, a, b) = ((low t d).1, (low t d).2, x, a2, b2), ?_, ?_⟩
    · refine ⟨_, rfl, rfl, _, rfl, ?_⟩
      by_cases z : x = 0
      · refine if_t (by show decide (V.int x = V.int 0) = true; rw [dec_int]; exact decide_eq_true z) ?_
        refine ⟨(by show 2 ≤ sizeLine; decide), fun r hr => ⟨r, 0, 1, rfl, s3.trans (same_new hr), upd_same, ?_⟩⟩
        rw [hf, if_pos z, z]
      · refine if_f (by show decide (V.int x = V.int 0) = false; rw [dec_int]; exact decide_eq_false z) ?_
        refine ⟨p, _, _, rfl, s3, s3 _ _ h1, ?_⟩
        rw [hf, if_neg z]
    · rintro σ4 H4 ⟨r, a2, b2, rfl, s4, hr4, hf4⟩
      refine ⟨_, rfl, _, rfl, ?_⟩
      dsimp only [tNil]
      refine ⟨t, d, rfl, hd, hd2, fun H5 q5 s5 _ h5 => ?_⟩
      refine ⟨_, rfl, (by show 1 ≤ sizeLine; decide), fun q6 hq6 => ?_⟩
      have s6 := same_new (o := HO.tup [V.int x]) hq6
      refine ⟨q5, q6, _, _, rfl, rfl, SqT.of (s6 _ _ h5), SqT.of upd_same, (by simp), (by show 3 ≤ sizeLine; decide), (fun z => by cases z), fun _ q7 hq7 => ?_⟩
      have s7 := same_new (o := HO.tup [V.int (low t d).1, V.int (low t d).2, V.int x]) hq7
      refine ⟨_, rfl, q7, r, _, _, rfl, rfl, SqT.of upd_same, SqT.of (s7 _ _ (s6 _ _ (s5 _ _ hr4))), (by simp), (by show 5 ≤ sizeLine; decide), (fun z => by cases z), fun _ q8 hq8 => ?_⟩
      refine k _ q8 (((((s1.trans s4).trans s5).trans s6).trans s7).trans (same_new hq8)) ?_
      rw [hf4]
      exact upd_same
end
end PH
namespace PH
open PySem PySem.Spec PyProof.Rows L2
open C8 (pss_cut tCut)
abbrev sDeck : Stmt := topS 33
abbrev sDraw : Stmt := topS 34
/-- the deck: its list at d, the cells' list at c -/
def Deck (H : Hp) (d c : Addr) : Prop := ∃ (ms : List Int) (n1 n2 : Int), H d = some (.lst [.ref c, .int n1, .int n2]) ∧ H c = some (.lst (ms.map V.int)) ∧ d ≠ c ∧ ms.length ≤ 100 ∧ 0 ≤ n1 ∧ n1 < 2 ^ 40
/-- all but the deck is as it was -/
def Kept (d c : Addr) (H H' : Hp) : Prop := ∀ b o, H b = some o → b ≠ d → b ≠ c → H' b = some o
theorem Kept.refl {d c : Addr} {H : Hp} : Kept d c H H := fun _ _ e _ _ => e
theorem Kept.trans {d c : Addr} {H H1 H2 : Hp} (a : Kept d c H H1) (b : Kept d c H1 H2) : Kept d c H H2 := fun x o e h1 h2 => b x o (a x o e h1 h2) h1 h2
theorem Kept.of {d c : Addr} {H H' : Hp} (s : Same H H') : Kept d c H H' := fun b o e _ _ => s b o e
theorem Deck.same {d c : Addr} {H H' : Hp} (s : Same H H') (D : Deck H d c) : Deck H' d c := by
  obtain ⟨ms, n1, n2, h1, h2, h3, h4, h5, h6⟩ := D
  exact ⟨ms, n1, n2, s _ _ h1, s _ _ h2, h3, h4, h5, h6⟩
theorem Kept.upd_d {d c : Addr} {H H' : Hp} {o : HO} (k : Kept d c H H') : Kept d c H (upd H' d o) := fun b u e h1 h2 => by rw [upd_ne h1]; exact k b u e h1 h2
theorem Kept.upd_c {d c : Addr} {H H' : Hp} {o : HO} (k : Kept d c H H') : Kept d c H (upd H' c o) := fun b u e h1 h2 => by rw [upd_ne h2]; exact k b u e h1 h2
section
variable {P : Program} {w : World} {K : PySem.W.Frag} {mg : Str → Option Value} {base : Heap} {C NX : Addr}
def spDeck (K : PySem.W.Frag) : Sp := fun vs H Q _ => ∃ (a : Addr) (ns : List Int), vs = [.ref a] ∧ SqL K H a (ns.map V.int) ∧ ns.length ≤ 63 ∧ ∀ H' d c, Same H H' → H d = none → H c = none → Deck H' d c → Q (.ref d) H'
theorem scDeck : FnScope ["_law_script", "_law_cells"] ["_law_script"] (defScope sDeck) := ⟨rfl, rfl, rfl, by decide +kernel, rfl, by decide +kernel, by decide +kernel⟩
theorem cut_map (ns : List Int) (lo hi : Option Int) : ∃ ms : List Int, cutV (ns.map V.int) lo hi = ms.map V.int ∧ ms.length ≤ ns.length := by
  unfold cutV
  rw [← List.map_drop, ← List.map_take]
  refine ⟨_, rfl, ?_⟩
  rw [List.length_take, List.length_drop]
  omega
theorem ok_deck {f : Addr} {fd : FuncData} (F : Fun K "_law_deck" "_law_deck" sDeck f fd) (mL : mg "list" = none) (mS : mg "sum" = none) :
    FnOk P w K mg base CX0 1 f fd ["_law_script"] (spDeck K) := by
  refine F.ok scDeck ?_ ?_
  · rintro vs H Q E ⟨a, ns, rfl, _⟩
    rfl
  intro cdv A outer s H vs Q E hr h
  obtain ⟨a, ns, rfl, hs, hlen, k⟩ := h
  refine ⟨_, pss_cons (ps_set (i := 1) scDeck.nd rfl (Or.inl rfl) (pe_callTy call_list_of (by rfl) mL (by decide +kernel) (pa_cons (pe_slice sl_list (pv 0) po_none (po_some pe_int)) pa_nil)))
    (pss_one (ps_ret (pe_lst (pa_cons (pv 1) (pa_cons (pe_op op_add pe_int (pe_op op_mod (pe_callB (cr_sum rfl) (by rfl) mS (by decide +kernel) (pa_cons (pv 1) pa_nil)) pe_int)) (pa_cons pe_int pa_nil)))))), ?_⟩
  refine ⟨_, rfl, _, rfl, a, _, rfl, hs, fun p hp => ?_⟩
  obtain ⟨ms, em, hm⟩ := cut_map ns none (some 63)
  rw [em]
  refine ⟨p, _, rfl, .inl (SqL.of upd_same), fun l hl => ?_⟩
  have s1 := same_new (o := HO.lst (ms.map V.int)) hp
  have s2 := same_new (o := HO.lst (ms.map V.int)) hl
  refine ⟨_, rfl, _, rfl, l, ms, rfl, SqL.of upd_same, _, _, rfl, rfl, (by show (0 : Int) < 2147483579; decide), _, _, rfl, rfl, (by show 3 ≤ sizeLine; decide), fun q hq => ?_⟩
  have h0 := Int.emod_nonneg ms.sum (show (2147483579 : Int) ≠ 0 by decide)
  have h1 := Int.emod_lt_of_pos ms.sum (show (0 : Int) < 2147483579 by decide)
  have hql : q ≠ l := fun e => by rw [e, upd_same] at hq; cases hq
  refine k _ q l ((s1.trans s2).trans (same_new hq)) ((s1.trans s2).free hq) (s1.free hl) ⟨ms, _, _, upd_same, ?_, hql, by omega, ?_, ?_⟩
  · rw [upd_ne hql.symm]; exact upd_same
  · show (0 : Int) ≤ 130043 + ms.sum % 2147483579
    omega
  · show 130043 + ms.sum % 2147483579 < (2 : Int) ^ 40
    omega
end
end PH
namespace PH
open PySem PySem.Spec PyProof.Rows L2
open C8 (pss_cut tCut)
section
variable {P : Program} {w : World} {K : PySem.W.Frag} {mg : Str → Option Value} {base : Heap} {C NX : Addr}
def spDraw : Sp := fun vs H Q _ => ∃ (d c : Addr) (n : Int), vs = [.ref d, .int n] ∧ Deck H d c ∧ 0 < n ∧ n < 2 ^ 29 ∧ ∀ H' r, Deck H' d c → Kept d c H H' → 0 ≤ r → r < n → Q (.int r) H'
theorem scDraw : FnScope ["_law_deck_here", "_law_many", "_law_cells", "_law_cell", "_law_number"] ["_law_deck_here", "_law_many"] (defScope sDraw) := ⟨rfl, rfl, rfl, by decide +kernel, rfl, by decide +kernel, by decide +kernel⟩
theorem dp_ints (H : Hp) : ∀ ms : List Int, DpAll K H (ms.map V.int) (ms.map PyData.int)
  | [] => .nil
  | m :: ms => .cons (.int m) (dp_ints H ms)
theorem can_ints : ∀ ms : List Int, PyData.canLayAll0 (ms.map PyData.int) = true
  | [] => rfl
  | m :: ms => by
    show (PyData.canLay0 (.int m) && PyData.canLayAll0 (ms.map PyData.int)) = true
    rw [can_ints ms]
    rfl
theorem depth_ints : ∀ ms : List Int, PyData.depthAll (ms.map PyData.int) = 0
  | [] => rfl
  | m :: ms => by
    show max (PyData.depth (.int m)) (PyData.depthAll (ms.map PyData.int)) = 0
    rw [depth_ints ms]
    rfl
theorem shaped_ints (ms : List Int) : SeqAt.shaped (.list (ms.map PyData.int)) = true := by
  unfold SeqAt.shaped
  rw [Bool.and_eq_true]
  refine ⟨can_ints ms, decide_eq_true ?_⟩
  show PyData.depthAll (ms.map PyData.int) + 1 ≤ 64
  rw [depth_ints]
  decide
theorem eqv_nil (m : Int) (ms : List Int) : PyData.eqv (.list ((m :: ms).map PyData.int)) (.list []) = false := by
  simp only [PyData.eqv, List.map_cons, PyData.eqvAll]
theorem seq0 (m : Int) (ms : List Int) : seqIndex? 0 ((m :: ms).map V.int).length = some 0 := by
  have h : atI ((m :: ms).map V.int) ((0 : Nat) : Int) = some (V.int m) := atI_nat rfl
  obtain ⟨j, h1, h2, h3, _, _⟩ := atI_get h
  have e : ((0 : Nat) : Int) = 0 := rfl
  rw [e] at h1
  rw [h1]
  unfold seqIndex? at h1
  simp at h1
  rw [h1]
theorem ok_draw {f : Addr} {fd : FuncData} (F : Fun K "_law_draw" "_law_draw" sDraw f fd) :
    FnOk P w K mg base CX0 1 f fd ["_law_deck_here", "_law_many"] spDraw := by
  refine F.ok scDraw ?_ ?_
  · rintro vs H Q E ⟨d, c, n, rfl, _⟩
    rfl
  intro cdv A outer s H vs Q E hr h
  obtain ⟨d, c, n, rfl, ⟨ms, n1, n2, hd, hc, hdc, hlen, hn0, hn1⟩, hp, hp2, k⟩ := h
  refine ⟨_, pss_cons (ps_asg (pe_op op_add (pe_ix ix_list (pv 0) pe_int (fun _ _ => rfl)) pe_int) (pg_sub (pv 0) pe_int set_list))
    (pss_cons (ps_set (i := 2) scDraw.nd rfl (Or.inl rfl) (pe_ix ix_list (pv 0) pe_int (fun _ _ => rfl)))
    (pss_cons (ps_set (i := 3) scDraw.nd rfl (Or.inl rfl) (pe_ix ix_list (pv 0) pe_int (fun _ _ => rfl)))
    (pss_cut (ps_if (pt_cmpR (op_neD hr.units) (pv 2) (pe_lst pa_nil) (nomark _))
      (pss_cons (ps_set (i := 3) scDraw.nd rfl (Or.inl rfl) (pe_bm PySem.F.plainAttrs_list PySem.F.slot_list_pop PySem.F.type_list_pop mt_popAt (pv 2) (pa_cons pe_int pa_nil)))
      (pss_cons (ps_if (pt_cmpR op_ge (pv 3) (pe_op op_pow pe_int pe_int) (nomark _))
        (pss_cons (ps_expr (pe_bm PySem.F.plainAttrs_list PySem.F.slot_list_insert PySem.F.type_list_insert mt_insert (pv 2) (pa_cons pe_int (pa_cons (pe_op op_fdivN (pv 3) (pv 1)) pa_nil))))
        (pss_one (ps_ret (pe_op op_mod (pv 3) (pv 1))))) pss_nil)
      (pss_one (ps_set (i := 3) scDraw.nd rfl (Or.inl rfl) (pe_op op_add (pv 3) (pe_ix ix_list (pv 0) pe_int (fun _ _ => rfl))))))) pss_nil)
    (pss_cons (ps_set (i := 4) scDraw.nd rfl (Or.inl rfl) (pe_op op_mod (pe_op op_add (pe_op op_add (pe_op op_mul (pe_op op_mod (pv 3) pe_int) pe_int) (pe_op op_mul pe_int (pe_ix ix_list (pv 0) pe_int (fun _ _ => rfl)))) pe_int) pe_int))
    (pss_cons (ps_set (i := 4) scDraw.nd rfl (Or.inl rfl) (pe_op op_mod (pe_op op_add (pe_op op_add (pe_op op_mul (pv 4) (pv 4)) (pe_op op_mul pe_int (pv 4))) (pe_ix ix_list (pv 0) pe_int (fun _ _ => rfl))) pe_int))
    (pss_cons (ps_asg (pv 4) (pg_sub (pv 0) pe_int set_list))
    (pss_one (ps_ret (pe_op op_mod (pe_op op_fdiv (pe_op op_mod (pe_op op_mul (pv 4) (pe_op op_add (pv 4) pe_int)) pe_int) pe_int) (pv 1)))))))))), ?_⟩
  -- deck[2] = deck[2] + 1; cells, cell
  refine ⟨_, rfl, d, _, 2, _, rfl, rfl, SqL.of hd, rfl, _, _, rfl, rfl, _, rfl, d, _, 2, 2, rfl, rfl, hd, rfl, ?_⟩
  have e2 : ([V.ref c, V.int n1, V.int n2].set 2 (V.int (n2 + 1))) = [V.ref c, V.int n1, V.int (n2 + 1)] := rfl
  rw [e2]
  have hd1 : upd H d (.lst [.ref c, .int n1, .int (n2 + 1)]) d = some (.lst [.ref c, .int n1, .int (n2 + 1)]) := upd_same
  have hc1 : upd H d (.lst [.ref c, .int n1, .int (n2 + 1)]) c = some (.lst (ms.map V.int)) := by rw [upd_ne hdc.symm]; exact hc
  have k1 : Kept d c H (upd H d (.lst [.ref c, .int n1, .int (n2 + 1)])) := Kept.refl.upd_d
  generalize upd H d (.lst [.ref c, .int n1, .int (n2 + 1)]) = H1 at *
  refine ⟨_, rfl, d, _, 0, _, rfl, rfl, SqL.of hd1, rfl, ?_⟩
  refine ⟨_, rfl, d, _, 1, _, rfl, rfl, SqL.of hd1, rfl, ?_⟩
  -- the cell
  refine ⟨fun σ' H' => ∃ (x : Int) (ms' : List Int), σ' = [some (.ref d), some (.int n), some (.ref c), some (.int x), none] ∧ H' d = some (.lst [.ref c, .int n1, .int (n2 + 1)]) ∧ H' c = some (.lst (ms'.map V.int)) ∧ ms'.length ≤ 100 ∧ Kept d c H H', ?_, ?_⟩
  · refine ⟨_, rfl, (by show 0 ≤ sizeLine; decide), fun q hq => ?_⟩
    have s2 := same_new (o := HO.lst []) hq
    refine ⟨_, _, .lst (SqL.of (s2 _ _ hc1)) (dp_ints _ ms), .lst (SqL.of upd_same) .nil, shaped_ints ms, rfl, _, rfl, ?_⟩
    have hd2 := s2 _ _ hd1
    have hc2 := s2 _ _ hc1
    have k2 := k1.trans (Kept.of s2)
    generalize upd H1 q (.lst []) = H2 at *
    match ms, hc2, hlen with
    | [], hc2, hlen => 
      refine if_f (by rfl) ?_
      exact ⟨n1, [], rfl, hd2, hc2, by show 0 ≤ 100; decide, k2⟩
    | m :: ms, hc2, hlen =>
      refine if_t (by rw [eqv_nil]; rfl) ?_
      refine ⟨_, rfl, .inl ⟨rfl, _, SqL.of hc2⟩, c, _, 0, 0, .int m, rfl, rfl, hc2, by decide, by decide, seq0 _ _, rfl, ?_⟩
      have hd3 : upd H2 c (.lst (ms.map V.int)) d = some (.lst [.ref c, .int n1, .int (n2 + 1)]) := by rw [upd_ne hdc]; exact hd2
      have hc3 : upd H2 c (.lst (ms.map V.int)) c = some (.lst (ms.map V.int)) := upd_same
      have k3 : Kept d c H (upd H2 c (.lst (ms.map V.int))) := k2.upd_c
      show _
      have el : ((m :: ms).map V.int).eraseIdx 0 = ms.map V.int := rfl
      rw [el]
      generalize upd H2 c (.lst (ms.map V.int)) = H3 at *
      have hl2 : ms.length + 1 ≤ 100 := hlen
      refine ⟨_, rfl, _, _, rfl, rfl, ⟨by decide, by decide, by decide⟩, _, _, rfl, rfl, _, rfl, ?_⟩
      by_cases z : (10 : Int) ^ (Int.toNat 18) ≤ m
      · refine if_t (decide_eq_true z) ?_
        refine ⟨_, rfl, .inl ⟨rfl, _, SqL.of hc3⟩, _, rfl, _, rfl, _, _, rfl, rfl, ⟨by omega, by omega⟩, c, _, 0, _, rfl, rfl, hc3, by rw [List.length_map]; exact Nat.lt_of_le_of_lt (by omega : ms.length ≤ 100) (by decide), by decide, by decide, ?_⟩
        refine ⟨_, rfl, _, rfl, m, n, rfl, rfl, hp, ?_⟩
        refine k _ _ ⟨m.fdiv n :: ms, n1, n2 + 1, ?_, ?_, hdc, hl2, hn0, hn1⟩ k3.upd_c (Int.emod_nonneg _ (by omega)) (Int.emod_lt_of_pos _ hp)
        · rw [upd_ne hdc]; exact hd3
        · rw [upd_same]; rfl
      · refine if_f (decide_eq_false z) ?_
        refine ⟨_, rfl, _, rfl, d, _, 1, _, rfl, rfl, SqL.of hd3, rfl, _, _, rfl, rfl, ?_⟩
        exact ⟨m + n1, ms, rfl, hd3, hc3, by omega, k3⟩
  rintro σ2 H2 ⟨x, ms', rfl, hd2, hc2, hl2, k2⟩
  refine ⟨_, rfl, _, _, rfl, rfl, (by show (0 : Int) < 2147483629; decide), _, _, rfl, rfl, Or.inr (by decide), _, rfl, d, _, 2, _, rfl, rfl, SqL.of hd2, rfl, _, _, rfl, rfl, Or.inl (by decide), _, _, rfl, rfl, _, _, rfl, rfl, _, _, rfl, rfl, (by show (0 : Int) < 2147483647; decide), ?_⟩
  refine ⟨_, rfl, _, rfl, _, _, rfl, rfl, Or.inl (by omega), _, rfl, _, _, rfl, rfl, Or.inl (by decide), _, _, rfl, rfl, _, rfl, d, _, 2, _, rfl, rfl, SqL.of hd2, rfl, _, _, rfl, rfl, _, _, rfl, rfl, (by show (0 : Int) < 2147483587; decide), ?_⟩
  refine ⟨_, rfl, _, rfl, d, _, 1, 1, rfl, rfl, hd2, rfl, ?_⟩
  refine ⟨_, rfl, _, rfl, _, _, rfl, rfl, _, _, rfl, rfl, Or.inl (by omega), _, _, rfl, rfl, (by show (0 : Int) < 2147483563; decide), _, _, rfl, rfl, ⟨by decide, by decide⟩, _, rfl, _, _, rfl, rfl, hp, ?_⟩
  refine k _ _ ⟨ms', _, n2 + 1, upd_same, by rw [upd_ne hdc.symm]; exact hc2, hdc, hl2, ?_, ?_⟩ k2.upd_d (Int.emod_nonneg _ (by omega)) (Int.emod_lt_of_pos _ hp)
  · omega
  · omega
end
end PH
namespace PH
open PySem PySem.Spec PyProof.Rows L2
open C8 (pss_cut tCut)
abbrev sWholeL : Stmt := topS 39
abbrev sFive : Stmt := topS 40
section
variable {P : Program} {w : World} {K : PySem.W.Frag} {mg : Str → Option Value} {base : Heap} {C NX : Addr}
theorem Deck.off_t {H : Hp} {d c t : Addr} {xs : List V} (D : Deck H d c) (h : H t = some (.tup xs)) : t ≠ d ∧ t ≠ c := by
  obtain ⟨ms, n1, n2, h1, h2, _⟩ := D
  exact ⟨ne_of h h1 (by intro z; cases z), ne_of h h2 (by intro z; cases z)⟩
theorem Deck.off_n {H : Hp} {d c t : Addr} (D : Deck H d c) (h : H t = none) : t ≠ d ∧ t ≠ c := by
  obtain ⟨ms, n1, n2, h1, h2, _⟩ := D
  exact ⟨(ne_of_none h1 h).symm, (ne_of_none h2 h).symm⟩
theorem Deck.off_i {H : Hp} {d c t C dx : Addr} {fs : List (Str × V)} (D : Deck H d c) (h : H t = some (.ins C dx fs)) : t ≠ d ∧ t ≠ c := by
  obtain ⟨ms, n1, n2, h1, h2, _⟩ := D
  exact ⟨ne_of h h1 (by intro z; cases z), ne_of h h2 (by intro z; cases z)⟩
theorem Kept.tup {H H' : Hp} {d c t : Addr} {xs : List V} (k : Kept d c H H') (D : Deck H d c) (h : H t = some (.tup xs)) : H' t = some (.tup xs) :=
  k _ _ h (D.off_t h).1 (D.off_t h).2
theorem Kept.free {H H' : Hp} {d c p : Addr} (k : Kept d c H H') (D : Deck H d c) (D' : Deck H' d c) (h : H' p = none) : H p = none := by
  cases e : H p with
  | none => rfl
  | some o =>
    have z := k p o e (D'.off_n h).1 (D'.off_n h).2
    rw [h] at z
    cases z
theorem atI_mem {xs : List V} {i : Int} (h0 : 0 ≤ i) (h1 : i < xs.length) : ∃ v, atI xs i = some v ∧ v ∈ xs := by
  obtain ⟨j, rfl⟩ : ∃ j : Nat, i = (j : Int) := ⟨i.toNat, by omega⟩
  have hj : j < xs.length := by omega
  exact ⟨xs[j], atI_nat (List.getElem?_eq_getElem hj), List.getElem_mem hj⟩
def spWholeL : Sp := fun vs H Q _ => ∃ (d c : Addr), vs = [.ref d] ∧ Deck H d c ∧ ∀ H' r, Deck H' d c → Kept d c H H' → 0 ≤ r → r ≤ 8999 → Q (.int r) H'
theorem scWholeL : FnScope ["_law_deck_here", "_law_some"] ["_law_deck_here"] (defScope sWholeL) := ⟨rfl, rfl, rfl, by decide +kernel, rfl, by decide +kernel, by decide +kernel⟩
abbrev GDraw (P : Program) (w : World) (K : PySem.W.Frag) (mg : Str → Option Value) (base : Heap) (f : Addr) (fd : FuncData) : Prop := FnOk P w K mg base CX0 1 f fd ["_law_deck_here", "_law_many"] spDraw
abbrev FDraw (K : PySem.W.Frag) (mg : Str → Option Value) (f : Addr) (fd : FuncData) : Prop := Fns K mg f fd "_law_draw" 34 ["_law_deck_here", "_law_many"]
theorem ok_wholeL {f fD : Addr} {fd fdD : FuncData} (F : Fun K "_law_whole" "_law_whole" sWholeL f fd) (GD : GDraw P w K mg base fD fdD) (FD : FDraw K mg fD fdD) :
    FnOk P w K mg base CX0 2 f fd ["_law_deck_here"] spWholeL := by
  refine F.ok scWholeL ?_ ?_
  · rintro vs H Q E ⟨d, c, rfl, _⟩
    rfl
  intro cdv A outer s H vs Q E hr h
  obtain ⟨d, c, rfl, D, k⟩ := h
  refine ⟨_, pss_cons (ps_set (i := 1) scWholeL.nd rfl (Or.inl rfl) (pe_lst (pa_cons pe_int (pa_cons pe_int (pa_cons pe_int (pa_cons pe_int (pa_cons pe_int (pa_cons pe_int (pa_cons pe_int (pa_cons pe_int (pa_cons pe_int (pa_cons pe_int
      (pa_cons (pe_call GD hr rfl FD.m FD.F.kp FD.b .nil pass0 (pa_cons (pv 0) (pa_cons pe_int pa_nil))) (pa_cons (pe_call GD hr rfl FD.m FD.F.kp FD.b .nil pass0 (pa_cons (pv 0) (pa_cons pe_int pa_nil))) pa_nil))))))))))))))
    (pss_one (ps_ret (pe_ix ix_list (pv 1) (pe_call GD hr rfl FD.m FD.F.kp FD.b .nil pass0 (pa_cons (pv 0) (pa_cons pe_int pa_nil))) (fun _ _ => rfl)))), ?_⟩
  refine ⟨_, rfl, ?_⟩
  dsimp only [tNil, tC, tCons]
  refine ⟨d, c, 9000, rfl, D, by decide, by decide, fun H1 r1 D1 k1 a1 b1 => ?_⟩
  refine ⟨_, rfl, ?_⟩
  dsimp only [tNil, tC, tCons]
  refine ⟨d, c, 30, rfl, D1, by decide, by decide, fun H2 r2 D2 k2 a2 b2 => ?_⟩
  refine ⟨(by show 12 ≤ sizeLine; decide), fun p hp => ?_⟩
  have s3 := same_new (o := HO.lst [V.int 0, .int 1, .int 2, .int 3, .int 9, .int 10, .int 99, .int 100, .int 999, .int 8999, .int r1, .int r2]) hp
  have off := D2.off_n hp
  refine ⟨_, rfl, _, rfl, ?_⟩
  dsimp only [tNil, tC, tCons]
  refine ⟨d, c, 12, rfl, D2.same s3, by decide, by decide, fun H4 r4 D4 k4 a4 b4 => ?_⟩
  obtain ⟨v, hv, hm⟩ := atI_mem (xs := [V.int 0, .int 1, .int 2, .int 3, .int 9, .int 10, .int 99, .int 100, .int 999, .int 8999, .int r1, .int r2]) a4 b4
  refine ⟨p, _, r4, v, rfl, rfl, SqL.of (k4 _ _ upd_same off.1 off.2), hv, ?_⟩
  have hx : ∃ x : Int, v = V.int x ∧ 0 ≤ x ∧ x ≤ 8999 := by
    simp only [List.mem_cons, List.not_mem_nil, or_false] at hm
    rcases hm with rfl | rfl | rfl | rfl | rfl | rfl | rfl | rfl | rfl | rfl | rfl | rfl
    all_goals exact ⟨_, rfl, by omega, by omega⟩
  obtain ⟨x, rfl, x0, x1⟩ := hx
  exact k H4 x D4 ((k1.trans k2).trans ((Kept.of s3).trans k4)) x0 x1
/-! ### five numbers, drawn -/
def spFive : Sp := fun vs H Q _ => ∃ (d c : Addr), vs = [.ref d] ∧ Deck H d c ∧ ∀ H' p f, Deck H' d c → Kept d c H H' → H' p = some (.tup (fiveV f)) → Right f → Small f → Q (.ref p) H'
abbrev nFive : List Str := ["_law_deck_here", "_law_way", "_law_upper", "_law_lower", "_law_mark", "_law_many", "_law_by", "_law_free", "_law_some", "_law_aloft", "_law_beneath"]
theorem scFive : FnScope nFive ["_law_deck_here"] (defScope sFive) := ⟨rfl, rfl, rfl, by decide +kernel, rfl, by decide +kernel, by decide +kernel⟩
/-- a pair that may stand for a root -/
def PairAt (H : Hp) (v : V) : Prop := ∃ t a b, v = .ref t ∧ H t = some (.tup [.int a, .int b]) ∧ 0 ≤ a ∧ 0 < b ∧ b ≤ 999999
theorem PairAt.same {H H' : Hp} {v : V} (s : Same H H') (h : PairAt H v) : PairAt H' v := by
  obtain ⟨t, a, b, e, h1, h2⟩ := h
  exact ⟨t, a, b, e, s _ _ h1, h2⟩
theorem PairAt.kept {H H' : Hp} {d c : Addr} {v : V} (k : Kept d c H H') (D : Deck H d c) (h : PairAt H v) : PairAt H' v := by
  obtain ⟨t, a, b, e, h1, h2⟩ := h
  exact ⟨t, a, b, e, k.tup D h1, h2⟩
theorem ok_five {f fD fW : Addr} {fd fdD fdW : FuncData} (F : Fun K "_law_five" "_law_five" sFive f fd) (GD : GDraw P w K mg base fD fdD) (FD : FDraw K mg fD fdD)
    (GW : FnOk P w K mg base CX0 2 fW fdW ["_law_deck_here"] spWholeL) (FW : Fns K mg fW fdW "_law_whole" 39 ["_law_deck_here"]) (mM : mg "min" = none) :
    FnOk P w K mg base CX0 3 f fd ["_law_deck_here"] spFive := by
  refine F.ok scFive ?_ ?_
  · rintro vs H Q E ⟨d, c, rfl, _⟩
    rfl
  intro cdv A outer s H vs Q E hr h
  have hr1 : Room 1 _ := hr.mono (by decide)
  obtain ⟨d, c, rfl, D, k⟩ := h
  refine ⟨_, pss_cons (ps_set (i := 1) scFive.nd rfl (Or.inl rfl) (pe_call GD hr1 rfl FD.m FD.F.kp FD.b .nil pass0 (pa_cons (pv 0) (pa_cons pe_int pa_nil))))
    (pss_cons (ps_set (i := 2) scFive.nd rfl (Or.inl rfl) (pe_op op_mul (pe_call GW hr rfl FW.m FW.F.kp FW.b .nil pass0 (pa_cons (pv 0) pa_nil))
      (pe_ix ix_list (pe_lst (pa_cons pe_int (pa_cons (pe_un un_neg pe_int) pa_nil))) (pe_call GD hr1 rfl FD.m FD.F.kp FD.b .nil pass0 (pa_cons (pv 0) (pa_cons pe_int pa_nil))) (fun _ _ => rfl))))
    (pss_cons (ps_set (i := 3) scFive.nd rfl (Or.inl rfl) (pe_op op_add pe_int (pe_call GD hr1 rfl FD.m FD.F.kp FD.b .nil pass0 (pa_cons (pv 0) (pa_cons
      (pe_ix ix_list (pe_lst (pa_cons pe_int (pa_cons pe_int (pa_cons pe_int pa_nil)))) (pe_call GD hr1 rfl FD.m FD.F.kp FD.b .nil pass0 (pa_cons (pv 0) (pa_cons pe_int pa_nil))) (fun _ _ => rfl)) pa_nil)))))
    (pss_cons (ps_set (i := 4) scFive.nd rfl (Or.inl rfl) (pe_ix ix_list (pe_lst (pa_cons (pe_un un_neg pe_int) (pa_cons pe_int (pa_cons pe_int pa_nil)))) (pe_op op_fdiv (pe_call GD hr1 rfl FD.m FD.F.kp FD.b .nil pass0 (pa_cons (pv 0) (pa_cons pe_int pa_nil))) pe_int) (fun _ _ => rfl)))
    (pss_cons (ps_par (i := 5) (j := 6) rfl scFive.nd rfl rfl (by decide) rfl rfl (pa_cons (pe_op op_add pe_int (pe_call GD hr1 rfl FD.m FD.F.kp FD.b .nil pass0 (pa_cons (pv 0) (pa_cons pe_int pa_nil)))) (pa_cons (pe_op op_add pe_int (pe_call GD hr1 rfl FD.m FD.F.kp FD.b .nil pass0 (pa_cons (pv 0) (pa_cons pe_int pa_nil)))) pa_nil)) (by rfl))
    (pss_cons (ps_set (i := 7) scFive.nd rfl (Or.inl rfl) (pe_ix ix_list (pe_lst (pa_cons pe_int (pa_cons pe_int (pa_cons pe_int (pa_cons pe_int (pa_cons pe_int (pa_cons pe_int (pa_cons pe_int (pa_cons pe_int pa_nil)))))))))
      (pe_call GD hr1 rfl FD.m FD.F.kp FD.b .nil pass0 (pa_cons (pv 0) (pa_cons pe_int pa_nil))) (fun _ _ => rfl)))
    (pss_cons (ps_set (i := 8) scFive.nd rfl (Or.inl rfl) (pe_lst (pa_cons (pe_tup (pa_cons (pv 7) (pa_cons pe_int pa_nil))) (pa_cons (pe_tup (pa_cons (pe_op op_mul (pv 5) (pv 5)) (pa_cons (pe_op op_mul (pv 6) (pv 6)) pa_nil)))
      (pa_cons (pe_tup (pa_cons (pe_op op_mul (pe_op op_mul (pv 7) (pv 6)) (pv 6)) (pa_cons (pe_op op_mul (pv 5) (pv 5)) pa_nil))) pa_nil)))))
    (pss_cons (ps_set (i := 8) scFive.nd rfl (Or.inl rfl) (pe_op op_cat (pv 8) (pe_lst (pa_cons (pe_tup (pa_cons (pe_call GW hr rfl FW.m FW.F.kp FW.b .nil pass0 (pa_cons (pv 0) pa_nil)) (pa_cons (pv 6) pa_nil))) (pa_cons (pe_tup (pa_cons pe_int (pa_cons (pv 6) pa_nil)))
      (pa_cons (pe_tup (pa_cons (pe_op op_mul (pv 5) (pv 7)) (pa_cons (pe_op op_mul (pv 6) (pv 7)) pa_nil))) pa_nil))))))
    (pss_cons (ps_asg (pe_ix ix_list (pv 8) (pv 1) (fun _ _ => rfl)) (pg_tup rfl (pgs_cons (pg_name (i := 9) scFive.nd rfl (Or.inl rfl)) (pgs_cons (pg_name (i := 10) scFive.nd rfl (Or.inl rfl)) pgs_nil))))
    (pss_one (ps_ret (pe_tup (pa_cons (pv 2) (pa_cons (pv 3) (pa_cons (pv 4) (pa_cons (pe_callB (call_min2 rfl) (by rfl) mM (by decide +kernel) (pa_cons (pv 9) (pa_cons pe_int pa_nil))) (pa_cons (pv 10) pa_nil)))))))))))))))), ?_⟩
  -- way
  refine ⟨_, rfl, ?_⟩
  dsimp only [tNil, tC, tCons]
  refine ⟨d, c, 6, rfl, D, by decide, by decide, fun H1 way D1 k1 way0 way1 => ?_⟩
  -- upper
  refine ⟨_, rfl, ?_⟩
  dsimp only [tNil, tC, tCons]
  refine ⟨d, c, rfl, D1, fun H2 u D2 k2 u0 u1 => ?_⟩
  refine ⟨1, rfl, (by show 2 ≤ sizeLine; decide), fun p3 hp3 => ?_⟩
  have s3 := same_new (o := HO.lst [V.int 1, V.int (-1)]) hp3
  have off3 := D2.off_n hp3
  refine ⟨_, rfl, ?_⟩
  dsimp only [tNil, tC, tCons]
  refine ⟨d, c, 2, rfl, D2.same s3, by decide, by decide, fun H4 r4 D4 k4 a4 b4 => ?_⟩
  obtain ⟨v4, hv4, hm4⟩ := atI_mem (xs := [V.int 1, .int (-1)]) a4 b4
  obtain ⟨x4, rfl, hx4⟩ : ∃ x : Int, v4 = V.int x ∧ (x = 1 ∨ x = -1) := by
    simp only [List.mem_cons, List.not_mem_nil, or_false] at hm4
    rcases hm4 with rfl | rfl
    · exact ⟨_, rfl, .inl rfl⟩
    · exact ⟨_, rfl, .inr rfl⟩
  refine ⟨p3, _, r4, _, rfl, rfl, SqL.of (k4 _ _ upd_same off3.1 off3.2), hv4, _, _, rfl, rfl, Or.inl (by omega), ?_⟩
  have hup : (u * x4).natAbs ≤ 999999 := by
    rcases hx4 with rfl | rfl <;> omega
  try dsimp only
  generalize u * x4 = upper at *
  have K4 : Kept d c H H4 := (k1.trans k2).trans ((Kept.of s3).trans k4)
  clear hx4 hv4 hm4
  -- lower
  refine ⟨_, rfl, (by show 3 ≤ sizeLine; decide), fun p5 hp5 => ?_⟩
  have s5 := same_new (o := HO.lst [V.int 1, V.int 12, V.int 8999]) hp5
  have off5 := D4.off_n hp5
  refine ⟨_, rfl, ?_⟩
  dsimp only [tNil, tC, tCons]
  refine ⟨d, c, 3, rfl, D4.same s5, by decide, by decide, fun H6 r6 D6 k6 a6 b6 => ?_⟩
  obtain ⟨v6, hv6, hm6⟩ := atI_mem (xs := [V.int 1, .int 12, .int 8999]) a6 b6
  obtain ⟨x6, rfl, hx6, hy6⟩ : ∃ x : Int, v6 = V.int x ∧ 0 < x ∧ x ≤ 8999 := by
    simp only [List.mem_cons, List.not_mem_nil, or_false] at hm6
    rcases hm6 with rfl | rfl | rfl
    all_goals exact ⟨_, rfl, by omega, by omega⟩
  refine ⟨p5, _, r6, _, rfl, rfl, SqL.of (k6 _ _ upd_same off5.1 off5.2), hv6, ?_⟩
  refine ⟨d, c, x6, rfl, D6, hx6, by omega, fun H7 l7 D7 k7 a7 b7 => ?_⟩
  refine ⟨1, l7, rfl, rfl, ?_⟩
  have K7 : Kept d c H H7 := (K4.trans (Kept.of s5)).trans (k6.trans k7)
  have hlo : 0 < 1 + l7 ∧ 1 + l7 ≤ 999999 := by omega
  try dsimp only
  generalize 1 + l7 = lower at *
  clear hv6 hm6 hx6 hy6 a7 b7
  -- mark
  refine ⟨1, rfl, (by show 3 ≤ sizeLine; decide), fun p8 hp8 => ?_⟩
  have s8 := same_new (o := HO.lst [V.int (-1), V.int 1, V.int 0]) hp8
  have off8 := D7.off_n hp8
  refine ⟨_, rfl, ?_⟩
  dsimp only [tNil, tC, tCons]
  refine ⟨d, c, 7, rfl, D7.same s8, by decide, by decide, fun H9 r9 D9 k9 a9 b9 => ?_⟩
  refine ⟨r9, 3, rfl, rfl, ⟨by decide, by decide⟩, ?_⟩
  obtain ⟨v9, hv9, hm9⟩ := atI_mem (xs := [V.int (-1), .int 1, .int 0]) (i := r9 / 3) (by omega) (by show r9 / 3 < 3; omega)
  obtain ⟨mark, rfl, hmark⟩ : ∃ x : Int, v9 = V.int x ∧ (x = -1 ∨ x = 0 ∨ x = 1) := by
    simp only [List.mem_cons, List.not_mem_nil, or_false] at hm9
    rcases hm9 with rfl | rfl | rfl
    all_goals exact ⟨_, rfl, by omega⟩
  refine ⟨p8, _, r9 / 3, _, rfl, rfl, SqL.of (k9 _ _ upd_same off8.1 off8.2), hv9, ?_⟩
  have K9 : Kept d c H H9 := (K7.trans (Kept.of s8)).trans k9
  clear hv9 hm9
  -- many, by
  refine ⟨_, rfl, ?_⟩
  dsimp only [tNil, tC, tCons]
  refine ⟨d, c, 30, rfl, D9, by decide, by decide, fun Ha ra Da ka aa ba => ?_⟩
  refine ⟨1, ra, rfl, rfl, _, rfl, ?_⟩
  dsimp only [tNil, tC, tCons]
  refine ⟨d, c, 12, rfl, Da, by decide, by decide, fun Hb rb Db kb ab bb => ?_⟩
  refine ⟨1, rb, rfl, rfl, _, _, rfl, ?_⟩
  have Kb : Kept d c H Hb := K9.trans (ka.trans kb)
  have hma : 0 < 1 + ra ∧ 1 + ra ≤ 30 := by omega
  have hby : 0 < 1 + rb ∧ 1 + rb ≤ 12 := by omega
  try dsimp only
  generalize 1 + ra = many at *
  generalize 1 + rb = bY at *
  clear aa ba ab bb
  -- free
  refine ⟨(by show 8 ≤ sizeLine; decide), fun pc hpc => ?_⟩
  have sc := same_new (o := HO.lst [V.int 2, .int 3, .int 5, .int 6, .int 7, .int 10, .int 30, .int 8999]) hpc
  have offc := Db.off_n hpc
  refine ⟨_, rfl, ?_⟩
  dsimp only [tNil, tC, tCons]
  refine ⟨d, c, 8, rfl, Db.same sc, by decide, by decide, fun Hd rd Dd kd ad bd => ?_⟩
  obtain ⟨vd, hvd, hmd⟩ := atI_mem (xs := [V.int 2, .int 3, .int 5, .int 6, .int 7, .int 10, .int 30, .int 8999]) ad bd
  obtain ⟨free, rfl, hf0, hf1⟩ : ∃ x : Int, vd = V.int x ∧ 0 < x ∧ x ≤ 8999 := by
    simp only [List.mem_cons, List.not_mem_nil, or_false] at hmd
    rcases hmd with rfl | rfl | rfl | rfl | rfl | rfl | rfl | rfl
    all_goals exact ⟨_, rfl, by omega, by omega⟩
  refine ⟨pc, _, rd, _, rfl, rfl, SqL.of (kd _ _ upd_same offc.1 offc.2), hvd, ?_⟩
  have Kd : Kept d c H Hd := (Kb.trans (Kept.of sc)).trans kd
  clear hvd hmd
  have mm : 0 < many * many ∧ many * many ≤ 30 * 30 := ⟨Int.mul_pos hma.1 hma.1, Int.mul_le_mul hma.2 hma.2 (by omega) (by decide)⟩
  have bb : 0 < bY * bY ∧ bY * bY ≤ 12 * 12 := ⟨Int.mul_pos hby.1 hby.1, Int.mul_le_mul hby.2 hby.2 (by omega) (by decide)⟩
  have fb : 0 < free * bY ∧ free * bY ≤ 8999 * 12 := ⟨Int.mul_pos hf0 hby.1, Int.mul_le_mul hf1 hby.2 (by omega) (by decide)⟩
  have fbb : 0 < free * bY * bY := Int.mul_pos fb.1 hby.1
  have mf : 0 < many * free := Int.mul_pos hma.1 hf0
  have bf : 0 < bY * free ∧ bY * free ≤ 12 * 8999 := ⟨Int.mul_pos hby.1 hf0, Int.mul_le_mul hby.2 hf1 (by omega) (by decide)⟩
  -- the first three pairs
  refine ⟨_, rfl, (by show 2 ≤ sizeLine; decide), fun t1 ht1 => ?_⟩
  have q1 := same_new (o := HO.tup [V.int free, V.int 1]) ht1
  refine ⟨_, rfl, _, rfl, _, _, rfl, rfl, Or.inl (by omega), _, rfl, _, rfl, _, _, rfl, rfl, Or.inl (by omega), (by show 2 ≤ sizeLine; decide), fun t2 ht2 => ?_⟩
  have q2 := same_new (o := HO.tup [V.int (many * many), V.int (bY * bY)]) ht2
  refine ⟨_, rfl, _, rfl, _, _, rfl, rfl, Or.inl (by omega), _, rfl, _, _, rfl, rfl, Or.inr (by omega), _, rfl, _, rfl, _, _, rfl, rfl, Or.inl (by omega), (by show 2 ≤ sizeLine; decide), fun t3 ht3 => ?_⟩
  have q3 := same_new (o := HO.tup [V.int (free * bY * bY), V.int (many * many)]) ht3
  refine ⟨(by show 3 ≤ sizeLine; decide), fun pe hpe => ?_⟩
  have qe := same_new (o := HO.lst [V.ref t1, V.ref t2, V.ref t3]) hpe
  have P1 : PairAt _ (V.ref t1) := ⟨t1, free, 1, rfl, qe _ _ (q3 _ _ (q2 _ _ upd_same)), by omega, by omega, by omega⟩
  have P2 : PairAt _ (V.ref t2) := ⟨t2, many * many, bY * bY, rfl, qe _ _ (q3 _ _ upd_same), by omega, by omega, by omega⟩
  have P3 : PairAt _ (V.ref t3) := ⟨t3, free * bY * bY, many * many, rfl, qe _ _ upd_same, by omega, by omega, by omega⟩
  have De := (((Dd.same q1).same q2).same q3).same qe
  have Ke : Kept d c H _ := Kd.trans (Kept.of (((q1.trans q2).trans q3).trans qe))
  have offe := (((Dd.same q1).same q2).same q3).off_n hpe
  have hse := @upd_same (upd (upd (upd Hd t1 (HO.tup [V.int free, V.int 1])) t2 (HO.tup [V.int (many * many), V.int (bY * bY)])) t3 (HO.tup [V.int (free * bY * bY), V.int (many * many)])) pe (HO.lst [V.ref t1, V.ref t2, V.ref t3])
  generalize upd (upd (upd (upd Hd t1 (HO.tup [V.int free, V.int 1])) t2 (HO.tup [V.int (many * many), V.int (bY * bY)])) t3 (HO.tup [V.int (free * bY * bY), V.int (many * many)])) pe (HO.lst [V.ref t1, V.ref t2, V.ref t3]) = He at *
  clear q1 q2 q3 qe ht1 ht2 ht3 hpe
  -- the other three
  refine ⟨_, rfl, ?_⟩
  dsimp only [tNil, tC, tCons]
  refine ⟨_, rfl, ?_⟩
  dsimp only [tNil, tC, tCons]
  refine ⟨d, c, rfl, De, fun Hf rf Df kf af bf' => ?_⟩
  have P1f := P1.kept kf De
  have P2f := P2.kept kf De
  have P3f := P3.kept kf De
  have hsf := kf _ _ hse offe.1 offe.2
  have Kf : Kept d c H Hf := Ke.trans kf
  refine ⟨_, rfl, (by show 2 ≤ sizeLine; decide), fun t4 ht4 => ?_⟩
  have q4 := same_new (o := HO.tup [V.int rf, V.int bY]) ht4
  refine ⟨_, rfl, (by show 2 ≤ sizeLine; decide), fun t5 ht5 => ?_⟩
  have q5 := same_new (o := HO.tup [V.int 0, V.int bY]) ht5
  refine ⟨_, rfl, _, rfl, _, _, rfl, rfl, Or.inl (by omega), _, rfl, _, rfl, _, _, rfl, rfl, Or.inl (by omega), (by show 2 ≤ sizeLine; decide), fun t6 ht6 => ?_⟩
  have q6 := same_new (o := HO.tup [V.int (many * free), V.int (bY * free)]) ht6
  refine ⟨(by show 3 ≤ sizeLine; decide), fun pg hpg => ?_⟩
  have qg := same_new (o := HO.lst [V.ref t4, V.ref t5, V.ref t6]) hpg
  have sfg := (((q4.trans q5).trans q6).trans qg)
  have P4 : PairAt _ (V.ref t4) := ⟨t4, rf, bY, rfl, qg _ _ (q6 _ _ (q5 _ _ upd_same)), by omega, by omega, by omega⟩
  have P5 : PairAt _ (V.ref t5) := ⟨t5, 0, bY, rfl, qg _ _ (q6 _ _ upd_same), by omega, by omega, by omega⟩
  have P6 : PairAt _ (V.ref t6) := ⟨t6, many * free, bY * free, rfl, qg _ _ upd_same, by omega, by omega, by omega⟩
  have Dg := Df.same sfg
  have Kg : Kept d c H _ := Kf.trans (Kept.of sfg)
  refine ⟨pe, pg, _, _, rfl, rfl, sfg _ _ hsf, upd_same, (by show 6 ≤ sizeLine; decide), fun ph hph => ?_⟩
  have qh := same_new (o := HO.lst ([V.ref t1, V.ref t2, V.ref t3] ++ [V.ref t4, V.ref t5, V.ref t6])) hph
  -- aloft, beneath
  obtain ⟨v, hv, hm⟩ := atI_mem (xs := [V.ref t1, V.ref t2, V.ref t3] ++ [V.ref t4, V.ref t5, V.ref t6]) way0 way1
  have PV : PairAt (upd (upd (upd (upd (upd Hf t4 (HO.tup [V.int rf, V.int bY])) t5 (HO.tup [V.int 0, V.int bY])) t6 (HO.tup [V.int (many * free), V.int (bY * free)])) pg (HO.lst [V.ref t4, V.ref t5, V.ref t6])) ph (HO.lst ([V.ref t1, V.ref t2, V.ref t3] ++ [V.ref t4, V.ref t5, V.ref t6]))) v := by
    simp only [List.cons_append, List.nil_append, List.mem_cons, List.not_mem_nil, or_false] at hm
    rcases hm with rfl | rfl | rfl | rfl | rfl | rfl
    · exact (P1f.same sfg).same qh
    · exact (P2f.same sfg).same qh
    · exact (P3f.same sfg).same qh
    · exact P4.same qh
    · exact P5.same qh
    · exact P6.same qh
  obtain ⟨tv, a, b, rfl, htv, ha, hb, hb2⟩ := PV
  refine ⟨_, rfl, _, rfl, ph, _, way, _, rfl, rfl, SqL.of upd_same, hv, tv, _, rfl, SqT.of htv, rfl, _, _, rfl, _, _, rfl, rfl, ?_⟩
  refine ⟨_, rfl, _, rfl, _, rfl, _, rfl, _, _, rfl, _, rfl, (by show 5 ≤ sizeLine; decide), fun pz hpz => ?_⟩
  refine k _ pz (upper, lower, mark, (if (999999 : Int) < a then 999999 else a), b) ((Dg.same qh).same (same_new hpz)) (Kg.trans (Kept.of (qh.trans (same_new hpz)))) upd_same ⟨hlo.1, hmark, ?_, hb⟩ ⟨hup, hlo.2, ?_, hb2⟩
  · dsimp only; split <;> omega
  · dsimp only; split <;> omega
end
end PH
namespace PH
open PySem PySem.Spec PyProof.Rows L2
open C8 (pss_cut tCut)
abbrev sGreat : Stmt := topS 47
section
variable {P : Program} {w : World} {K : PySem.W.Frag} {mg : Str → Option Value} {base : Heap} {C NX : Addr}
abbrev nGreat : List Str := ["_law_deck_here", "_law_some", "_law_signs", "_law_k"]
theorem scGreat : FnScope nGreat ["_law_deck_here"] (defScope sGreat) := ⟨rfl, rfl, rfl, by decide +kernel, rfl, by decide +kernel, by decide +kernel⟩
theorem ok_great {f fD : Addr} {fd fdD : FuncData} (F : Fun K "_law_great" "_law_great" sGreat f fd) (GD : GDraw P w K mg base fD fdD) (FD : FDraw K mg fD fdD) (mR : mg "range" = none) :
    FnOk P w K mg base CX0 2 f fd ["_law_deck_here"] spFive := by
  refine F.ok scGreat ?_ ?_
  · rintro vs H Q E ⟨d, c, rfl, _⟩
    rfl
  intro cdv A outer s H vs Q E hr h
  obtain ⟨d, c, rfl, D, k⟩ := h
  refine ⟨_, pss_cons (ps_setLc (i := 1) (own := [("_law_k", 3)]) (g := gName 3) (tt := tYes) rfl scGreat.nd rfl rfl (sw_true rfl rfl rfl (by decide +kernel)) (pi_range1 rfl mR (pa_cons pe_int pa_nil))
        (blkOk_by (own := [("_law_k", 3)]) (N := nGreat) (sc := defScope sGreat) (by decide +kernel)) (fun _ _ _ _ _ => pg_name (i := 3) scGreat.nd rfl (Or.inl rfl)) (fun _ _ _ _ _ => pts_nil)
        (fun _ _ _ _ _ => pe_op op_sub (pe_op op_sub (pe_op op_pow pe_int pe_int) pe_int) (pe_call GD hr rfl FD.m FD.F.kp FD.b .nil pass0 (pa_cons (pv 0) (pa_cons pe_int pa_nil)))))
    (pss_cons (ps_asg (pe_op op_sub (pe_ix ix_list (pv 1) pe_int (fun _ _ => rfl)) pe_int) (pg_sub (pv 1) pe_int set_list))
    (pss_cons (ps_set (i := 2) scGreat.nd rfl (Or.inl rfl) (pe_lst (pa_cons (pe_call GD hr rfl FD.m FD.F.kp FD.b .nil pass0 (pa_cons (pv 0) (pa_cons pe_int pa_nil))) (pa_cons (pe_call GD hr rfl FD.m FD.F.kp FD.b .nil pass0 (pa_cons (pv 0) (pa_cons pe_int pa_nil))) pa_nil))))
    (pss_one (ps_ret (pe_tup (pa_cons (pe_op op_mul (pe_ix ix_list (pv 1) pe_int (fun _ _ => rfl)) (pe_ix ix_list (pe_lst (pa_cons pe_int (pa_cons (pe_un un_neg pe_int) pa_nil))) (pe_ix ix_list (pv 2) pe_int (fun _ _ => rfl)) (fun _ _ => rfl)))
      (pa_cons (pe_ix ix_list (pv 1) pe_int (fun _ _ => rfl)) (pa_cons (pe_op op_sub (pe_ix ix_list (pv 2) pe_int (fun _ _ => rfl)) pe_int) (pa_cons (pe_ix ix_list (pv 1) pe_int (fun _ _ => rfl)) (pa_cons (pe_ix ix_list (pv 1) pe_int (fun _ _ => rfl)) pa_nil)))))))))), ?_⟩
  refine ⟨4, rfl, by decide, by decide, fun L hL => ?_⟩
  have offL := D.off_n hL
  refine lc_range (lo := 0) (n := 4) (fun i H' => Deck H' d c ∧ Kept d c H H' ∧ ∃ xs : List Int, xs.length = i ∧ (∀ x ∈ xs, 999991 ≤ x ∧ x ≤ 999999) ∧ H' L = some (.lst (xs.map V.int)))
    ⟨D.same (same_new hL), Kept.of (same_new hL), [], rfl, by simp, upd_same⟩ ?_ ?_
  · rintro i H' hi ⟨D1, k1, xs, hl, hx, hH⟩
    refine ⟨rfl, yes_if ?_⟩
    refine ⟨_, _, rfl, rfl, ⟨by decide, by decide, by decide⟩, _, _, rfl, rfl, _, rfl, ?_⟩
    dsimp only [tNil, tC, tCons]
    refine ⟨d, c, 9, rfl, D1, by decide, by decide, fun H2 r D2 k2 r0 r1 => ?_⟩
    have offL1 := offL
    have hH2 := k2 _ _ hH offL.1 offL.2
    refine ⟨_, _, rfl, rfl, _, hH2, by rw [List.length_map, hl]; exact Nat.lt_of_lt_of_le hi (by decide), ?_, ?_, xs ++ [999999 - r], by simp [hl], ?_, ?_⟩
    · obtain ⟨ms, n1, n2, e1, e2, e3, e4⟩ := D2
      exact ⟨ms, n1, n2, by rw [upd_ne offL.1.symm]; exact e1, by rw [upd_ne offL.2.symm]; exact e2, e3, e4⟩
    · intro b o e h1 h2
      have hbL : b ≠ L := ne_of_none e hL
      rw [upd_ne hbL]
      exact (k1.trans k2) b o e h1 h2
    · intro x hm
      rcases List.mem_append.mp hm with hm | hm
      · exact hx x hm
      · simp at hm; omega
    · rw [upd_same, List.map_append]
      rfl
  · rintro H1 ⟨D1, k1, xs, hl, hx, hH⟩
    match xs, hl with
    | [x0, x1, x2, x3], _ =>
    have b0 := hx x0 (by simp)
    have b1 := hx x1 (by simp)
    have b2 := hx x2 (by simp)
    have b3 := hx x3 (by simp)
    refine ⟨_, rfl, L, _, 3, _, rfl, rfl, SqL.of hH, rfl, _, _, rfl, rfl, _, rfl, L, _, 3, 3, rfl, rfl, hH, rfl, ?_⟩
    have eL : ([x0, x1, x2, x3].map V.int).set 3 (V.int (x3 - 20)) = [V.int x0, V.int x1, V.int x2, V.int (x3 - 20)] := rfl
    rw [eL]
    have D2 : Deck (upd H1 L (.lst [V.int x0, V.int x1, V.int x2, V.int (x3 - 20)])) d c := by
      obtain ⟨ms, n1, n2, e1, e2, e3, e4⟩ := D1
      exact ⟨ms, n1, n2, by rw [upd_ne offL.1.symm]; exact e1, by rw [upd_ne offL.2.symm]; exact e2, e3, e4⟩
    have k2 : Kept d c H (upd H1 L (.lst [V.int x0, V.int x1, V.int x2, V.int (x3 - 20)])) := fun b o e h1 h2 => by
      rw [upd_ne (ne_of_none e hL)]
      exact k1 b o e h1 h2
    have hH2 : upd H1 L (.lst [V.int x0, V.int x1, V.int x2, V.int (x3 - 20)]) L = some (.lst [V.int x0, V.int x1, V.int x2, V.int (x3 - 20)]) := upd_same
    generalize upd H1 L (.lst [V.int x0, V.int x1, V.int x2, V.int (x3 - 20)]) = H2 at *
    refine ⟨_, rfl, ?_⟩
    dsimp only [tNil, tC, tCons]
    refine ⟨d, c, 2, rfl, D2, by decide, by decide, fun H3 r3 D3 k3 a3 b3' => ?_⟩
    refine ⟨_, rfl, ?_⟩
    dsimp only [tNil, tC, tCons]
    refine ⟨d, c, 3, rfl, D3, by decide, by decide, fun H4 r4 D4 k4 a4 b4' => ?_⟩
    refine ⟨(by show 2 ≤ sizeLine; decide), fun p hp => ?_⟩
    have s5 := same_new (o := HO.lst [V.int r3, V.int r4]) hp
    have hL5 := s5 _ _ ((k3.trans k4) _ _ hH2 offL.1 offL.2)
    refine ⟨_, rfl, L, _, 0, _, rfl, rfl, SqL.of hL5, rfl, 1, rfl, (by show 2 ≤ sizeLine; decide), fun q hq => ?_⟩
    have s6 := same_new (o := HO.lst [V.int 1, V.int (-1)]) hq
    have hp6 := s6 _ _ (@upd_same H4 p (HO.lst [V.int r3, V.int r4]))
    refine ⟨_, rfl, p, _, 0, _, rfl, rfl, SqL.of hp6, rfl, ?_⟩
    obtain ⟨v, hv, hm⟩ := atI_mem (xs := [V.int 1, .int (-1)]) a3 b3'
    obtain ⟨y, rfl, hy⟩ : ∃ x : Int, v = V.int x ∧ (x = 1 ∨ x = -1) := by
      simp only [List.mem_cons, List.not_mem_nil, or_false] at hm
      rcases hm with rfl | rfl
      · exact ⟨_, rfl, .inl rfl⟩
      · exact ⟨_, rfl, .inr rfl⟩
    have hL6 := s6 _ _ hL5
    refine ⟨q, _, r3, _, rfl, rfl, SqL.of upd_same, hv, x0, y, rfl, rfl, Or.inl (by omega), ?_⟩
    refine ⟨_, rfl, L, _, 1, _, rfl, rfl, SqL.of hL6, rfl, _, rfl, p, _, 1, _, rfl, rfl, SqL.of hp6, rfl, _, _, rfl, rfl, _, rfl, L, _, 2, _, rfl, rfl, SqL.of hL6, rfl, _, rfl, L, _, 3, _, rfl, rfl, SqL.of hL6, rfl, (by show 5 ≤ sizeLine; decide), fun z hz => ?_⟩
    refine k _ z (x0 * y, x1, r4 - 1, x2, x3 - 20) (((D4.same s5).same s6).same (same_new hz)) ((k2.trans (k3.trans k4)).trans (Kept.of ((s5.trans s6).trans (same_new hz)))) upd_same ⟨?_, ?_, ?_, ?_⟩ ⟨?_, ?_, ?_, ?_⟩
    all_goals dsimp only
    · omega
    · omega
    · omega
    · omega
    · rcases hy with rfl | rfl <;> omega
    · omega
    · omega
    · omega
end
end PH
namespace PH
open PySem PySem.Spec PyProof.Rows L2
open C8 (pss_cut tCut)
abbrev sMade : Stmt := topS 42
abbrev sFlds : Stmt := topS 43
abbrev sIs : Stmt := topS 44
section
variable {P : Program} {w : World} {K : PySem.W.Frag} {mg : Str → Option Value} {base : Heap} {C NX : Addr}
/-- a def that may raise, called where it doesn't -/
theorem passX0 {X : Cx} : Passes (L2.CX X.prog X.w) X E0 := by
  rintro pins σ H s e s' I ⟨a, B, H', cls, d, _, _, _, _, _, _, _, hE⟩
  exact hE.elim
/-! ### repr of five numbers, of a refusal's word -/
theorem small_log {i : Int} (h : i.natAbs ≤ 2000000000) : i.natAbs.log2 < 1920 :=
  Nat.lt_of_le_of_lt (log_le (k := 40) (by omega)) (by decide)
theorem short_int {i : Int} (h : i.natAbs ≤ 2000000000) : PyData.leavesShort 1921 (.int i) = true := by
  unfold PyData.leavesShort
  exact decide_eq_true (int_text_len_1921 (small_log h))
def fiveD (f : Five) : PyData := .tuple [.int f.1, .int f.2.1, .int f.2.2.1, .int f.2.2.2.1, .int f.2.2.2.2]
theorem dp_five {H : Hp} {p : Addr} {f : Five} (h : H p = some (.tup (fiveV f))) : Dp K H (.ref p) (fiveD f) :=
  .tup (SqT.of h) (.cons (.int _) (.cons (.int _) (.cons (.int _) (.cons (.int _) (.cons (.int _) .nil)))))
structure Tiny (f : Five) : Prop where
  u : f.1.natAbs ≤ 2000000000
  l : f.2.1.natAbs ≤ 2000000000
  m : f.2.2.1.natAbs ≤ 2000000000
  a : f.2.2.2.1.natAbs ≤ 2000000000
  b : f.2.2.2.2.natAbs ≤ 2000000000
theorem tiny_of {f : Five} (c : Right f) (h : Fits f) : Tiny f := by
  obtain ⟨h1, h2, h3, h4⟩ := c
  obtain ⟨h5, h6, h7, h8⟩ := h
  exact ⟨by omega, by omega, by omega, by omega, by omega⟩
theorem five_shows {f : Five} (t : Tiny f) : (fiveD f).showable = true ∧ (fiveD f).hasDict = false ∧ (fiveD f).depth ≤ 60 ∧ (fiveD f).shown.length ≤ sizeLine := by
  obtain ⟨h1, h2, h3, h4, h5⟩ := t
  refine ⟨?_, rfl, by show 1 ≤ 60; decide, ?_⟩
  · simp only [fiveD, PyData.showable, PyData.showableAll, Bool.and_true, Bool.and_eq_true, decide_eq_true_eq]
    exact ⟨small_log h1, small_log h2, small_log h3, small_log h4, small_log h5⟩
  · have q := PyData.shown_le_bulk 1921 (by decide) (fiveD f) (by
      simp only [fiveD, PyData.leavesShort, PyData.leavesShortAll, Bool.and_true, Bool.and_eq_true]
      exact ⟨short_int h1, short_int h2, short_int h3, short_int h4, short_int h5⟩)
    have e : (fiveD f).bulk = 5 := rfl
    rw [e] at q
    exact Nat.le_trans q (by decide)
/-! ### _law_fields -/
def spFlds (C : Addr) : Sp := fun vs H Q _ => ∃ (x dx : Addr) (f : Five), vs = [.ref x] ∧ H x = some (.ins C dx (flds f)) ∧ ∀ p, H p = none → Q (.ref p) (upd H p (.tup (fiveV f)))
theorem scFlds : FnScope ["_law_number"] ["_law_number"] (defScope sFlds) := ⟨rfl, rfl, rfl, by decide +kernel, rfl, by decide +kernel, by decide +kernel⟩
theorem ok_flds {f : Addr} {fd : FuncData} (F : Fun K "_law_fields" "_law_fields" sFlds f fd) (T : TEx K mg C) :
    FnOk P w K mg base CX0 1 f fd ["_law_number"] (spFlds C) := by
  refine F.ok scFlds ?_ ?_
  · rintro vs H Q E ⟨x, dx, f, rfl, _⟩
    rfl
  intro cdv A outer s H vs Q E hr h
  obtain ⟨x, dx, f, rfl, hx, k⟩ := h
  refine ⟨_, pss_one (ps_ret (pe_tup (pa_cons (pe_fld (pv 0) rfl) (pa_cons (pe_fld (pv 0) rfl) (pa_cons (pe_fld (pv 0) rfl) (pa_cons (pe_fld (pv 0) rfl) (pa_cons (pe_fld (pv 0) rfl) pa_nil))))))), ?_⟩
  refine ⟨_, rfl, x, C, dx, _, _, rfl, hx, T.cl, T.nT, (by rfl), _, rfl, x, C, dx, _, _, rfl, hx, T.cl, T.nB, (by rfl), _, rfl, x, C, dx, _, _, rfl, hx, T.cl, T.nS, (by rfl), _, rfl, x, C, dx, _, _, rfl, hx, T.cl, T.nO, (by rfl), _, rfl, x, C, dx, _, _, rfl, hx, T.cl, T.nU, (by rfl), (by show 5 ≤ sizeLine; decide), ?_⟩
  exact k
/-! ### _law_is -/
def spIs (C : Addr) : Sp := fun vs H Q _ => ∃ (x dx q : Addr) (f : Five), vs = [.ref x, .ref q] ∧ H x = some (.ins C dx (flds f)) ∧ H q = some (.tup (fiveV f)) ∧ Tiny f ∧ ∀ H', Same H H' → Q (.bl true) H'
theorem scIs : FnScope ["_law_found", "_law_due"] ["_law_found", "_law_due"] (defScope sIs) := ⟨rfl, rfl, rfl, by decide +kernel, rfl, by decide +kernel, by decide +kernel⟩
theorem ok_is {f fF : Addr} {fd fdF : FuncData} (F : Fun K "_law_is" "_law_is" sIs f fd) (T : TEx K mg C) (I : TIs mg) (mR : mg "repr" = none) (FF : Fns K mg fF fdF "_law_fields" 43 ["_law_number"]) :
    FnG P w K mg base CX0 2 f fd ["_law_found", "_law_due"] (spIs C) := by
  have GF : FnOk P w K mg base CX0 1 fF fdF ["_law_number"] (spFlds C) := ok_flds FF.F T
  refine Fun.okG F scIs ?_ ?_
  · rintro vs H Q E ⟨x, dx, q, f, rfl, _⟩
    rfl
  intro cdv A outer s H vs Q E hg hr h
  obtain ⟨x, dx, q, f, rfl, hx, hq, ht, k⟩ := h
  refine ⟨_, pss_one (ps_ret (pe_and (pe_callB call_isi (by rfl) I.is (by decide +kernel) (pa_cons (pv 0) (pa_cons (pe_glob rfl T.mgC (show RelV (.ref C) (.ref C) from rfl)) pa_nil)))
    (pe_one (pe_cmpR op_eq (pe_callB (cr_repr hg hr) (by rfl) mR (by decide +kernel) (pa_cons (pe_call GF hr rfl FF.m FF.F.kp FF.b .nil pass0 (pa_cons (pv 0) pa_nil)) pa_nil)) (pe_callB (cr_repr hg hr) (by rfl) mR (by decide +kernel) (pa_cons (pv 1) pa_nil)) (nomark _))))), ?_⟩
  refine ⟨_, rfl, V.ref x, V.ref C, _, _, true, rfl, .own C, .base (.ins hx T.cl T.ha T.hn T.htk T.hm), T.kc, true, rfl, iteT ?_⟩
  obtain ⟨w1, w2, w3, w4⟩ := five_shows ht
  refine ⟨_, rfl, ?_⟩
  dsimp only [tNil, tC, tCons]
  refine ⟨x, dx, f, rfl, hx, fun p hp => ?_⟩
  have s1 := same_new (o := HO.tup (fiveV f)) hp
  refine ⟨p, _, rfl, dp_five upd_same, w1, w2, w3, w4, ?_⟩
  refine ⟨_, rfl, q, _, rfl, dp_five (s1 _ _ hq), w1, w2, w3, w4, rfl, ?_⟩
  have e : decide (V.str (fiveD f).shown = V.str (fiveD f).shown) = true := decide_eq_true rfl
  show Q (V.bl (decide (V.str (fiveD f).shown = V.str (fiveD f).shown))) _
  rw [e]
  exact k _ s1
end
end PH
namespace PH
open PySem PySem.Spec PyProof.Rows L2
open C8 (pss_cut tCut)
abbrev InitD (K : PySem.W.Frag) (f : Addr) (fd : FuncData) : Prop := FunD K "__init__" "Exact.__init__" (defArgs sInit) bInit (defScope sInit) [.int 1] [("sign", .int 0), ("over", .int 0), ("under", .int 1)] f fd
abbrev psI : List Str := ["self", "top", "bottom", "sign", "over", "under"]
section
variable {P : Program} {w : World} {K : PySem.W.Frag} {mg : Str → Option Value} {base : Heap} {C NX : Addr}
/-! ### how Exact's arguments bind -/
theorem kb_made {f : Addr} {fd : FuncData} (F : InitD K f fd) : ∃ its mv : List Value, KBn K fd psI 3 ["sign", "over", "under"] (fun us ws => us ++ ws) (fun vs zs => vs ++ zs) :=
  F.kbinds 3 ["sign", "over", "under"] [] (fun us _ _ ws => us ++ ws) (by simp) (by simp) (by simp) (fun r1 _ _ r4 => r1.append r4)
    fun T D doc pm an cdv ct us its mv ws h1 h2 h3 h4 => match us, its, mv, ws, h1, h2, h3, h4 with
      | [_, _, _], [_], [], [_, _, _], _, _, _, _ => ⟨_, rfl, rfl⟩
def pick {α : Type} (l : List α) (i : Nat) : List α := (l.drop i).take 1
theorem vals_pick {vs : List V} {us : List Value} (i : Nat) (r : Vals vs us) : Vals (pick vs i) (pick us i) := (r.drop i).take 1
theorem kb_one {f : Addr} {fd : FuncData} (F : InitD K f fd) : ∃ ds, Vals [.int 1, .int 0, .int 0, .int 1] ds ∧ Binds K fd psI ds :=
  F.binds 2 0 (by simp) rfl (fun T D doc pm an cdv ct us its ks h1 h2 h3 => match us, its, ks, h1, h2, h3 with
      | [_, _], [_], [_, _, _], _, _, _ => ⟨_, rfl, ⟨_, _, _, _, _, _, rfl, rfl, ⟨_, _, _, _, _, _, rfl, rfl, ⟨_, _, _, _, _, _, rfl, rfl, rfl⟩⟩⟩⟩) (by simp)
theorem kb_top {f : Addr} {fd : FuncData} (F : InitD K f fd) : ∃ its mv : List Value, KBn K fd psI 1 ["top"] (fun us ws => us ++ (ws ++ (its ++ mv))) (fun vs zs => vs ++ (zs ++ ([.int 1] ++ [.int 0, .int 0, .int 1]))) :=
  F.kbinds 1 ["top"] [("sign", .int 0), ("over", .int 0), ("under", .int 1)] (fun us its mv ws => us ++ (ws ++ (its ++ mv))) (by simp) (by simp) (by simp) (fun r1 r2 r3 r4 => r1.append (r4.append (r2.append r3)))
    fun T D doc pm an cdv ct us its mv ws h1 h2 h3 h4 => match us, its, mv, ws, h1, h2, h3, h4 with
      | [_], [_], [_, _, _], [_], _, _, _, _ => ⟨_, rfl, ⟨_, _, _, _, _, _, rfl, rfl, ⟨_, _, _, _, _, _, rfl, rfl, ⟨_, _, _, _, _, _, rfl, rfl, rfl⟩⟩⟩⟩
theorem kb_bottom {f : Addr} {fd : FuncData} (F : InitD K f fd) : ∃ its mv : List Value, KBn K fd psI 2 ["bottom"] (fun us ws => us ++ (ws ++ mv)) (fun vs zs => vs ++ (zs ++ [.int 0, .int 0, .int 1])) :=
  F.kbinds 2 ["bottom"] [("sign", .int 0), ("over", .int 0), ("under", .int 1)] (fun us _ mv ws => us ++ (ws ++ mv)) (by simp) (by simp) (by simp) (fun r1 r2 r3 r4 => r1.append (r4.append r3))
    fun T D doc pm an cdv ct us its mv ws h1 h2 h3 h4 => match us, its, mv, ws, h1, h2, h3, h4 with
      | [_, _], [_], [_, _, _], [_], _, _, _, _ => ⟨_, rfl, ⟨_, _, _, _, _, _, rfl, rfl, ⟨_, _, _, _, _, _, rfl, rfl, ⟨_, _, _, _, _, _, rfl, rfl, rfl⟩⟩⟩⟩
theorem kb_four {f : Addr} {fd : FuncData} (F : InitD K f fd) : ∃ its mv : List Value, KBn K fd psI 1 ["bottom", "over", "sign", "top"] (fun us ws => us ++ (pick ws 3 ++ (pick ws 0 ++ (pick ws 2 ++ (pick ws 1 ++ mv))))) (fun vs zs => vs ++ (pick zs 3 ++ (pick zs 0 ++ (pick zs 2 ++ (pick zs 1 ++ [.int 1]))))) :=
  F.kbinds 1 ["bottom", "over", "sign", "top"] [("under", .int 1)] (fun us _ mv ws => us ++ (pick ws 3 ++ (pick ws 0 ++ (pick ws 2 ++ (pick ws 1 ++ mv))))) (by simp) (by simp) (by simp) (fun r1 r2 r3 r4 => r1.append ((vals_pick 3 r4).append ((vals_pick 0 r4).append ((vals_pick 2 r4).append ((vals_pick 1 r4).append r3)))))
    fun T D doc pm an cdv ct us its mv ws h1 h2 h3 h4 => match us, its, mv, ws, h1, h2, h3, h4 with
      | [_], [_], [_], [_, _, _, _], _, _, _, _ => ⟨_, rfl, ⟨_, _, _, _, _, _, rfl, rfl, rfl⟩⟩
theorem kb_all {f : Addr} {fd : FuncData} (F : InitD K f fd) : ∃ its mv : List Value, KBn K fd psI 1 ["under", "sign", "bottom", "top", "over"] (fun us ws => us ++ (pick ws 3 ++ (pick ws 2 ++ (pick ws 1 ++ (pick ws 4 ++ pick ws 0))))) (fun vs zs => vs ++ (pick zs 3 ++ (pick zs 2 ++ (pick zs 1 ++ (pick zs 4 ++ pick zs 0))))) :=
  F.kbinds 1 ["under", "sign", "bottom", "top", "over"] [] (fun us _ _ ws => us ++ (pick ws 3 ++ (pick ws 2 ++ (pick ws 1 ++ (pick ws 4 ++ pick ws 0))))) (by simp) (by simp) (by simp) (fun r1 r2 r3 r4 => r1.append ((vals_pick 3 r4).append ((vals_pick 2 r4).append ((vals_pick 1 r4).append ((vals_pick 4 r4).append (vals_pick 0 r4))))))
    fun T D doc pm an cdv ct us its mv ws h1 h2 h3 h4 => match us, its, mv, ws, h1, h2, h3, h4 with
      | [_], [_], [], [_, _, _, _, _], _, _, _, _ => ⟨_, rfl, rfl⟩
/-! ### _law_made -/
/-- a number at x is the one of f -/
def NumAt (C : Addr) (H : Hp) (x : Addr) (f : Five) : Prop := ∃ dx, H x = some (.ins C dx (flds f))
def spMade (C NX : Addr) : Sp := fun vs H Q E => ∃ (p : Addr) (xs : List V), vs = [.ref p] ∧ H p = some (.tup xs) ∧ xs.length = 5 ∧ (∀ v ∈ xs, Any C H v) ∧
  (rightB xs = false → ∀ H', Same H H' → E (.ref NX) none H') ∧
  ∀ f : Five, xs = fiveV f → Right f → Fits f ∧ ∀ H' x, Same H H' → H x = none → NumAt C H' x (form f) → Q (.ref x) H'
theorem scMade : FnScope ["_law_five_here"] ["_law_five_here"] (defScope sMade) := ⟨rfl, rfl, rfl, by decide +kernel, rfl, by decide +kernel, by decide +kernel⟩
theorem made_same {H H' : Hp} {x dx : Addr} {o : HO} (nx : H x = none) (ndx : H dx = none) (k : ∀ b o', upd (upd H dx (.own x)) x o b = some o' → b ≠ x → H' b = some o') : Same H H' := fun b u e => by
  refine k b u ?_ (ne_of_none e nx)
  rw [upd_ne (ne_of_none e nx), upd_ne (ne_of_none e ndx)]
  exact e
theorem same_ins {H : Hp} {x dx : Addr} {o : HO} (nx : H x = none) (ndx : H dx = none) : Same H (upd (upd H dx (.own x)) x o) := fun b u e => by
  rw [upd_ne (ne_of_none e nx), upd_ne (ne_of_none e ndx)]
  exact e
/-- what a call of Exact asks and gives: for any way of writing it -/
theorem init_at {H : Hp} {x dx : Addr} {xs : List V} {Q : VK} {E : XK} (nx : H x = none) (ndx : H dx = none) (hl : xs.length = 5) (hv : ∀ v ∈ xs, Any C H v)
    (kE : rightB xs = false → ∀ H', Same H H' → E (.ref NX) none H')
    (kQ : ∀ f : Five, xs = fiveV f → Right f → Fits f ∧ ∀ H', Same H H' → H x = none → NumAt C H' x (form f) → Q (.ref x) H') :
    spInit C NX (.ref x :: xs) (upd (upd H dx (.own x)) x (.ins C dx [])) (fun v H3 => v = .non ∧ Q (.ref x) H3) E := by
  have s0 := same_ins (o := HO.ins C dx []) nx ndx
  refine ⟨x, dx, xs, rfl, hl, upd_same, fun v hm => (hv v hm).same s0, fun h H' s => kE h H' (s0.trans s), fun f hf R => ?_⟩
  obtain ⟨ft, q⟩ := kQ f hf R
  exact ⟨ft, fun H' hx hk => ⟨rfl, q H' (made_same nx ndx hk) nx ⟨dx, hx⟩⟩⟩
abbrev GInit (P : Program) (w : World) (K : PySem.W.Frag) (mg : Str → Option Value) (base : Heap) (C NX f : Addr) (fd : FuncData) : Prop := FnOk P w K mg base (L2.CX P w) 3 f fd psI (spInit C NX)
theorem ok_made {f fI : Addr} {fd fdI : FuncData} (F : Fun K "_law_made" "_law_made" sMade f fd) (T : TEx K mg C) (M : Mk K C fI) (FI : InitD K fI fdI) (GI : GInit P w K mg base C NX fI fdI) :
    FnOk P w K mg base (L2.CX P w) 5 f fd ["_law_five_here"] (spMade C NX) := by
  obtain ⟨its, mv, KB⟩ := kb_made FI
  refine F.okX scMade ?_ ?_
  · rintro vs H Q E ⟨p, xs, rfl, _⟩
    rfl
  intro cdv A outer s H vs Q E hr h
  obtain ⟨p, xs, rfl, hp, hl, hv, kE, kQ⟩ := h
  match xs, hl with
  | [v1, v2, v3, v4, v5], _ =>
  refine ⟨_, pss_one (ps_ret (pe_makeN M GI hr rfl T.mgC KB (passes_call (takes_of rfl rfl rfl rfl) (fun _ _ _ _ z => z))
    (pa_cons (pe_ix ix_tup (pv 0) pe_int (fun _ _ => rfl)) (pa_cons (pe_ix ix_tup (pv 0) pe_int (fun _ _ => rfl)) pa_nil))
    (pk_cons (pe_ix ix_tup (pv 0) pe_int (fun _ _ => rfl)) (pk_cons (pe_ix ix_tup (pv 0) pe_int (fun _ _ => rfl)) (pk_cons (pe_ix ix_tup (pv 0) pe_int (fun _ _ => rfl)) pk_nil))))), ?_⟩
  refine ⟨_, rfl, p, _, 0, _, rfl, rfl, SqT.of hp, rfl, _, rfl, p, _, 1, _, rfl, rfl, SqT.of hp, rfl, ?_⟩
  refine ⟨_, rfl, p, _, 2, _, rfl, rfl, SqT.of hp, rfl, _, rfl, p, _, 3, _, rfl, rfl, SqT.of hp, rfl, _, rfl, p, _, 4, _, rfl, rfl, SqT.of hp, rfl, rfl, rfl, fun x dx nx ndx _ => ?_⟩
  refine init_at (xs := [v1, v2, v3, v4, v5]) nx ndx rfl hv kE fun f hf R => ?_
  obtain ⟨ft, q⟩ := kQ f hf R
  exact ⟨ft, fun H' s n na => q H' x s n na⟩
end
end PH
namespace PH
open PySem PySem.Spec PyProof.Rows L2
open C8 (pss_cut tCut)
abbrev sByN : Stmt := topS 45
abbrev sIsR : Stmt := topS 46
section
variable {P : Program} {w : World} {K : PySem.W.Frag} {mg : Str → Option Value} {base : Heap} {C NX : Addr}
def spByN (C : Addr) : Sp := fun vs H Q _ => ∃ (d c p : Addr) (f : Five), vs = [.ref d, .ref p] ∧ Deck H d c ∧ H p = some (.tup (fiveV f)) ∧ Right f ∧ Fits f ∧
  ∀ H' x, Deck H' d c → Kept d c H H' → NumAt C H' x (form f) → Q (.ref x) H'
theorem scByN : FnScope ["_law_deck_here", "_law_five_here"] ["_law_deck_here", "_law_five_here"] (defScope sByN) := ⟨rfl, rfl, rfl, by decide +kernel, rfl, by decide +kernel, by decide +kernel⟩
theorem fiveV_inj {f g : Five} (h : fiveV f = fiveV g) : f = g := by
  obtain ⟨a, b, c, d, e⟩ := f
  obtain ⟨a', b', c', d', e'⟩ := g
  unfold fiveV at h
  simp at h
  obtain ⟨rfl, rfl, rfl, rfl, rfl⟩ := h
  rfl
theorem any_fiveV {H : Hp} (f : Five) : ∀ v ∈ fiveV f, Any C H v := by
  intro v hv
  unfold fiveV at hv
  simp only [List.mem_cons, List.not_mem_nil, or_false] at hv
  rcases hv with rfl | rfl | rfl | rfl | rfl
  all_goals exact .inl ⟨_, rfl⟩
/-- a number made where the five are right: nothing is raised -/
theorem init_ok {H : Hp} {x dx : Addr} {f : Five} {Q : VK} (nx : H x = none) (ndx : H dx = none) (R : Right f) (ft : Fits f)
    (kQ : ∀ H', Same H H' → NumAt C H' x (form f) → Q (.ref x) H') :
    spInit C NX (.ref x :: fiveV f) (upd (upd H dx (.own x)) x (.ins C dx [])) (fun v H3 => v = .non ∧ Q (.ref x) H3) E0 := by
  refine init_at nx ndx rfl (any_fiveV f) (fun h => by rw [B_of_right R] at h; cases h) fun g hg _ => ?_
  have e := fiveV_inj hg
  subst e
  exact ⟨ft, fun H' s _ na => kQ H' s na⟩
theorem init_ok2 {H : Hp} {x dx : Addr} {f : Five} {Qp : V → Hp → Prop} (nx : H x = none) (ndx : H dx = none) (R : Right f) (ft : Fits f)
    (kQ : ∀ H', Same H H' → NumAt C H' x (form f) → Qp .non H') :
    spInit C NX (.ref x :: fiveV f) (upd (upd H dx (.own x)) x (.ins C dx [])) Qp E0 := by
  have s0 := same_ins (o := HO.ins C dx []) nx ndx
  refine ⟨x, dx, fiveV f, rfl, rfl, upd_same, fun v hm => (any_fiveV f v hm), (fun h => by rw [B_of_right R] at h; cases h), fun g hg _ => ?_⟩
  have e := fiveV_inj hg
  subst e
  exact ⟨ft, fun H' hx hk => kQ H' (made_same nx ndx hk) ⟨dx, hx⟩⟩
theorem NumAt.same {H H' : Hp} {x : Addr} {f : Five} (s : Same H H') (n : NumAt C H x f) : NumAt C H' x f := let ⟨dx, h⟩ := n; ⟨dx, s _ _ h⟩
theorem NumAt.kept {H H' : Hp} {d c x : Addr} {f : Five} (k : Kept d c H H') (D : Deck H d c) (n : NumAt C H x f) : NumAt C H' x f :=
  let ⟨dx, h⟩ := n; ⟨dx, k _ _ h (D.off_i h).1 (D.off_i h).2⟩
theorem dp_three {H : Hp} {p : Addr} {a b c : Int} (h : H p = some (.tup [.int a, .int b, .int c])) : Dp K H (.ref p) (.tuple [.int a, .int b, .int c]) :=
  .tup (SqT.of h) (.cons (.int a) (.cons (.int b) (.cons (.int c) .nil)))
theorem eqv_three (m a b : Int) : PyData.eqv (.tuple [.int m, .int a, .int b]) (.tuple [.int 0, .int 0, .int 1]) = decide (m = 0 ∧ a = 0 ∧ b = 1) := by
  simp only [PyData.eqv, PyData.eqvAll, Bool.and_true]
  by_cases h1 : m = 0 <;> by_cases h2 : a = 0 <;> by_cases h3 : b = 1 <;> simp [h1, h2, h3]
theorem ok_byN {f fI fD : Addr} {fd fdI fdD : FuncData} (F : Fun K "_law_by_names" "_law_by_names" sByN f fd) (T : TEx K mg C) (M : Mk K C fI) (FI : InitD K fI fdI) (GI : GInit P w K mg base C NX fI fdI)
    (GD : GDraw P w K mg base fD fdD) (FD : FDraw K mg fD fdD) :
    FnOk P w K mg base CX0 5 f fd ["_law_deck_here", "_law_five_here"] (spByN C) := by
  obtain ⟨ds1, v1, B1⟩ := kb_one FI
  obtain ⟨i2, m2, B2⟩ := kb_top FI
  obtain ⟨i3, m3, B3⟩ := kb_bottom FI
  obtain ⟨i4, m4, B4⟩ := kb_four FI
  obtain ⟨i5, m5, B5⟩ := kb_all FI
  refine F.ok scByN ?_ ?_
  · rintro vs H Q E ⟨d, c, p, g, rfl, _⟩
    rfl
  intro cdv A outer s H vs Q E hr h
  have hr1 : Room 1 _ := hr.mono (by decide)
  obtain ⟨d, c, p, ⟨u, l, m, a, b⟩, rfl, D, hp, R, ft, k⟩ := h
  refine ⟨_, pss_cons (ps_if (PW.pt (pw_and (pt_cmpR (op_eqD hr.units) (pe_slice sl_tupA (pv 1) (po_some pe_int) po_none) (pe_tup (pa_cons pe_int (pa_cons pe_int (pa_cons pe_int pa_nil)))) (nomark _)) (pw_and1 (pt_cmpR op_eq (pe_ix ix_tup (pv 1) pe_int (fun _ _ => rfl)) pe_int (nomark _)))))
      (pss_one (ps_ret (pe_ix ix_list (pe_lst (pa_cons (pe_make M GI hr rfl T.mgC B1 v1 passX0 (pa_cons (pe_ix ix_tup (pv 1) pe_int (fun _ _ => rfl)) pa_nil))
        (pa_cons (pe_makeK0 M GI hr rfl T.mgC B2 passX0 (pk_cons (pe_ix ix_tup (pv 1) pe_int (fun _ _ => rfl)) pk_nil)) pa_nil))) (pe_call GD hr1 rfl FD.m FD.F.kp FD.b .nil pass0 (pa_cons (pv 0) (pa_cons pe_int pa_nil))) (fun _ _ => rfl)))) pss_nil)
    (pss_cons (ps_if (pt_cmpR (op_eqD hr.units) (pe_slice sl_tupA (pv 1) (po_some pe_int) po_none) (pe_tup (pa_cons pe_int (pa_cons pe_int (pa_cons pe_int pa_nil)))) (nomark _))
      (pss_one (ps_ret (pe_makeK (n := 1) M GI hr rfl T.mgC B3 passX0 (pa_cons (pe_ix ix_tup (pv 1) pe_int (fun _ _ => rfl)) pa_nil) (pk_cons (pe_ix ix_tup (pv 1) pe_int (fun _ _ => rfl)) pk_nil)))) pss_nil)
    (pss_cons (ps_if (pt_cmpR op_eq (pe_ix ix_tup (pv 1) pe_int (fun _ _ => rfl)) pe_int (nomark _))
      (pss_one (ps_ret (pe_makeK0 M GI hr rfl T.mgC B4 passX0 (pk_cons (pe_ix ix_tup (pv 1) pe_int (fun _ _ => rfl)) (pk_cons (pe_ix ix_tup (pv 1) pe_int (fun _ _ => rfl)) (pk_cons (pe_ix ix_tup (pv 1) pe_int (fun _ _ => rfl)) (pk_cons (pe_ix ix_tup (pv 1) pe_int (fun _ _ => rfl)) pk_nil))))))) pss_nil)
    (pss_one (ps_ret (pe_makeK0 M GI hr rfl T.mgC B5 passX0 (pk_cons (pe_ix ix_tup (pv 1) pe_int (fun _ _ => rfl)) (pk_cons (pe_ix ix_tup (pv 1) pe_int (fun _ _ => rfl)) (pk_cons (pe_ix ix_tup (pv 1) pe_int (fun _ _ => rfl)) (pk_cons (pe_ix ix_tup (pv 1) pe_int (fun _ _ => rfl)) (pk_cons (pe_ix ix_tup (pv 1) pe_int (fun _ _ => rfl)) pk_nil)))))))))), ?_⟩
  have notw : ¬ (HT.sIx (fiveV (u, l, m, a, b)).length 0 (some 2) = 0 ∧ HT.sIx (fiveV (u, l, m, a, b)).length (fiveV (u, l, m, a, b)).length none = (fiveV (u, l, m, a, b)).length) := by
    show ¬ (HT.sIx 5 0 (some 2) = 0 ∧ HT.sIx 5 5 none = 5)
    decide
  have ecut : cutV (fiveV (u, l, m, a, b)) (some 2) none = [V.int m, V.int a, V.int b] := rfl
  refine ⟨_, rfl, _, rfl, p, _, rfl, SqT.of hp, fun z => absurd z notw, fun _ q1 hq1 => ?_⟩
  rw [ecut]
  have s1 := same_new (o := HO.tup [V.int m, V.int a, V.int b]) hq1
  refine ⟨(by show 3 ≤ sizeLine; decide), fun q2 hq2 => ?_⟩
  have s2 := same_new (o := HO.tup [V.int 0, V.int 0, V.int 1]) hq2
  refine ⟨_, _, dp_three (s2 _ _ upd_same), dp_three upd_same, rfl, rfl, _, rfl, ?_⟩
  have sA := s1.trans s2
  have hpA := sA _ _ hp
  have DA := D.same sA
  have KA : Kept d c H _ := Kept.of sA
  generalize upd (upd H q1 (.tup [V.int m, V.int a, V.int b])) q2 (.tup [V.int 0, V.int 0, V.int 1]) = HA at *
  clear s1 s2 hq1 hq2
  by_cases z : m = 0 ∧ a = 0 ∧ b = 1
  · obtain ⟨rfl, rfl, rfl⟩ := z
    refine if_t (by rw [eqv_three]; exact decide_eq_true ⟨rfl, rfl, rfl⟩) ?_
    refine ⟨_, rfl, p, _, 1, _, rfl, rfl, SqT.of hpA, rfl, rfl, _, rfl, ?_⟩
    by_cases hl : l = 1
    · subst hl
      refine if_t (by rfl) ?_
      refine ⟨_, rfl, p, _, 0, _, rfl, rfl, SqT.of hpA, rfl, fun x1 dx1 nx1 ndx1 _ => ?_⟩
      change spInit C NX (V.ref x1 :: fiveV (u, 1, 0, 0, 1)) _ _ _
      refine init_ok2 (f := (u, 1, 0, 0, 1)) nx1 ndx1 R ft fun H1 t1 n1 => ⟨rfl, ?_⟩
      refine ⟨_, rfl, p, _, 0, _, rfl, rfl, SqT.of (t1 _ _ hpA), rfl, rfl, rfl, fun x2 dx2 nx2 ndx2 _ => ?_⟩
      change spInit C NX (V.ref x2 :: fiveV (u, 1, 0, 0, 1)) _ _ _
      refine init_ok2 (f := (u, 1, 0, 0, 1)) nx2 ndx2 R ft fun H2 t2 n2 => ⟨rfl, ?_⟩
      refine ⟨(by show 2 ≤ sizeLine; decide), fun pl hpl => ?_⟩
      have t3 := same_new (o := HO.lst [V.ref x1, V.ref x2]) hpl
      have D3 := ((DA.same t1).same t2).same t3
      have off := ((DA.same t1).same t2).off_n hpl
      refine ⟨_, rfl, ?_⟩
      dsimp only [tNil, tC, tCons]
      refine ⟨d, c, 2, rfl, D3, by decide, by decide, fun H4 r D4 k4 r0 r1 => ?_⟩
      obtain ⟨v, hv, hm⟩ := atI_mem (xs := [V.ref x1, V.ref x2]) r0 r1
      refine ⟨pl, _, r, _, rfl, rfl, SqL.of (k4 _ _ upd_same off.1 off.2), hv, ?_⟩
      have N1 := ((n1.same t2).same t3).kept k4 D3
      have N2 := (n2.same t3).kept k4 D3
      have KK : Kept d c H H4 := (KA.trans (Kept.of ((t1.trans t2).trans t3))).trans k4
      simp only [List.mem_cons, List.not_mem_nil, or_false] at hm
      rcases hm with rfl | rfl
      · exact k H4 x1 D4 KK N1
      · exact k H4 x2 D4 KK N2
    · refine if_f (by show decide (V.int l = V.int 1) = false; rw [dec_int]; exact decide_eq_false hl) ?_
      refine ⟨_, rfl, _, rfl, p, _, rfl, SqT.of hpA, fun z => absurd z notw, fun _ q1 hq1 => ?_⟩
      rw [ecut]
      have s1 := same_new (o := HO.tup [V.int 0, V.int 0, V.int 1]) hq1
      refine ⟨(by show 3 ≤ sizeLine; decide), fun q2 hq2 => ?_⟩
      have s2 := same_new (o := HO.tup [V.int 0, V.int 0, V.int 1]) hq2
      refine ⟨_, _, dp_three (s2 _ _ upd_same), dp_three upd_same, rfl, rfl, _, rfl, ?_⟩
      have hpB := s2 _ _ (s1 _ _ hpA)
      refine if_t (by rw [eqv_three]; exact decide_eq_true ⟨rfl, rfl, rfl⟩) ?_
      refine ⟨_, rfl, p, _, 0, _, rfl, rfl, SqT.of hpB, rfl, _, rfl, p, _, 1, _, rfl, rfl, SqT.of hpB, rfl, rfl, rfl, fun x dx nx ndx _ => ?_⟩
      change spInit C NX (V.ref x :: fiveV (u, l, 0, 0, 1)) _ _ _
      refine init_ok (f := (u, l, 0, 0, 1)) nx ndx R ft fun H' t n => ?_
      exact k H' x (((DA.same s1).same s2).same t) (KA.trans (Kept.of ((s1.trans s2).trans t))) n
  · refine if_f (by rw [eqv_three]; exact decide_eq_false z) ?_
    refine ⟨_, rfl, _, rfl, p, _, rfl, SqT.of hpA, fun z => absurd z notw, fun _ q1 hq1 => ?_⟩
    rw [ecut]
    have s1 := same_new (o := HO.tup [V.int m, V.int a, V.int b]) hq1
    refine ⟨(by show 3 ≤ sizeLine; decide), fun q2 hq2 => ?_⟩
    have s2 := same_new (o := HO.tup [V.int 0, V.int 0, V.int 1]) hq2
    refine ⟨_, _, dp_three (s2 _ _ upd_same), dp_three upd_same, rfl, rfl, _, rfl, ?_⟩
    have hpB := s2 _ _ (s1 _ _ hpA)
    refine if_f (by rw [eqv_three]; exact decide_eq_false z) ?_
    refine ⟨_, rfl, p, _, 4, _, rfl, rfl, SqT.of hpB, rfl, rfl, _, rfl, ?_⟩
    by_cases hb : b = 1
    · subst hb
      refine if_t (by rfl) ?_
      refine ⟨_, rfl, p, _, 1, _, rfl, rfl, SqT.of hpB, rfl, _, rfl, p, _, 3, _, rfl, rfl, SqT.of hpB, rfl, _, rfl, p, _, 2, _, rfl, rfl, SqT.of hpB, rfl, _, rfl, p, _, 0, _, rfl, rfl, SqT.of hpB, rfl, rfl, rfl, fun x dx nx ndx _ => ?_⟩
      change spInit C NX (V.ref x :: fiveV (u, l, m, a, 1)) _ _ _
      refine init_ok (f := (u, l, m, a, 1)) nx ndx R ft fun H' t n => ?_
      exact k H' x (((DA.same s1).same s2).same t) (KA.trans (Kept.of ((s1.trans s2).trans t))) n
    · refine if_f (by show decide (V.int b = V.int 1) = false; rw [dec_int]; exact decide_eq_false hb) ?_
      refine ⟨_, rfl, p, _, 4, _, rfl, rfl, SqT.of hpB, rfl, _, rfl, p, _, 2, _, rfl, rfl, SqT.of hpB, rfl, _, rfl, p, _, 1, _, rfl, rfl, SqT.of hpB, rfl, _, rfl, p, _, 0, _, rfl, rfl, SqT.of hpB, rfl, _, rfl, p, _, 3, _, rfl, rfl, SqT.of hpB, rfl, rfl, rfl, fun x dx nx ndx _ => ?_⟩
      change spInit C NX (V.ref x :: fiveV (u, l, m, a, b)) _ _ _
      refine init_ok (f := (u, l, m, a, b)) nx ndx R ft fun H' t n => ?_
      exact k H' x (((DA.same s1).same s2).same t) (KA.trans (Kept.of ((s1.trans s2).trans t))) n
end
end PH
namespace PH
open PySem PySem.Spec PyProof.Rows L2
open C8 (pss_cut tCut)
section
variable {P : Program} {w : World} {K : PySem.W.Frag} {mg : Str → Option Value} {base : Heap} {C NX : Addr}
def spIsR (C : Addr) : Sp := fun vs H Q _ => ∃ (p : Addr) (xs : List V), vs = [.ref p] ∧ H p = some (.tup xs) ∧ xs.length = 5 ∧ (∀ v ∈ xs, Any C H v) ∧ ∀ H', Same H H' → Q (.bl (rightB xs)) H'
theorem scIsR : FnScope ["_law_five_here", "_law_one"] ["_law_five_here"] (defScope sIsR) := ⟨rfl, rfl, rfl, by decide +kernel, rfl, by decide +kernel, by decide +kernel⟩
theorem notB_of {xs : List V} {v : V} (hm : v ∈ xs) (h : isInt v = false) : rightB xs = false := by
  cases e : rightB xs with
  | false => rfl
  | true =>
    obtain ⟨f, rfl⟩ := ints_of_B e
    unfold fiveV at hm
    simp only [List.mem_cons, List.not_mem_nil, or_false] at hm
    rcases hm with rfl | rfl | rfl | rfl | rfl <;> cases h
theorem kit_any {H : Hp} {v : V} (T : TEx K mg C) (h : Any C H v) : ∃ t b1 b2, TyX K H v t ∧ PySem.W.kitOne K t (.type "int") = some b1 ∧ PySem.W.kitOne K t (.type "bool") = some b2 ∧ (isInt v = (b1 && !b2)) := by
  have kb : ∀ (s : String), PySem.W.kitOne K (.type s) (.type "int") = some false → True := fun _ _ => trivial
  rcases h with ⟨i, rfl⟩ | h
  · exact ⟨_, true, false, .base (.int i), kit_ii, kit_ib, rfl⟩
  · cases h with
    | bl b => exact ⟨_, true, true, .base (.bl b), kit_bi, kit_bb, rfl⟩
    | non => exact ⟨_, false, false, .base .non, kit_ty (by decide +kernel), kit_ty (by decide +kernel), rfl⟩
    | str z => exact ⟨_, false, false, .base (.str z), kit_ty (by decide +kernel), kit_ty (by decide +kernel), rfl⟩
    | lst e => exact ⟨_, false, false, .base (.lst e), kit_ty (by decide +kernel), kit_ty (by decide +kernel), rfl⟩
    | tup e => exact ⟨_, false, false, .base (.tup e), kit_ty (by decide +kernel), kit_ty (by decide +kernel), rfl⟩
    | dict e => exact ⟨_, false, false, .base (.dK e), kit_ty (by decide +kernel), kit_ty (by decide +kernel), rfl⟩
    | ins e => exact ⟨_, false, false, .base (.ins e T.cl T.ha T.hn T.htk T.hm), T.ki, T.kb, rfl⟩
theorem ok_isR {f : Addr} {fd : FuncData} (F : Fun K "_law_is_right" "_law_is_right" sIsR f fd) (T : TEx K mg C) (I : TIs mg) :
    FnOk P w K mg base CX0 1 f fd ["_law_five_here"] (spIsR C) := by
  refine F.ok scIsR ?_ ?_
  · rintro vs H Q E ⟨p, xs, rfl, _⟩
    rfl
  intro cdv A outer s H vs Q E hr h
  obtain ⟨p, xs, rfl, hp, hl, hv, k⟩ := h
  match xs, hl with
  | [v1, v2, v3, v4, v5], _ =>
  refine ⟨_, pss_cons (ps_for PassesOwn.never rfl (pi_tup (pv 0)) (pg_name (i := 1) scIsR.nd rfl (Or.inl rfl))
      (pss_one (ps_if (PW.pt (pw_or (pt_not (pt_val (pe_callB call_isi (by rfl) I.is (by decide +kernel) (pa_cons (pv 1) (pa_cons (pe_bltn (by rfl) I.int (by decide +kernel) (show RelV (.ty "int") (.type "int") from rfl)) pa_nil)))))
        (pw_or1 (pt_val (pe_callB call_isi (by rfl) I.is (by decide +kernel) (pa_cons (pv 1) (pa_cons (pe_bltn (by rfl) I.bool (by decide +kernel) (show RelV (.ty "bool") (.type "bool") from rfl)) pa_nil))))))) (pss_one (ps_ret pe_bl)) pss_nil)))
    (pss_one (ps_ret (pe_and (pe_cmpR op_gt (pe_ix ix_tup (pv 0) pe_int (fun _ _ => rfl)) pe_int (nomark _)) (pe_and (pe_cmpR op_gt (pe_ix ix_tup (pv 0) pe_int (fun _ _ => rfl)) pe_int (nomark _))
      (pe_and (pe_cmpR op_ge (pe_ix ix_tup (pv 0) pe_int (fun _ _ => rfl)) pe_int (nomark _)) (pe_one (pe_cmpR op_in_seq (pe_ix ix_tup (pv 0) pe_int (fun _ _ => rfl)) (pe_tup (pa_cons (pe_un un_neg pe_int) (pa_cons pe_int (pa_cons pe_int pa_nil)))) (by rfl)))))))), ?_⟩
  refine ⟨_, rfl, p, rfl, ⟨_, SqT.of hp⟩, for_tup (K := K) (a := p) (xs := [v1, v2, v3, v4, v5]) (fun i σ H' => H' = H ∧ (∀ v ∈ [v1, v2, v3, v4, v5].take i, isInt v = true) ∧ ∃ o : Option V, σ = [some (.ref p), o])
    ⟨rfl, by simp, none, rfl⟩ (fun i σ H' _ ⟨e, _⟩ => by rw [e]; exact SqT.of hp) ?_ ?_⟩
  · rintro i x σ H' hx ⟨rfl, hi, o, rfl⟩
    have hm := List.mem_of_getElem? hx
    obtain ⟨t, b1, b2, ty, k1, k2, e⟩ := kit_any T (hv x hm)
    have go : isInt x = true → H' = H' ∧ (∀ v ∈ [v1, v2, v3, v4, v5].take (i + 1), isInt v = true) ∧ ∃ o : Option V, [some (V.ref p), some x] = [some (.ref p), o] := fun hxi => by
      refine ⟨rfl, fun v hv' => ?_, _, rfl⟩
      rw [take_more hx] at hv'
      rcases List.mem_append.mp hv' with h | h
      · exact hi v h
      · rw [List.mem_singleton.mp h]; exact hxi
    have stop : isInt x = false → Q (.bl false) H' := fun hxi => by
      have z := k _ (Same.refl _)
      rw [notB_of hm hxi] at z
      exact z
    refine ⟨_, rfl, x, V.ty "int", _, _, b1, rfl, .ty _, ty, k1, _, rfl, ?_⟩
    cases b1 with
    | false =>
      refine if_t (by rfl) ?_
      refine if_t (by rfl) ?_
      exact stop (by rw [e]; rfl)
    | true =>
      refine if_f (by rfl) ?_
      refine ⟨_, rfl, x, V.ty "bool", _, _, b2, rfl, .ty _, ty, k2, _, rfl, ?_⟩
      cases b2 with
      | true =>
        refine if_t (by rfl) ?_
        exact stop (by rw [e]; rfl)
      | false =>
        refine if_f (by rfl) ?_
        exact go (by rw [e]; rfl)
  · rintro σ H' ⟨rfl, hi, o, rfl⟩
    obtain ⟨u, l, m, a, b, rfl, rfl, rfl, rfl, rfl⟩ := all5 hi
    have er : rightB [.int u, .int l, .int m, .int a, .int b] = (decide (0 < l) && (inV (.int m) [.int (-1), .int 0, .int 1] && (decide (0 ≤ a) && decide (0 < b)))) := rfl
    rw [er] at k
    refine ⟨_, rfl, p, _, 1, _, rfl, rfl, SqT.of hp, rfl, l, 0, rfl, rfl, _, rfl, ?_⟩
    cases e1 : decide (0 < l) with
    | false => rw [e1] at k; exact iteF (k _ (Same.refl _))
    | true =>
      rw [e1] at k
      refine iteT ?_
      refine ⟨_, rfl, p, _, 4, _, rfl, rfl, SqT.of hp, rfl, b, 0, rfl, rfl, _, rfl, ?_⟩
      cases e2 : decide (0 < b) with
      | false =>
        rw [e2, Bool.and_false, Bool.and_false, Bool.and_false] at k
        exact iteF (k _ (Same.refl _))
      | true =>
        rw [e2, Bool.and_true] at k
        refine iteT ?_
        refine ⟨_, rfl, p, _, 3, _, rfl, rfl, SqT.of hp, rfl, a, 0, rfl, rfl, _, rfl, ?_⟩
        cases e3 : decide (0 ≤ a) with
        | false =>
          rw [e3, Bool.and_false, Bool.and_false] at k
          exact iteF (k _ (Same.refl _))
        | true =>
          rw [e3, Bool.and_true, Bool.true_and] at k
          refine iteT ?_
          refine ⟨_, rfl, p, _, 2, _, rfl, rfl, SqT.of hp, rfl, _, rfl, (by show 3 ≤ sizeLine; decide), fun q hq => ?_⟩
          refine ⟨q, _, rfl, .inr (SqT.of upd_same), rfl, rfl, ?_⟩
          rw [if_neg Bool.false_ne_true]
          exact k _ (same_new hq)
end
end PH
namespace PH
open PySem PySem.Spec PyProof.Rows L2
open C8 (pss_cut tCut)
abbrev sOdd : Stmt := topS 48
/-- a thing that may stand among the five, none of the deck's lists -/
def Loose (d c C : Addr) (H : Hp) (v : V) : Prop := Any C H v ∧ v ≠ .ref d ∧ v ≠ .ref c
structure OkX (d c C : Addr) (H : Hp) (xs : List V) : Prop where
  len : xs.length = 5
  any : ∀ v ∈ xs, Loose d c C H v
  small : ∀ j x, xs[j]? = some (.int x) → j ≠ 2 → x.natAbs ≤ 999999
theorem Loose.kept {d c C : Addr} {H H' : Hp} {v : V} (k : Kept d c H H') (h : Loose d c C H v) : Loose d c C H' v := by
  obtain ⟨h, n1, n2⟩ := h
  refine ⟨?_, n1, n2⟩
  rcases h with h | h
  · exact .inl h
  right
  have ne : ∀ {a : Addr}, V.ref a ≠ .ref d → V.ref a ≠ .ref c → a ≠ d ∧ a ≠ c := fun h1 h2 => ⟨fun e => h1 (by rw [e]), fun e => h2 (by rw [e])⟩
  cases h with
  | non => exact .non
  | bl b => exact .bl b
  | str z => exact .str z
  | lst e => exact .lst (k _ _ e (ne n1 n2).1 (ne n1 n2).2)
  | tup e => exact .tup (k _ _ e (ne n1 n2).1 (ne n1 n2).2)
  | dict e => exact .dict (k _ _ e (ne n1 n2).1 (ne n1 n2).2)
  | ins e => exact .ins (k _ _ e (ne n1 n2).1 (ne n1 n2).2)
theorem OkX.kept {d c C : Addr} {H H' : Hp} {xs : List V} (k : Kept d c H H') (h : OkX d c C H xs) : OkX d c C H' xs :=
  ⟨h.len, fun v hv => (h.any v hv).kept k, h.small⟩
theorem OkX.right {d c C : Addr} {H : Hp} {f : Five} (h : OkX d c C H (fiveV f)) (R : Right f) : Small f ∧ Fits f := by
  have a0 := h.small 0 f.1 rfl (by decide)
  have a1 := h.small 1 f.2.1 rfl (by decide)
  have a3 := h.small 3 f.2.2.2.1 rfl (by decide)
  have a4 := h.small 4 f.2.2.2.2 rfl (by decide)
  obtain ⟨r1, r2, r3, r4⟩ := R
  exact ⟨⟨by omega, by omega, by omega, by omega⟩, ⟨by omega, by omega, by omega, by omega⟩⟩
theorem okX_five {d c C : Addr} {H : Hp} {f : Five} (R : Right f) (s : Small f) : OkX d c C H (fiveV f) := by
  refine ⟨rfl, fun v hv => ⟨any_fiveV f v hv, ?_, ?_⟩, fun j x hx hj => ?_⟩
  · unfold fiveV at hv
    simp only [List.mem_cons, List.not_mem_nil, or_false] at hv
    rcases hv with rfl | rfl | rfl | rfl | rfl <;> intro z <;> cases z
  · unfold fiveV at hv
    simp only [List.mem_cons, List.not_mem_nil, or_false] at hv
    rcases hv with rfl | rfl | rfl | rfl | rfl <;> intro z <;> cases z
  · obtain ⟨s1, s2, s3, s4⟩ := s
    obtain ⟨r1, r2, r3, r4⟩ := R
    match j, hx with
    | 0, hx => cases hx; exact s1
    | 1, hx => cases hx; omega
    | 2, _ => exact absurd rfl hj
    | 3, hx => cases hx; omega
    | 4, hx => cases hx; omega
    | j + 5, hx => simp [fiveV] at hx
theorem cut_at {xs : List V} (hl : xs.length = 5) {i : Int} (h0 : 0 ≤ i) (h1 : i < 5) : cutV xs none (some i) = xs.take i.toNat ∧ cutV xs (some (i + 1)) none = xs.drop (i.toNat + 1) ∧
    ¬ (HT.sIx xs.length 0 none = 0 ∧ HT.sIx xs.length xs.length (some i) = xs.length) ∧ ¬ (HT.sIx xs.length 0 (some (i + 1)) = 0 ∧ HT.sIx xs.length xs.length none = xs.length) := by
  match xs, hl with
  | [v1, v2, v3, v4, v5], _ =>
  have : i = 0 ∨ i = 1 ∨ i = 2 ∨ i = 3 ∨ i = 4 := by omega
  rcases this with rfl | rfl | rfl | rfl | rfl
  · exact ⟨rfl, rfl, by show ¬ (HT.sIx 5 0 none = 0 ∧ HT.sIx 5 5 (some 0) = 5); decide, by show ¬ (HT.sIx 5 0 (some 1) = 0 ∧ HT.sIx 5 5 none = 5); decide⟩
  · exact ⟨rfl, rfl, by show ¬ (HT.sIx 5 0 none = 0 ∧ HT.sIx 5 5 (some 1) = 5); decide, by show ¬ (HT.sIx 5 0 (some 2) = 0 ∧ HT.sIx 5 5 none = 5); decide⟩
  · exact ⟨rfl, rfl, by show ¬ (HT.sIx 5 0 none = 0 ∧ HT.sIx 5 5 (some 2) = 5); decide, by show ¬ (HT.sIx 5 0 (some 3) = 0 ∧ HT.sIx 5 5 none = 5); decide⟩
  · exact ⟨rfl, rfl, by show ¬ (HT.sIx 5 0 none = 0 ∧ HT.sIx 5 5 (some 3) = 5); decide, by show ¬ (HT.sIx 5 0 (some 4) = 0 ∧ HT.sIx 5 5 none = 5); decide⟩
  · exact ⟨rfl, rfl, by show ¬ (HT.sIx 5 0 none = 0 ∧ HT.sIx 5 5 (some 4) = 5); decide, by show ¬ (HT.sIx 5 0 (some 5) = 0 ∧ HT.sIx 5 5 none = 5); decide⟩
/-- one of the five put otherwise -/
theorem okX_put {d c C : Addr} {H : Hp} {xs : List V} {v : V} {j : Nat} (h : OkX d c C H xs) (hj : j < 5) (hv : Loose d c C H v) (hs : ∀ x, v = .int x → j ≠ 2 → x.natAbs ≤ 999999) :
    OkX d c C H (xs.take j ++ [v] ++ xs.drop (j + 1)) := by
  obtain ⟨hl, ha, hsm⟩ := h
  match xs, hl with
  | [v1, v2, v3, v4, v5], _ =>
  have e : ∃ ys : List V, [v1, v2, v3, v4, v5].take j ++ [v] ++ [v1, v2, v3, v4, v5].drop (j + 1) = ys ∧ ys.length = 5 ∧ (∀ y ∈ ys, y = v ∨ y ∈ [v1, v2, v3, v4, v5]) ∧ ∀ n, ys[n]? = if n = j then some v else [v1, v2, v3, v4, v5][n]? := by
    refine ⟨[v1, v2, v3, v4, v5].set j v, ?_, by simp, fun y hy => (List.mem_or_eq_of_mem_set hy).symm, fun n => ?_⟩
    · have : j = 0 ∨ j = 1 ∨ j = 2 ∨ j = 3 ∨ j = 4 := by omega
      rcases this with rfl | rfl | rfl | rfl | rfl <;> rfl
    · by_cases z : n = j
      · subst z
        rw [if_pos rfl, List.getElem?_set_self (by show n < 5; exact hj)]
      · rw [if_neg z, List.getElem?_set_ne (Ne.symm z)]
  obtain ⟨ys, e1, e2, e3, e4⟩ := e
  rw [e1]
  refine ⟨e2, fun y hy => ?_, fun n x hx hn => ?_⟩
  · rcases e3 y hy with rfl | hm
    · exact hv
    · exact ha y hm
  · rw [e4] at hx
    by_cases z : n = j
    · rw [if_pos z] at hx
      exact hs x (Option.some.inj hx) (by rw [← z]; exact hn)
    · rw [if_neg z] at hx
      exact hsm n x hx hn
end PH
namespace PH
open PySem PySem.Spec PyProof.Rows L2
open C8 (pss_cut tCut)
section
variable {P : Program} {w : World} {K : PySem.W.Frag} {mg : Str → Option Value} {base : Heap} {C NX : Addr}
def spOdd (C : Addr) : Sp := fun vs H Q _ => ∃ (d c p : Addr) (xs : List V), vs = [.ref d, .ref p] ∧ Deck H d c ∧ H p = some (.tup xs) ∧ OkX d c C H xs ∧
  ∀ H' q ys, Deck H' d c → Kept d c H H' → H' q = some (.tup ys) → OkX d c C H' ys → Q (.ref q) H'
theorem scOdd : FnScope ["_law_deck_here", "_law_five_here", "_law_at", "_law_below", "_law_far", "_law_some"] ["_law_deck_here", "_law_five_here"] (defScope sOdd) := ⟨rfl, rfl, rfl, by decide +kernel, rfl, by decide +kernel, by decide +kernel⟩
theorem right_one : Right (1, 1, 0, 0, 1) := ⟨by decide, by decide, by decide, by decide⟩
theorem fits_one : Fits (1, 1, 0, 0, 1) := ⟨by decide, by decide, by decide, by decide⟩
theorem atI_mem2 {xs : List V} {i : Int} (h0 : 0 ≤ i) (h1 : i < xs.length) : ∃ v, atI xs i = some v ∧ v ∈ xs ∧ xs[i.toNat]? = some v := by
  obtain ⟨j, rfl⟩ : ∃ j : Nat, i = (j : Int) := ⟨i.toNat, by omega⟩
  have hj : j < xs.length := by omega
  exact ⟨xs[j], atI_nat (List.getElem?_eq_getElem hj), List.getElem_mem hj, by rw [Int.toNat_natCast]; exact List.getElem?_eq_getElem hj⟩
theorem kit_three {H : Hp} {v : V} (T : TEx K mg C) (h : Any C H v) : ∃ t, TyX K H v t ∧
    ((∃ x, v = .int x) ∧ PySem.W.kitOne K t (.type "int") = some true ∨ (∃ z, v = .bl z) ∧ PySem.W.kitOne K t (.type "int") = some true ∨ PySem.W.kitOne K t (.type "int") = some false) := by
  rcases h with ⟨i, rfl⟩ | h
  · exact ⟨_, .base (.int i), .inl ⟨⟨i, rfl⟩, kit_ii⟩⟩
  · cases h with
    | bl b => exact ⟨_, .base (.bl b), .inr (.inl ⟨⟨b, rfl⟩, kit_bi⟩)⟩
    | non => exact ⟨_, .base .non, .inr (.inr (kit_ty (by decide +kernel)))⟩
    | str z => exact ⟨_, .base (.str z), .inr (.inr (kit_ty (by decide +kernel)))⟩
    | lst e => exact ⟨_, .base (.lst e), .inr (.inr (kit_ty (by decide +kernel)))⟩
    | tup e => exact ⟨_, .base (.tup e), .inr (.inr (kit_ty (by decide +kernel)))⟩
    | dict e => exact ⟨_, .base (.dK e), .inr (.inr (kit_ty (by decide +kernel)))⟩
    | ins e => exact ⟨_, .base (.ins e T.cl T.ha T.hn T.htk T.hm), .inr (.inr T.ki)⟩
theorem ok_odd {f fI fD : Addr} {fd fdI fdD : FuncData} (F : Fun K "_law_odd" "_law_odd" sOdd f fd) (T : TEx K mg C) (I : TIs mg) (M : Mk K C fI) (FI : InitD K fI fdI) (GI : GInit P w K mg base C NX fI fdI)
    (GD : GDraw P w K mg base fD fdD) (FD : FDraw K mg fD fdD) :
    FnOk P w K mg base CX0 5 f fd ["_law_deck_here", "_law_five_here"] (spOdd C) := by
  obtain ⟨ds1, v1, B1⟩ := kb_one FI
  refine F.ok scOdd ?_ ?_
  · rintro vs H Q E ⟨d, c, p, g, rfl, _⟩
    rfl
  intro cdv A outer s H vs Q E hr h
  have hr1 : Room 1 _ := hr.mono (by decide)
  obtain ⟨d, c, p, xs, rfl, D, hp, ok, k⟩ := h
  refine ⟨_, pss_cons (ps_set (i := 2) scOdd.nd rfl (Or.inl rfl) (pe_call GD hr1 rfl FD.m FD.F.kp FD.b .nil pass0 (pa_cons (pv 0) (pa_cons pe_int pa_nil))))
    (pss_cut (ps_set (i := 3) scOdd.nd rfl (Or.inl rfl) (pe_ifExp (pt_val (pe_callB call_isi (by rfl) I.is (by decide +kernel) (pa_cons (pe_ix ix_tup (pv 1) (pv 2) (fun _ _ => rfl)) (pa_cons (pe_bltn (by rfl) I.int (by decide +kernel) (show RelV (.ty "int") (.type "int") from rfl)) pa_nil))))
      (pe_op (OpR.or op_sub op_sub_ib) pe_int (pe_ix ix_tup (pv 1) (pv 2) (fun _ _ => rfl))) pe_int))
    (pss_cut (ps_set (i := 4) scOdd.nd rfl (Or.inl rfl) (pe_ifExp (pt_cmpR op_eq (pv 2) pe_int (nomark _)) (pe_op op_pow pe_int pe_int) pe_int))
    (pss_cons (ps_set (i := 5) scOdd.nd rfl (Or.inl rfl) (pe_lst (pa_cons pe_non (pa_cons pe_bl (pa_cons pe_bl (pa_cons pe_str (pa_cons pe_str (pa_cons (pe_tup pa_nil) (pa_cons (pe_tup (pa_cons pe_int pa_nil)) (pa_cons (pe_lst pa_nil) (pa_cons pe_dnewK
      (pa_cons (pe_un un_neg pe_int) (pa_cons pe_int (pa_cons pe_int (pa_cons (pe_un un_neg pe_int) pa_nil)))))))))))))))
    (pss_cons (ps_set (i := 5) scOdd.nd rfl (Or.inl rfl) (pe_op op_cat (pv 5) (pe_lst (pa_cons (pv 4) (pa_cons (pv 3) (pa_cons (pe_make M GI hr rfl T.mgC B1 v1 passX0 (pa_cons pe_int pa_nil)) pa_nil))))))
    (pss_one (ps_ret (pe_op op_catA (pe_op op_catA (pe_slice sl_tupA (pv 1) po_none (po_some (pv 2))) (pe_tup (pa_cons (pe_ix ix_list (pv 5) (pe_call GD hr1 rfl FD.m FD.F.kp FD.b .nil pass0 (pa_cons (pv 0) (pa_cons pe_int pa_nil))) (fun _ _ => rfl)) pa_nil))) (pe_slice sl_tupA (pv 1) (po_some (pe_op op_add (pv 2) pe_int)) po_none)))))))), ?_⟩
  -- at
  refine ⟨_, rfl, ?_⟩
  dsimp only [tNil, tC, tCons]
  refine ⟨d, c, 5, rfl, D, by decide, by decide, fun H1 i D1 k1 i0 i1 => ?_⟩
  have hp1 := k1.tup D hp
  have ok1 := ok.kept k1
  obtain ⟨vi, hvi, hmi, hget⟩ := atI_mem2 (xs := xs) i0 (by rw [ok.len]; exact i1)
  obtain ⟨ty, hty, kk⟩ := kit_three T (ok1.any vi hmi).1
  -- below
  refine ⟨fun σ' H' => H' = H1 ∧ ∃ below : Int, σ' = [some (.ref d), some (.ref p), some (.int i), some (.int below), none, none] ∧ (i ≠ 2 → below.natAbs ≤ 999999), ?_, ?_⟩
  · rcases kk with ⟨⟨x, rfl⟩, kk⟩ | ⟨⟨z, rfl⟩, kk⟩ | kk
    · refine ⟨_, rfl, _, rfl, p, _, i, _, rfl, rfl, SqT.of hp1, hvi, _, V.ty "int", ty, _, true, rfl, .ty _, hty, kk, _, rfl, ?_⟩
      refine if_t (by rfl) ?_
      refine ⟨_, rfl, _, rfl, p, _, i, _, rfl, rfl, SqT.of hp1, hvi, .inl ⟨_, _, rfl, rfl, rfl, 0 - x, rfl, fun hi => ?_⟩⟩
      have := ok.small i.toNat x hget (by omega)
      omega
    · refine ⟨_, rfl, _, rfl, p, _, i, _, rfl, rfl, SqT.of hp1, hvi, _, V.ty "int", ty, _, true, rfl, .ty _, hty, kk, _, rfl, ?_⟩
      refine if_t (by rfl) ?_
      refine ⟨_, rfl, _, rfl, p, _, i, _, rfl, rfl, SqT.of hp1, hvi, .inr ⟨_, _, rfl, rfl, rfl, 0 - b2i z, rfl, fun hi => ?_⟩⟩
      cases z <;> decide
    · refine ⟨_, rfl, _, rfl, p, _, i, vi, rfl, rfl, SqT.of hp1, hvi, _, V.ty "int", ty, _, false, rfl, .ty _, hty, kk, _, rfl, ?_⟩
      refine if_f (by rfl) ?_
      exact ⟨rfl, 3, rfl, fun _ => by decide⟩
  rintro σ2 H2 ⟨rfl, below, rfl, hbelow⟩
  -- far
  refine ⟨fun σ' H' => H' = H2 ∧ ∃ far : Int, σ' = [some (.ref d), some (.ref p), some (.int i), some (.int below), some (.int far), none] ∧ (i ≠ 2 → far.natAbs ≤ 999999), ?_, ?_⟩
  · refine ⟨_, rfl, rfl, _, rfl, ?_⟩
    by_cases hi : i = 2
    · refine if_t (by show decide (V.int i = V.int 2) = true; rw [dec_int]; exact decide_eq_true hi) ?_
      exact ⟨_, _, rfl, rfl, ⟨by decide, by decide, by decide⟩, rfl, _, rfl, fun z => absurd hi z⟩
    · refine if_f (by show decide (V.int i = V.int 2) = false; rw [dec_int]; exact decide_eq_false hi) ?_
      exact ⟨rfl, 999999, rfl, fun _ => by decide⟩
  rintro σ3 H3 ⟨rfl, far, rfl, hfar⟩
  -- the list of things
  refine ⟨(by show 0 ≤ sizeLine; decide), fun e0 h0 => ⟨(by show 1 ≤ sizeLine; decide), fun e1 h1 => ⟨(by show 0 ≤ sizeLine; decide), fun e2 h2 => fun e3 h3 => ⟨1, rfl, 2, rfl, (by show 13 ≤ sizeLine; decide), fun e4 h4 => ?_⟩⟩⟩⟩
  have t0 := same_new (o := HO.tup []) h0
  have t1 := same_new (o := HO.tup [V.int 1]) h1
  have t2 := same_new (o := HO.lst []) h2
  have t3 := same_new (o := HO.dK []) h3
  have t4 := same_new (o := HO.lst [V.non, .bl true, .bl false, .str "1", .str "", .ref e0, .ref e1, .ref e2, .ref e3, .int (-1), .int 0, .int 2, .int (-2)]) h4
  refine ⟨_, rfl, _, rfl, _, rfl, fun x dx nx ndx _ => ?_⟩
  change spInit C NX (V.ref x :: fiveV (1, 1, 0, 0, 1)) _ _ _
  refine init_ok2 (f := (1, 1, 0, 0, 1)) nx ndx right_one fits_one fun H5 t5 n5 => ⟨rfl, ?_⟩
  refine ⟨(by show 3 ≤ sizeLine; decide), fun e5 h5 => ?_⟩
  have t6 := same_new (o := HO.lst [V.int far, .int below, .ref x]) h5
  have S04 := ((((t0.trans t1).trans t2).trans t3).trans t4)
  have S06 := (S04.trans t5).trans t6
  have h4at := (t5.trans t6) _ _ (@upd_same (upd (upd (upd (upd H3 e0 (HO.tup [])) e1 (HO.tup [V.int 1])) e2 (HO.lst [])) e3 (HO.dK [])) e4 (HO.lst [V.non, .bl true, .bl false, .str "1", .str "", .ref e0, .ref e1, .ref e2, .ref e3, .int (-1), .int 0, .int 2, .int (-2)]))
  refine ⟨e4, e5, _, _, rfl, rfl, h4at, upd_same, (by show 13 + 3 ≤ sizeLine; decide), fun e6 h6 => ?_⟩
  have t7 := same_new (o := HO.lst ([V.non, .bl true, .bl false, .str "1", .str "", .ref e0, .ref e1, .ref e2, .ref e3, .int (-1), .int 0, .int 2, .int (-2)] ++ [V.int far, .int below, .ref x])) h6
  have S07 := S06.trans t7
  -- every one of them may be put in
  have offs := fun (a : Addr) (ha : H3 a = none) => D1.off_n ha
  have f0 := offs e0 h0
  have f1 := offs e1 (t0.free h1)
  have f2 := offs e2 ((t0.trans t1).free h2)
  have f3 := offs e3 (((t0.trans t1).trans t2).free h3)
  have fx := offs x (S04.free nx)
  have f6 := offs e6 (S06.free h6)
  have a0 := (((((t1.trans t2).trans t3).trans t4).trans t5).trans t6).trans t7 _ _ (@upd_same H3 e0 (HO.tup []))
  have a1 := ((((t2.trans t3).trans t4).trans t5).trans t6).trans t7 _ _ (@upd_same (upd H3 e0 (HO.tup [])) e1 (HO.tup [V.int 1]))
  have a2 := (((t3.trans t4).trans t5).trans t6).trans t7 _ _ (@upd_same (upd (upd H3 e0 (HO.tup [])) e1 (HO.tup [V.int 1])) e2 (HO.lst []))
  have a3 := ((t4.trans t5).trans t6).trans t7 _ _ (@upd_same (upd (upd (upd H3 e0 (HO.tup [])) e1 (HO.tup [V.int 1])) e2 (HO.lst [])) e3 (HO.dK []))
  obtain ⟨dy, hdy⟩ := n5
  have ax := (t6.trans t7) _ _ hdy
  have D7 := D1.same S07
  have K7 : Kept d c H _ := k1.trans (Kept.of S07)
  have h6at := @upd_same (upd H5 e5 (HO.lst [V.int far, .int below, .ref x])) e6 (HO.lst ([V.non, .bl true, .bl false, .str "1", .str "", .ref e0, .ref e1, .ref e2, .ref e3, .int (-1), .int 0, .int 2, .int (-2)] ++ [V.int far, .int below, .ref x]))
  have hp7 := S07 _ _ hp1
  have ok7 := ok1.kept (Kept.of S07)
  generalize upd (upd H5 e5 (HO.lst [V.int far, .int below, .ref x])) e6 (HO.lst ([V.non, .bl true, .bl false, .str "1", .str "", .ref e0, .ref e1, .ref e2, .ref e3, .int (-1), .int 0, .int 2, .int (-2)] ++ [V.int far, .int below, .ref x])) = H7 at *
  obtain ⟨cut1, cut2, nw1, nw2⟩ := cut_at ok.len i0 i1
  refine ⟨_, rfl, _, rfl, i, rfl, p, xs, rfl, SqT.of hp7, fun z => absurd z nw1, fun _ q1 hq1 => ?_⟩
  rw [cut1]
  have t8 := same_new (o := HO.tup (xs.take i.toNat)) hq1
  refine ⟨_, rfl, ?_⟩
  refine ⟨_, rfl, ?_⟩
  dsimp only [tNil, tC, tCons]
  refine ⟨d, c, 16, rfl, D7.same t8, by decide, by decide, fun H9 r D9 k9 r0 r1 => ?_⟩
  obtain ⟨v, hv, hm⟩ := atI_mem (xs := [V.non, .bl true, .bl false, .str "1", .str "", .ref e0, .ref e1, .ref e2, .ref e3, .int (-1), .int 0, .int 2, .int (-2)] ++ [V.int far, .int below, .ref x]) r0 r1
  refine ⟨e6, _, r, v, rfl, rfl, SqL.of (k9 _ _ (t8 _ _ h6at) f6.1 f6.2), hv, ?_⟩
  have good : Loose d c C H7 v ∧ ∀ y, v = .int y → i.toNat ≠ 2 → y.natAbs ≤ 999999 := by
    have rf : ∀ {a : Addr}, a ≠ d ∧ a ≠ c → V.ref a ≠ .ref d ∧ V.ref a ≠ .ref c := fun h => ⟨fun z => h.1 (V.ref.inj z), fun z => h.2 (V.ref.inj z)⟩
    simp only [List.cons_append, List.nil_append, List.mem_cons, List.not_mem_nil, or_false] at hm
    rcases hm with rfl | rfl | rfl | rfl | rfl | rfl | rfl | rfl | rfl | rfl | rfl | rfl | rfl | rfl | rfl | rfl
    · exact ⟨⟨.inr .non, (fun z => nomatch z), (fun z => nomatch z)⟩, (fun y z => nomatch z)⟩
    · exact ⟨⟨.inr (.bl _), (fun z => nomatch z), (fun z => nomatch z)⟩, (fun y z => nomatch z)⟩
    · exact ⟨⟨.inr (.bl _), (fun z => nomatch z), (fun z => nomatch z)⟩, (fun y z => nomatch z)⟩
    · exact ⟨⟨.inr (.str _), (fun z => nomatch z), (fun z => nomatch z)⟩, (fun y z => nomatch z)⟩
    · exact ⟨⟨.inr (.str _), (fun z => nomatch z), (fun z => nomatch z)⟩, (fun y z => nomatch z)⟩
    · exact ⟨⟨.inr (.tup a0), rf f0⟩, (fun y z => nomatch z)⟩
    · exact ⟨⟨.inr (.tup a1), rf f1⟩, (fun y z => nomatch z)⟩
    · exact ⟨⟨.inr (.lst a2), rf f2⟩, (fun y z => nomatch z)⟩
    · exact ⟨⟨.inr (.dict a3), rf f3⟩, (fun y z => nomatch z)⟩
    · exact ⟨⟨.inl ⟨_, rfl⟩, (fun z => nomatch z), (fun z => nomatch z)⟩, (fun y z _ => by cases z; decide)⟩
    · exact ⟨⟨.inl ⟨_, rfl⟩, (fun z => nomatch z), (fun z => nomatch z)⟩, (fun y z _ => by cases z; decide)⟩
    · exact ⟨⟨.inl ⟨_, rfl⟩, (fun z => nomatch z), (fun z => nomatch z)⟩, (fun y z _ => by cases z; decide)⟩
    · exact ⟨⟨.inl ⟨_, rfl⟩, (fun z => nomatch z), (fun z => nomatch z)⟩, (fun y z _ => by cases z; decide)⟩
    · exact ⟨⟨.inl ⟨_, rfl⟩, (fun z => nomatch z), (fun z => nomatch z)⟩, (fun y z hh => by cases z; exact hfar (by omega))⟩
    · exact ⟨⟨.inl ⟨_, rfl⟩, (fun z => nomatch z), (fun z => nomatch z)⟩, (fun y z hh => by cases z; exact hbelow (by omega))⟩
    · exact ⟨⟨.inr (.ins ax), rf fx⟩, (fun y z => nomatch z)⟩
  have K9 := (Kept.of t8).trans k9
  have offq := D7.off_n hq1
  have hq9 := k9 _ _ (@upd_same H7 q1 (HO.tup (xs.take i.toNat))) offq.1 offq.2
  have hp9 := K9.tup D7 hp7
  have ok9 := okX_put (j := i.toNat) (ok7.kept K9) (by omega) (good.1.kept K9) good.2
  have KK : Kept d c H H9 := K7.trans K9
  have lt : (xs.take i.toNat).length ≤ 5 := by rw [List.length_take, ok.len]; exact Nat.min_le_right _ _
  have ld : (xs.drop (i.toNat + 1)).length ≤ 5 := by rw [List.length_drop, ok.len]; omega
  refine ⟨(by show 1 ≤ sizeLine; decide), fun q2 hq2 => ?_⟩
  have t10 := same_new (o := HO.tup [v]) hq2
  refine ⟨q1, q2, _, _, rfl, rfl, SqT.of (t10 _ _ hq9), SqT.of upd_same, Nat.le_trans (show (xs.take i.toNat).length + 1 ≤ 6 by omega) (by decide), fun z0 => ?_, fun _ z1 => (by cases z1), fun z0 _ q3 hq3 => ?_⟩
  · -- nothing ahead of it
    have hp10 := t10 _ _ hp9
    refine ⟨_, rfl, _, rfl, i, 1, rfl, rfl, _, rfl, p, xs, rfl, SqT.of hp10, fun z => absurd z nw2, fun _ q4 hq4 => ?_⟩
    rw [cut2]
    have t11 := same_new (o := HO.tup (xs.drop (i.toNat + 1))) hq4
    rw [z0, List.nil_append] at ok9
    refine ⟨q2, q4, _, _, rfl, rfl, SqT.of (t11 _ _ upd_same), SqT.of upd_same, Nat.le_trans (show 1 + (xs.drop (i.toNat + 1)).length ≤ 6 by omega) (by decide), fun z => (by cases z), fun _ z1 => ?_, fun _ _ q5 hq5 => ?_⟩
    · refine k _ q2 _ ((D9.same t10).same t11) (KK.trans (Kept.of (t10.trans t11))) (t11 _ _ upd_same) ?_
      rw [z1, List.append_nil] at ok9
      exact ok9.kept (Kept.of (t10.trans t11))
    · exact k _ q5 _ (((D9.same t10).same t11).same (same_new hq5)) (KK.trans (Kept.of ((t10.trans t11).trans (same_new hq5)))) upd_same (ok9.kept (Kept.of ((t10.trans t11).trans (same_new hq5))))
  · have t12 := same_new (o := HO.tup (xs.take i.toNat ++ [v])) hq3
    have hp12 := t12 _ _ (t10 _ _ hp9)
    refine ⟨_, rfl, _, rfl, i, 1, rfl, rfl, _, rfl, p, xs, rfl, SqT.of hp12, fun z => absurd z nw2, fun _ q4 hq4 => ?_⟩
    rw [cut2]
    have t11 := same_new (o := HO.tup (xs.drop (i.toNat + 1))) hq4
    have S := (t10.trans t12).trans t11
    refine ⟨q3, q4, _, _, rfl, rfl, SqT.of (t11 _ _ upd_same), SqT.of upd_same, ?_, fun z => (by simp at z), fun _ z1 => ?_, fun _ _ q5 hq5 => ?_⟩
    · rw [List.length_append]
      exact Nat.le_trans (show (xs.take i.toNat).length + 1 + (xs.drop (i.toNat + 1)).length ≤ 11 by omega) (by decide)
    · refine k _ q3 _ (D9.same S) (KK.trans (Kept.of S)) (t11 _ _ upd_same) ?_
      rw [z1, List.append_nil] at ok9
      exact ok9.kept (Kept.of S)
    · exact k _ q5 _ ((D9.same S).same (same_new hq5)) (KK.trans (Kept.of (S.trans (same_new hq5)))) upd_same (ok9.kept (Kept.of (S.trans (same_new hq5))))
end
end PH
namespace PH
open PySem PySem.Spec PyProof.Rows L2
open C8 (pss_cut tCut)
abbrev sTold : Stmt := topS 49
/-- isinstance(e, (c1, c2, ..)), e the exception that the suite holds -/
def rIsET (K : PySem.W.Frag) (D a : Addr) : List V → Hp → VK → Prop := fun xs H Q =>
  ∃ (tp : Addr) (cs : List V) (us : List Value) (b : Bool), xs = [.ref a, .ref tp] ∧ H tp = some (.tup cs) ∧ Paired ClsV cs us ∧ PySem.W.kitAny K (.ref D) us = some b ∧ Q (.bl b) H
theorem call_isET {X : Cx} {a D : Addr} {oe : Obj} {pn : List (Addr × Obj)} (C : ExcC X.K D) (hz : Zc (.ref D) none oe) (hf : ∃ vs, oe.data = .fields vs) :
    CallR (X.suite a ((a, oe) :: pn)) (.builtin "isinstance") (rIsET X.K D a) := by
  intro pins s σ H xs us Q I r h
  obtain ⟨tp, cs, ws, b, rfl, hT, hp, e, q⟩ := h
  obtain ⟨u1, u2, rfl, r1, r2⟩ := vals2 r
  cases (show u1 = Value.ref a from r1)
  cases (show u2 = Value.ref tp from r2)
  have hget := (I.pin (a, oe) (List.mem_append.mpr (.inl List.mem_cons_self))).1
  obtain ⟨vs, hv⟩ := hf
  obtain ⟨oc, od, oda, osl⟩ := oe
  obtain ⟨z1, z2⟩ := hz
  dsimp only at z1 z2 hv
  subst z1 z2 hv
  obtain ⟨_, its, rv, o, h1, h2, n, h3⟩ := (show ObjOk X.prog X.w H s.heap tp (.tup cs) from I.hok tp _ hT)
  have e3 := ClsV.all hp rv
  subst e3
  obtain ⟨oc', od', dt, sl⟩ := o
  simp only at h2 h3
  subst h2 h3
  exact PySem.W.kia_tup (PySem.W.handS_kitx_exc C.hg C.hk C.hs C.hd C.ha C.hn C.ht C.hm) I.kIn (show PySem.W.InstAt s.heap a _ D none from ⟨hget, rfl, rfl, trivial⟩) h1 e (fun z => nomatch z)
    fun tk => ⟨.bl b, H, I.kept (t' := tk) fun _ _ z => z, rfl, q⟩
/-- what the text's classes of refusals are to one another -/
structure TTold (K : PySem.W.Frag) (mg : Str → Option Value) (NX PC c1 c2 c3 c4 c5 c6 c7 c8 c9 c10 c11 c12 c13 c14 : Addr) : Prop where
  gPE : mg "PointError" = some (.ref PC)
  te : PySem.W.exmOne K (.ref NX) (.ref PC) = some true
  m1 : mg "NoText" = some (.ref c1)
  m2 : mg "NoLine" = some (.ref c2)
  m3 : mg "NoRow" = some (.ref c3)
  m4 : mg "NoBack" = some (.ref c4)
  m5 : mg "TwoRoots" = some (.ref c5)
  m6 : mg "NotPlain" = some (.ref c6)
  m7 : mg "NeverDone" = some (.ref c7)
  m8 : mg "NoDeed" = some (.ref c8)
  m9 : mg "NoFit" = some (.ref c9)
  m10 : mg "Taken" = some (.ref c10)
  m11 : mg "Undone" = some (.ref c11)
  m12 : mg "NoBottom" = some (.ref c12)
  m13 : mg "NoWay" = some (.ref c13)
  m14 : mg "Missing" = some (.ref c14)
  mV : mg "ValueError" = none
  ec : ExcC K NX
  k1 : PySem.W.kitAny K (.ref NX) [.ref c1, .ref c2, .ref c3, .ref c4, .ref c5, .ref c6, .ref c7, .ref c8, .ref c9, .ref c10] = some false
  k2 : PySem.W.kitAny K (.ref NX) [.ref c11, .ref c12, .ref c13, .ref c14] = some false
  k3 : PySem.W.kitOne K (.ref NX) (.ref NX) = some true
  k4 : PySem.W.kitOne K (.ref NX) (.type "ValueError") = some true
theorem pss_when {X : Cx} {st : List Stmt} {t : TS} {φ : Prop} (h : φ → PSs X st t) : PSs X st (fun D σ H => φ ∧ t D σ H) :=
  ⟨fun pins s σ H D I hw => (h hw.1).run pins s σ H D I hw.2⟩
/-- the suite: which of the refusals it is -/
def tSuite (K : PySem.W.Frag) (NX c1 c2 c3 c4 c5 c6 c7 c8 c9 c10 c11 c12 c13 c14 : Addr) (a : Addr) : TS :=
  tSeq (tAsg (tCB (rIsET K NX a) (tCons (tVar 2) (tCons (tTup (tCons (tC (.ref c1)) (tCons (tC (.ref c2)) (tCons (tC (.ref c3)) (tCons (tC (.ref c4)) (tCons (tC (.ref c5)) (tCons (tC (.ref c6)) (tCons (tC (.ref c7)) (tCons (tC (.ref c8)) (tCons (tC (.ref c9)) (tCons (tC (.ref c10)) tNil))))))))))) tNil))) (gName 3))
  (tSeq (tAsg (tOrV (tVar 3) (tCB (rIsET K NX a) (tCons (tVar 2) (tCons (tTup (tCons (tC (.ref c11)) (tCons (tC (.ref c12)) (tCons (tC (.ref c13)) (tCons (tC (.ref c14)) tNil))))) tNil)))) (gName 3))
  (tAsg (tTup (tCons (tC (.str "refused")) (tCons (tAndV (tCB (rIsE K NX a) (tCons (tVar 2) (tCons (tC (.ref NX)) tNil))) (tAndV (tCB (rIsE K NX a) (tCons (tVar 2) (tCons (tC (.ty "ValueError")) tNil))) (tNotV (tVar 3)))) tNil))) (gName 1)))
def refD : PyData := .tuple [.str "refused", .bool true]
theorem ref_shows : refD.showable = true ∧ refD.hasDict = false ∧ refD.depth ≤ 60 ∧ refD.shown.length ≤ sizeLine := by
  refine ⟨rfl, rfl, by show 1 ≤ 60; decide, ?_⟩
  have q := PyData.shown_le_bulk 1921 (by decide) refD (by decide +kernel)
  have e : refD.bulk ≤ 20 := by decide +kernel
  exact Nat.le_trans q (Nat.le_trans (Nat.add_le_add_right (Nat.mul_le_mul_left 1923 e) 1921) (by decide))
section
variable {P : Program} {w : World} {K : PySem.W.Frag} {mg : Str → Option Value} {base : Heap} {C NX PC c1 c2 c3 c4 c5 c6 c7 c8 c9 c10 c11 c12 c13 c14 : Addr}
theorem dp_ref {H : Hp} {p : Addr} (h : H p = some (.tup [.str "refused", .bl true])) : Dp K H (.ref p) refD := .tup (SqT.of h) (.cons (.str _) (.cons (.bl true) .nil))
def spTold (C : Addr) : Sp := fun vs H Q _ => ∃ (p : Addr) (xs : List V), vs = [.ref p] ∧ H p = some (.tup xs) ∧ xs.length = 5 ∧ (∀ v ∈ xs, Any C H v) ∧ (∀ f, xs = fiveV f → Right f → Small f ∧ Fits f) ∧
  (rightB xs = false → ∀ H', Same H H' → Q (.str refD.shown) H') ∧ (∀ f, xs = fiveV f → Right f → ∀ H', Same H H' → Q (.str (fiveD (form f)).shown) H')
theorem scTold : FnScope ["_law_five_here", "_law_told_here", "e", "_law_odd_here"] ["_law_five_here"] (defScope sTold) := ⟨rfl, rfl, rfl, by decide +kernel, rfl, by decide +kernel, by decide +kernel⟩
theorem ok_told {f fF fM : Addr} {fd fdF fdM : FuncData} (F : Fun K "_law_told" "_law_told" sTold f fd) (T : TEx K mg C) (TT : TTold K mg NX PC c1 c2 c3 c4 c5 c6 c7 c8 c9 c10 c11 c12 c13 c14) (N : TNo P K mg NX []) (mI : mg "isinstance" = none) (mR : mg "repr" = none)
    (FF : Fns K mg fF fdF "_law_fields" 43 ["_law_number"]) (GM : FnOk P w K mg base (L2.CX P w) 5 fM fdM ["_law_five_here"] (spMade C NX)) (FM : Fns K mg fM fdM "_law_made" 42 ["_law_five_here"]) :
    FnG P w K mg base CX0 6 f fd ["_law_five_here"] (spTold C) := by
  have GF : FnOk P w K mg base CX0 1 fF fdF ["_law_number"] (spFlds C) := ok_flds FF.F T
  refine Fun.okG F scTold ?_ ?_
  · rintro vs H Q E ⟨p, xs, rfl, _⟩
    rfl
  intro cdv A outer s H vs Q E hg hr h
  have hr1 : Room 1 _ := hr.mono (by decide)
  obtain ⟨p, xs, rfl, hp, hl, hv, hsm, kF, kT⟩ := h
  have gl : ∀ {c : Addr}, RelV (.ref c) (.ref c) := fun {c} => rfl
  refine ⟨_, pss_cons (ps_set (i := 1) scTold.nd rfl (Or.inl rfl) pe_non)
    (pss_cut (ps_try_as (i := 2) (ts := fun a cls d => fun D σ H => (cls = .ref NX ∧ d = none) ∧ tSuite K NX c1 c2 c3 c4 c5 c6 c7 c8 c9 c10 c11 c12 c13 c14 a D σ H) (Wout := fun _ _ _ _ => False) rfl rfl scTold.nd rfl rfl ⟨rfl, by decide, Or.inl TT.gPE⟩ takes0
        (fun W pn xe tk _ => pss_one (ps_set (i := 1) scTold.nd rfl (Or.inl rfl) (pe_call GF hr1 rfl FF.m FF.F.kp FF.b .nil pass0 (pa_cons (pe_callS GM hr rfl FM.m FM.F.kp FM.b (fun σ => passAt tk σ) (pa_cons (pv 0) pa_nil)) pa_nil))))
        (fun a oe cls d pn hz hf => pss_when fun hcd => by
          obtain ⟨rfl, rfl⟩ := hcd
          exact pss_cons (ps_set (i := 3) scTold.nd rfl (Or.inl rfl) (pe_callB (call_isET TT.ec hz hf) (by rfl) mI (by decide +kernel) (pa_cons (pv 2) (pa_cons (pe_tup (pa_cons (pe_glob rfl TT.m1 gl) (pa_cons (pe_glob rfl TT.m2 gl) (pa_cons (pe_glob rfl TT.m3 gl) (pa_cons (pe_glob rfl TT.m4 gl) (pa_cons (pe_glob rfl TT.m5 gl)
              (pa_cons (pe_glob rfl TT.m6 gl) (pa_cons (pe_glob rfl TT.m7 gl) (pa_cons (pe_glob rfl TT.m8 gl) (pa_cons (pe_glob rfl TT.m9 gl) (pa_cons (pe_glob rfl TT.m10 gl) pa_nil))))))))))) pa_nil))))
            (pss_cons (ps_set (i := 3) scTold.nd rfl (Or.inl rfl) (pe_or (pv 3) (pe_one (pe_callB (call_isET TT.ec hz hf) (by rfl) mI (by decide +kernel) (pa_cons (pv 2) (pa_cons (pe_tup (pa_cons (pe_glob rfl TT.m11 gl) (pa_cons (pe_glob rfl TT.m12 gl) (pa_cons (pe_glob rfl TT.m13 gl) (pa_cons (pe_glob rfl TT.m14 gl) pa_nil))))) pa_nil))))))
            (pss_one (ps_set (i := 1) scTold.nd rfl (Or.inl rfl) (pe_tup (pa_cons pe_str (pa_cons (pe_and (pe_callB (call_isE TT.ec hz hf) (by rfl) mI (by decide +kernel) (pa_cons (pv 2) (pa_cons (pe_glob rfl N.gP gl) pa_nil)))
              (pe_and (pe_callB (call_isE TT.ec hz hf) (by rfl) mI (by decide +kernel) (pa_cons (pv 2) (pa_cons (pe_bltn (by rfl) TT.mV (by decide +kernel) (show RelV (.ty "ValueError") (.type "ValueError") from rfl)) pa_nil))) (pe_one (pe_not (pv 3))))) pa_nil))))))))
    (pss_one (ps_ret (pe_callB (cr_repr hg hr) (by rfl) mR (by decide +kernel) (pa_cons (pv 1) pa_nil))))), ?_⟩
  have one : ∀ (c : Addr), ClsV (.ref c) (.ref c) := ClsV.own
  refine ⟨fun σ' H' => Same H H' ∧ ∃ (q : Addr) (v3 : Option V), σ' = [some (.ref p), some (.ref q), none, v3] ∧ (rightB xs = false ∧ H' q = some (.tup [.str "refused", .bl true]) ∨ ∃ f, xs = fiveV f ∧ Right f ∧ H' q = some (.tup (fiveV (form f)))), ?_, ?_⟩
  · refine ⟨_, rfl, ?_⟩
    dsimp only [tNil, tC, tCons]
    refine ⟨p, xs, rfl, hp, hl, hv, fun hB H1 s1 => ?_, fun f hf R => ⟨(hsm f hf R).2, fun H1 x s1 _ na => ?_⟩⟩
    · refine ⟨true, TT.te, fun _ a ha => ⟨⟨rfl, rfl⟩, ?_⟩, fun z => Bool.noConfusion z⟩
      refine ⟨_, rfl, (by show 10 ≤ sizeLine; decide), fun q1 hq1 => ⟨q1, _, _, false, rfl, upd_same, (.cons (one _) (.cons (one _) (.cons (one _) (.cons (one _) (.cons (one _) (.cons (one _) (.cons (one _) (.cons (one _) (.cons (one _) (.cons (one _) .nil)))))))))), TT.k1, ?_⟩⟩
      refine ⟨_, rfl, false, rfl, iteF ?_⟩
      refine ⟨_, rfl, (by show 4 ≤ sizeLine; decide), fun q2 hq2 => ⟨q2, _, _, false, rfl, upd_same, (.cons (one _) (.cons (one _) (.cons (one _) (.cons (one _) .nil)))), TT.k2, ?_⟩⟩
      refine ⟨_, rfl, _, .ref NX, true, rfl, (fun u r => r), TT.k3, true, rfl, iteT ?_⟩
      refine ⟨_, rfl, _, .type "ValueError", true, rfl, (fun u r => r), TT.k4, true, rfl, iteT ?_⟩
      refine ⟨_, rfl, false, rfl, (by show 2 ≤ sizeLine; decide), fun q3 hq3 => ?_⟩
      exact ⟨((s1.trans (same_new hq1)).trans (same_new hq2)).trans (same_new hq3), q3, some (.bl false), rfl, .inl ⟨hB, upd_same⟩⟩
    · obtain ⟨dx, hx⟩ := na
      refine ⟨x, dx, form f, rfl, hx, fun q hq => ?_⟩
      exact ⟨s1.trans (same_new hq), q, none, rfl, .inr ⟨f, hf, R, upd_same⟩⟩
  · rintro σ1 H1 ⟨s1, q, v3, rfl, hc⟩
    refine ⟨_, rfl, q, ?_⟩
    rcases hc with ⟨hB, hq⟩ | ⟨f, hf, R, hq⟩
    · obtain ⟨w1, w2, w3, w4⟩ := ref_shows
      exact ⟨refD, rfl, dp_ref hq, w1, w2, w3, w4, kF hB _ s1⟩
    · obtain ⟨w1, w2, w3, w4⟩ := five_shows (tiny_of (canon_right (canon_form R)) (form_fits R (hsm f hf R).1))
      exact ⟨fiveD (form f), rfl, dp_five hq, w1, w2, w3, w4, kT f hf R _ s1⟩
end
end PH
namespace PH
open PySem PySem.Spec PyProof.Rows L2
open C8 (pss_cut tCut)
abbrev sLaw : Stmt := topS 50
abbrev nLaw : List Str := ["_law_script", "_law_deck_here", "_law_turn", "_law_five_here", "_law_due", "_law_built", "_law_bent", "_law_theirs", "_law_own_due", "_law_some", "_law_one"]
theorem scLaw : FnScope nLaw ["_law_script"] (defScope sLaw) := ⟨rfl, rfl, rfl, by decide +kernel, rfl, by decide +kernel, by decide +kernel⟩
section
variable {P : Program} {w : World} {K : PySem.W.Frag} {mg : Str → Option Value} {base : Heap} {C NX : Addr}
theorem kb_two {f : Addr} {fd : FuncData} (F : InitD K f fd) : ∃ ds, Vals [.int 0, .int 0, .int 1] ds ∧ Binds K fd psI ds :=
  F.binds 3 1 (by simp) rfl (fun T D doc pm an cdv ct us its ks h1 h2 h3 => match us, its, ks, h1, h2, h3 with
      | [_, _, _], [_], [_, _, _], _, _, _ => ⟨_, rfl, ⟨_, _, _, _, _, _, rfl, rfl, ⟨_, _, _, _, _, _, rfl, rfl, ⟨_, _, _, _, _, _, rfl, rfl, rfl⟩⟩⟩⟩) (by simp)
theorem kb_so {f : Addr} {fd : FuncData} (F : InitD K f fd) : ∃ its mv : List Value, KBn K fd psI 2 ["sign", "over"] (fun us ws => us ++ (its ++ (ws ++ mv))) (fun vs zs => vs ++ ([.int 1] ++ (zs ++ [.int 1]))) :=
  F.kbinds 2 ["sign", "over"] [("under", .int 1)] (fun us its mv ws => us ++ (its ++ (ws ++ mv))) (by simp) (by simp) (by simp) (fun r1 r2 r3 r4 => r1.append (r2.append (r4.append r3)))
    fun T D doc pm an cdv ct us its mv ws h1 h2 h3 h4 => match us, its, mv, ws, h1, h2, h3, h4 with
      | [_, _], [_], [_], [_, _], _, _, _, _ => ⟨_, rfl, ⟨_, _, _, _, _, _, rfl, rfl, rfl⟩⟩
theorem form_a : form (0, 1, 0, 0, 1) = (0, 1, 0, 0, 1) := by decide +kernel
theorem form_b : form (3, 6, 0, 0, 1) = (1, 2, 0, 0, 1) := by decide +kernel
theorem form_c : form (0, 1, 1, 2, 1) = (0, 1, 1, 2, 1) := by decide +kernel
theorem form_d : form (1, 2, -1, 9, 4) = (-1, 1, 0, 0, 1) := by decide +kernel
end
end PH
namespace PH
open PySem PySem.Spec PyProof.Rows L2
open C8 (pss_cut tCut)
section
variable {P : Program} {w : World} {K : PySem.W.Frag} {mg : Str → Option Value} {base : Heap} {C NX : Addr}
def spLaw (K : PySem.W.Frag) : Sp := fun vs H Q _ => ∃ (a : Addr) (ns : List Int), vs = [.ref a] ∧ SqL K H a (ns.map V.int) ∧ ns.length ≤ 63 ∧ ∀ H', Q (.bl true) H'
/-- all that the law calls -/
structure Calls (P : Program) (w : World) (K : PySem.W.Frag) (mg : Str → Option Value) (base : Heap) (C NX : Addr) (fdk ffv fgr ffm fmd fby fis fod fir ftd ffl fI : Addr) (ddk dfv dgr dfm dmd dby dis dod dir dtd dfl dI : FuncData) : Prop where
  gdk : FnOk P w K mg base CX0 1 fdk ddk ["_law_script"] (spDeck K)
  ndk : Fns K mg fdk ddk "_law_deck" 33 ["_law_script"]
  gfv : FnOk P w K mg base CX0 3 ffv dfv ["_law_deck_here"] spFive
  nfv : Fns K mg ffv dfv "_law_five" 40 ["_law_deck_here"]
  ggr : FnOk P w K mg base CX0 2 fgr dgr ["_law_deck_here"] spFive
  ngr : Fns K mg fgr dgr "_law_great" 47 ["_law_deck_here"]
  gfm : FnOk P w K mg base CX0 3 ffm dfm ["_law_upper", "_law_lower", "_law_mark", "_law_aloft", "_law_beneath"] spForm
  nfm : Fns K mg ffm dfm "_law_form" 38 ["_law_upper", "_law_lower", "_law_mark", "_law_aloft", "_law_beneath"]
  gmd : FnOk P w K mg base (L2.CX P w) 5 fmd dmd ["_law_five_here"] (spMade C NX)
  nmd : Fns K mg fmd dmd "_law_made" 42 ["_law_five_here"]
  gby : FnOk P w K mg base CX0 5 fby dby ["_law_deck_here", "_law_five_here"] (spByN C)
  nby : Fns K mg fby dby "_law_by_names" 45 ["_law_deck_here", "_law_five_here"]
  gis : FnG P w K mg base CX0 2 fis dis ["_law_found", "_law_due"] (spIs C)
  nis : Fns K mg fis dis "_law_is" 44 ["_law_found", "_law_due"]
  god : FnOk P w K mg base CX0 5 fod dod ["_law_deck_here", "_law_five_here"] (spOdd C)
  nod : Fns K mg fod dod "_law_odd" 48 ["_law_deck_here", "_law_five_here"]
  gir : FnOk P w K mg base CX0 1 fir dir ["_law_five_here"] (spIsR C)
  nir : Fns K mg fir dir "_law_is_right" 46 ["_law_five_here"]
  gtd : FnG P w K mg base CX0 6 ftd dtd ["_law_five_here"] (spTold C)
  ntd : Fns K mg ftd dtd "_law_told" 49 ["_law_five_here"]
  gfl : FnOk P w K mg base CX0 1 ffl dfl ["_law_number"] (spFlds C)
  nfl : Fns K mg ffl dfl "_law_fields" 43 ["_law_number"]
  FI : InitD K fI dI
  GI : GInit P w K mg base C NX fI dI
  M : Mk K C fI
theorem dec_same (s : Str) : (!decide (V.str s = V.str s)) = false := by rw [decide_eq_true rfl]; rfl
theorem made_ok {H : Hp} {p : Addr} {f : Five} {Q : VK} (hp : H p = some (.tup (fiveV f))) (R : Right f) (ft : Fits f) (kQ : ∀ H' x, Same H H' → NumAt C H' x (form f) → Q (.ref x) H') :
    spMade C NX [.ref p] H Q E0 := by
  refine ⟨p, fiveV f, rfl, hp, rfl, any_fiveV f, (fun h => by rw [B_of_right R] at h; cases h), fun g hg _ => ?_⟩
  have e := fiveV_inj hg
  subst e
  exact ⟨ft, fun H' x s _ na => kQ H' x s na⟩
/-- one of the three that are held against the law's own word -/
def Bent (d c C : Addr) (H : Hp) (v : V) : Prop := ∃ t ys, v = .ref t ∧ H t = some (.tup ys) ∧ OkX d c C H ys
variable {fdk ffv fgr ffm fmd fby fis fod fir ftd ffl fI : Addr} {ddk dfv dgr dfm dmd dby dis dod dir dtd dfl dI : FuncData}
theorem ok_law {f : Addr} {fd : FuncData} (F : Fun K "law" "law" sLaw f fd) (T : TEx K mg C) (mR : mg "range" = none) (mP : mg "repr" = none)
    (B : Calls P w K mg base C NX fdk ffv fgr ffm fmd fby fis fod fir ftd ffl fI ddk dfv dgr dfm dmd dby dis dod dir dtd dfl dI) :
    FnG P w K mg base CX0 7 f fd ["_law_script"] (spLaw K) := by
  obtain ⟨ds1, v1, B1⟩ := kb_one B.FI
  obtain ⟨ds2, v2, B2⟩ := kb_two B.FI
  obtain ⟨i3, m3, B3⟩ := kb_so B.FI
  obtain ⟨i4, m4, B4⟩ := kb_made B.FI
  refine Fun.okG F scLaw ?_ ?_
  · rintro vs H Q E ⟨a, ns, rfl, _⟩
    rfl
  intro cdv A outer s H vs Q E hg hr h
  have hr1 : Room 1 _ := hr.mono (by decide)
  have hr2 : Room 2 _ := hr.mono (by decide)
  have hr3 : Room 3 _ := hr.mono (by decide)
  have hr4 : Room 4 _ := hr.mono (by decide)
  have hr5 : Room 5 _ := hr.mono (by decide)
  obtain ⟨a, ns, rfl, hS, hlen, kT⟩ := h
  refine ⟨_, pss_cons (ps_set (i := 1) scLaw.nd rfl (Or.inl rfl) (pe_call B.gdk hr1 rfl B.ndk.m B.ndk.F.kp B.ndk.b .nil pass0 (pa_cons (pv 0) pa_nil)))
    (pss_cons (ps_for PassesOwn.never rfl (pi_range1 rfl mR (pa_cons pe_int pa_nil)) (pg_name (i := 2) scLaw.nd rfl (Or.inl rfl))
      (pss_cut (ps_set (i := 3) scLaw.nd rfl (Or.inl rfl) (pe_ifExp (pt_cmpR op_eq (pe_op op_mod (pv 2) pe_int) pe_int (nomark _)) (pe_call B.ggr hr2 rfl B.ngr.m B.ngr.F.kp B.ngr.b .nil pass0 (pa_cons (pv 1) pa_nil)) (pe_call B.gfv hr3 rfl B.nfv.m B.nfv.F.kp B.nfv.b .nil pass0 (pa_cons (pv 1) pa_nil))))
      (pss_cons (ps_set (i := 4) scLaw.nd rfl (Or.inl rfl) (pe_call B.gfm hr3 rfl B.nfm.m B.nfm.F.kp B.nfm.b .nil pass0 (pa_cons (pe_ix ix_tup (pv 3) pe_int (fun _ _ => rfl)) (pa_cons (pe_ix ix_tup (pv 3) pe_int (fun _ _ => rfl)) (pa_cons (pe_ix ix_tup (pv 3) pe_int (fun _ _ => rfl)) (pa_cons (pe_ix ix_tup (pv 3) pe_int (fun _ _ => rfl)) (pa_cons (pe_ix ix_tup (pv 3) pe_int (fun _ _ => rfl)) pa_nil)))))))
      (pss_cut (ps_for PassesOwn.never rfl (pi_tup (pe_tup (pa_cons (pe_call B.gmd hr5 rfl B.nmd.m B.nmd.F.kp B.nmd.b .nil passX0 (pa_cons (pv 3) pa_nil)) (pa_cons (pe_call B.gby hr5 rfl B.nby.m B.nby.F.kp B.nby.b .nil pass0 (pa_cons (pv 1) (pa_cons (pv 3) pa_nil)))
          (pa_cons (pe_call B.gby hr5 rfl B.nby.m B.nby.F.kp B.nby.b .nil pass0 (pa_cons (pv 1) (pa_cons (pv 4) pa_nil))) (pa_cons (pe_call B.gmd hr5 rfl B.nmd.m B.nmd.F.kp B.nmd.b .nil passX0 (pa_cons (pv 4) pa_nil)) pa_nil)))))) (pg_name (i := 5) scLaw.nd rfl (Or.inl rfl))
        (pss_one (ps_if (pt_not (pt_val (pe_callG B.gis hg hr2 rfl B.nis.m B.nis.F.kp B.nis.b (pa_cons (pv 5) (pa_cons (pv 4) pa_nil))))) (pss_one (ps_ret pe_bl)) pss_nil)))
      (pss_cons (ps_set (i := 6) scLaw.nd rfl (Or.inl rfl) (pe_call B.god hr5 rfl B.nod.m B.nod.F.kp B.nod.b .nil pass0 (pa_cons (pv 1) (pa_cons (pv 3) pa_nil))))
      (pss_one (ps_for PassesOwn.never rfl (pi_tup (pe_tup (pa_cons (pv 6) (pa_cons (pe_call B.god hr5 rfl B.nod.m B.nod.F.kp B.nod.b .nil pass0 (pa_cons (pv 1) (pa_cons (pv 6) pa_nil))) (pa_cons (pv 3) pa_nil))))) (pg_name (i := 7) scLaw.nd rfl (Or.inl rfl))
        (pss_cons (ps_set (i := 8) scLaw.nd rfl (Or.inl rfl) (pe_tup (pa_cons pe_str (pa_cons pe_bl pa_nil))))
        (pss_cut (ps_if (pt_val (pe_call B.gir hr1 rfl B.nir.m B.nir.F.kp B.nir.b .nil pass0 (pa_cons (pv 7) pa_nil)))
          (pss_one (ps_set (i := 8) scLaw.nd rfl (Or.inl rfl) (pe_call B.gfm hr3 rfl B.nfm.m B.nfm.F.kp B.nfm.b .nil pass0 (pa_cons (pe_ix ix_tup (pv 7) pe_int (fun _ _ => rfl)) (pa_cons (pe_ix ix_tup (pv 7) pe_int (fun _ _ => rfl)) (pa_cons (pe_ix ix_tup (pv 7) pe_int (fun _ _ => rfl)) (pa_cons (pe_ix ix_tup (pv 7) pe_int (fun _ _ => rfl)) (pa_cons (pe_ix ix_tup (pv 7) pe_int (fun _ _ => rfl)) pa_nil)))))))) pss_nil)
        (pss_one (ps_if (pt_cmpR op_ne (pe_callG B.gtd hg hr rfl B.ntd.m B.ntd.F.kp B.ntd.b (pa_cons (pv 7) pa_nil)) (pe_callB (cr_repr hg hr) (by rfl) mP (by decide +kernel) (pa_cons (pv 8) pa_nil)) (nomark _)) (pss_one (ps_ret pe_bl)) pss_nil)))))))))))
    (pss_cons (ps_set (i := 9) scLaw.nd rfl (Or.inl rfl) (pe_lst (pa_cons (pe_make B.M B.GI hr4 rfl T.mgC B1 v1 passX0 (pa_cons pe_int pa_nil)) (pa_cons (pe_make B.M B.GI hr4 rfl T.mgC B2 v2 passX0 (pa_cons pe_int (pa_cons pe_int pa_nil)))
      (pa_cons (pe_makeK (n := 1) B.M B.GI hr4 rfl T.mgC B3 passX0 (pa_cons pe_int pa_nil) (pk_cons pe_int (pk_cons pe_int pk_nil))) (pa_cons (pe_makeK (n := 2) B.M B.GI hr4 rfl T.mgC B4 passX0 (pa_cons pe_int (pa_cons pe_int pa_nil)) (pk_cons (pe_un un_neg pe_int) (pk_cons pe_int (pk_cons pe_int pk_nil)))) pa_nil))))))
    (pss_cons (ps_set (i := 4) scLaw.nd rfl (Or.inl rfl) (pe_lst (pa_cons (pe_tup (pa_cons pe_int (pa_cons pe_int (pa_cons pe_int (pa_cons pe_int (pa_cons pe_int pa_nil)))))) (pa_cons (pe_tup (pa_cons pe_int (pa_cons pe_int (pa_cons pe_int (pa_cons pe_int (pa_cons pe_int pa_nil))))))
      (pa_cons (pe_tup (pa_cons pe_int (pa_cons pe_int (pa_cons pe_int (pa_cons pe_int (pa_cons pe_int pa_nil)))))) (pa_cons (pe_tup (pa_cons (pe_un un_neg pe_int) (pa_cons pe_int (pa_cons pe_int (pa_cons pe_int (pa_cons pe_int pa_nil)))))) pa_nil))))))
    (pss_one (ps_ret (pe_cmpR (op_eqD hr.units) (pe_lc (own := [("_law_one", 10)]) (g := gName 10) (tt := tYes) rfl scLaw.nd (pi_list (pv 9))
        (blkOk_by (own := [("_law_one", 10)]) (N := nLaw) (sc := defScope sLaw) (by decide +kernel)) (fun _ _ _ _ _ => pg_name (i := 10) scLaw.nd rfl (Or.inl rfl)) (fun _ _ _ _ _ => pts_nil)
        (fun _ _ _ _ _ => pe_call B.gfl hr1 rfl B.nfl.m B.nfl.F.kp B.nfl.b .nil pass0 (pa_cons (pv 10) pa_nil))) (pv 4) (nomark _))))))), ?_⟩
  -- deck
  refine ⟨_, rfl, ?_⟩
  dsimp only [tNil, tC, tCons]
  refine ⟨a, ns, rfl, hS, hlen, fun H0 d c s0 _ _ D0 => ?_⟩
  -- the turns
  refine ⟨16, rfl, by decide, by decide, for_range (lo := 0) (n := 16) (fun i σ H' => Deck H' d c ∧ ∃ o2 o3 o4 o5 o6 o7 o8 o9 o10 : Option V, σ = [some (.ref a), some (.ref d), o2, o3, o4, o5, o6, o7, o8, o9, o10])
    ⟨D0, none, none, none, none, none, none, none, none, none, rfl⟩ ?_ ?_⟩
  · rintro i σ H1 hi ⟨D1, o2, o3, o4, o5, o6, o7, o8, o9, o10, rfl⟩
    -- five
    refine ⟨fun σ' H' => Deck H' d c ∧ ∃ (q : Addr) (f : Five), σ' = [some (.ref a), some (.ref d), some (.int (0 + i)), some (.ref q), o4, o5, o6, o7, o8, o9, o10] ∧ H' q = some (.tup (fiveV f)) ∧ Right f ∧ Small f, ?_, ?_⟩
    · refine ⟨_, rfl, _, _, rfl, rfl, (by show (0 : Int) < 5; decide), rfl, _, rfl, ?_⟩
      by_cases z : (0 + (i : Int)) % 5 = 4
      · refine if_t (by show decide (V.int ((0 + (i : Int)) % 5) = V.int 4) = true; rw [dec_int]; exact decide_eq_true z) ?_
        refine ⟨_, rfl, ?_⟩
        dsimp only [tNil, tC, tCons]
        exact ⟨d, c, rfl, D1, fun H' q f D' _ hq R S => ⟨D', q, f, rfl, hq, R, S⟩⟩
      · refine if_f (by show decide (V.int ((0 + (i : Int)) % 5) = V.int 4) = false; rw [dec_int]; exact decide_eq_false z) ?_
        refine ⟨_, rfl, ?_⟩
        dsimp only [tNil, tC, tCons]
        exact ⟨d, c, rfl, D1, fun H' q f D' _ hq R S => ⟨D', q, f, rfl, hq, R, S⟩⟩
    rintro σ2 H2 ⟨D2, q, f, rfl, hq, R, S⟩
    have ft : Fits f := (okX_five (d := d) (c := c) (C := C) (H := H2) R S).right R |>.2
    have Rf := canon_right (canon_form R)
    have ff := form_fits R S
    -- due
    refine ⟨_, rfl, q, _, 0, _, rfl, rfl, SqT.of hq, rfl, _, rfl, q, _, 1, _, rfl, rfl, SqT.of hq, rfl, _, rfl, q, _, 2, _, rfl, rfl, SqT.of hq, rfl, _, rfl, q, _, 3, _, rfl, rfl, SqT.of hq, rfl, _, rfl, q, _, 4, _, rfl, rfl, SqT.of hq, rfl, ?_⟩
    dsimp only [tNil, tC, tCons]
    refine ⟨f, rfl, R, ft, fun H3 q3 s3 hq3 => ?_⟩
    have D3 := D2.same s3
    have hq2 := s3 _ _ hq
    -- four ways of making it
    refine ⟨fun σ' H' => Deck H' d c ∧ H' q = some (.tup (fiveV f)) ∧ ∃ o5 : Option V, σ' = [some (.ref a), some (.ref d), some (.int (0 + i)), some (.ref q), some (.ref q3), o5, o6, o7, o8, o9, o10], ?_, ?_⟩
    · refine ⟨_, rfl, ?_⟩
      dsimp only [tNil, tC, tCons]
      refine made_ok (f := f) hq2 R ft fun H4 x1 s4 n1 => ?_
      have D4 := D3.same s4
      refine ⟨_, rfl, _, rfl, ?_⟩
      dsimp only [tNil, tC, tCons]
      refine ⟨d, c, q, f, rfl, D4, s4 _ _ hq2, R, ft, fun H5 x2 D5 k5 n2 => ?_⟩
      have h3_5 := k5.tup D4 (s4 _ _ hq3)
      have hq5 := k5.tup D4 (s4 _ _ hq2)
      have n1_5 := n1.kept k5 D4
      refine ⟨_, rfl, _, rfl, ?_⟩
      dsimp only [tNil, tC, tCons]
      refine ⟨d, c, q3, form f, rfl, D5, h3_5, Rf, ff, fun H6 x3 D6 k6 n3 => ?_⟩
      rw [form_form R] at n3
      have h3_6 := k6.tup D5 h3_5
      have hq6 := k6.tup D5 hq5
      have n1_6 := n1_5.kept k6 D5
      have n2_6 := n2.kept k6 D5
      refine ⟨_, rfl, ?_⟩
      dsimp only [tNil, tC, tCons]
      refine made_ok (f := form f) h3_6 Rf ff fun H7 x4 s7 n4 => ?_
      rw [form_form R] at n4
      have D7 := D6.same s7
      refine ⟨(by show 4 ≤ sizeLine; decide), fun tp htp => ⟨tp, rfl, ⟨_, SqT.of upd_same⟩, ?_⟩⟩
      have s8 := same_new (o := HO.tup [V.ref x1, V.ref x2, V.ref x3, V.ref x4]) htp
      have hb : ∀ v ∈ [V.ref x1, V.ref x2, V.ref x3, V.ref x4], ∃ x, v = .ref x ∧ NumAt C (upd H7 tp (.tup [V.ref x1, V.ref x2, V.ref x3, V.ref x4])) x (form f) := by
        intro v hv
        simp only [List.mem_cons, List.not_mem_nil, or_false] at hv
        rcases hv with rfl | rfl | rfl | rfl
        · exact ⟨_, rfl, (n1_6.same s7).same s8⟩
        · exact ⟨_, rfl, (n2_6.same s7).same s8⟩
        · exact ⟨_, rfl, (n3.same s7).same s8⟩
        · exact ⟨_, rfl, n4.same s8⟩
      have htp8 : upd H7 tp (.tup [V.ref x1, V.ref x2, V.ref x3, V.ref x4]) tp = some (.tup [V.ref x1, V.ref x2, V.ref x3, V.ref x4]) := upd_same
      have h3_8 := s8 _ _ (s7 _ _ h3_6)
      have hq8 := s8 _ _ (s7 _ _ hq6)
      have D8 := D7.same s8
      generalize upd H7 tp (.tup [V.ref x1, V.ref x2, V.ref x3, V.ref x4]) = H8 at *
      refine for_tup (D := { nx := fun σ' H' => Deck H' d c ∧ H' q = some (.tup (fiveV f)) ∧ ∃ o5 : Option V, σ' = [some (.ref a), some (.ref d), some (.int (0 + i)), some (.ref q), some (.ref q3), o5, o6, o7, o8, o9, o10], rt := Q }) (K := K) (a := tp) (xs := [V.ref x1, V.ref x2, V.ref x3, V.ref x4]) (fun j σ' H' => Same H8 H' ∧ ∃ o5 : Option V, σ' = [some (.ref a), some (.ref d), some (.int (0 + i)), some (.ref q), some (.ref q3), o5, o6, o7, o8, o9, o10])
        ⟨Same.refl _, o5, rfl⟩ (fun j σ' H' _ ⟨e, _⟩ => SqT.of (e _ _ htp8)) ?_ ?_
      · rintro j v σ' H' hv ⟨s9, o5, rfl⟩
        obtain ⟨x, rfl, hx⟩ := hb v (List.mem_of_getElem? hv)
        obtain ⟨dx, hdx⟩ := hx.same s9
        refine ⟨_, rfl, _, rfl, ?_⟩
        dsimp only [tNil, tC, tCons]
        refine ⟨x, dx, q3, form f, rfl, hdx, s9 _ _ h3_8, tiny_of Rf ff, fun Ha sa => ⟨_, rfl, ?_⟩⟩
        refine if_f (by rfl) ?_
        exact ⟨s9.trans sa, _, rfl⟩
      · rintro σ' H' ⟨s9, o5, rfl⟩
        exact ⟨D8.same s9, s9 _ _ hq8, o5, rfl⟩
    rintro σ4 H4 ⟨D4, hq4, p5, rfl⟩
    -- bent
    refine ⟨_, rfl, _, rfl, ?_⟩
    dsimp only [tNil, tC, tCons]
    refine ⟨d, c, q, fiveV f, rfl, D4, hq4, okX_five R S, fun H5 t1 y1 D5 k5 ht1 ok1 => ?_⟩
    have hq5 := k5.tup D4 hq4
    refine ⟨_, rfl, _, rfl, _, rfl, ?_⟩
    dsimp only [tNil, tC, tCons]
    refine ⟨d, c, t1, y1, rfl, D5, ht1, ok1, fun H6 t2 y2 D6 k6 ht2 ok2 => ?_⟩
    have hq6 := k6.tup D5 hq5
    have ht1_6 := k6.tup D5 ht1
    refine ⟨_, rfl, (by show 3 ≤ sizeLine; decide), fun tp htp => ⟨tp, rfl, ⟨_, SqT.of upd_same⟩, ?_⟩⟩
    have s7 := same_new (o := HO.tup [V.ref t1, V.ref t2, V.ref q]) htp
    have hb : ∀ v ∈ [V.ref t1, V.ref t2, V.ref q], Bent d c C (upd H6 tp (.tup [V.ref t1, V.ref t2, V.ref q])) v := by
      intro v hv
      simp only [List.mem_cons, List.not_mem_nil, or_false] at hv
      rcases hv with rfl | rfl | rfl
      · exact ⟨_, _, rfl, s7 _ _ ht1_6, (ok1.kept k6).kept (Kept.of s7)⟩
      · exact ⟨_, _, rfl, s7 _ _ ht2, ok2.kept (Kept.of s7)⟩
      · exact ⟨_, _, rfl, s7 _ _ hq6, okX_five R S⟩
    have htp7 : upd H6 tp (.tup [V.ref t1, V.ref t2, V.ref q]) tp = some (.tup [V.ref t1, V.ref t2, V.ref q]) := upd_same
    have D7 := D6.same s7
    generalize upd H6 tp (.tup [V.ref t1, V.ref t2, V.ref q]) = H7 at *
    refine for_tup (D := { nx := fun σ' H' => Deck H' d c ∧ ∃ o2 o3 o4 o5 o6 o7 o8 o9 o10 : Option V, σ' = [some (.ref a), some (.ref d), o2, o3, o4, o5, o6, o7, o8, o9, o10], rt := Q }) (K := K) (a := tp) (xs := [V.ref t1, V.ref t2, V.ref q]) (fun j σ' H' => Same H7 H' ∧ ∃ o7 o8 : Option V, σ' = [some (.ref a), some (.ref d), some (.int (0 + i)), some (.ref q), some (.ref q3), p5, some (.ref t1), o7, o8, o9, o10])
      ⟨Same.refl _, o7, o8, rfl⟩ (fun j σ' H' _ ⟨e, _⟩ => SqT.of (e _ _ htp7)) ?_ ?_
    · rintro j v σ' H8 hv ⟨s8, o7, o8, rfl⟩
      obtain ⟨t, ys, rfl, ht, ok⟩ := hb v (List.mem_of_getElem? hv)
      have ht8 := s8 _ _ ht
      have ok8 := ok.kept (Kept.of s8)
      have any8 : ∀ v ∈ ys, Any C H8 v := fun v hv => (ok8.any v hv).1
      refine ⟨(by show 2 ≤ sizeLine; decide), fun r hr0 => ?_⟩
      have s9 := same_new (o := HO.tup [V.str "refused", V.bl true]) hr0
      refine ⟨fun σ' H' => Same H8 H' ∧ ∃ r : Addr, σ' = [some (.ref a), some (.ref d), some (.int (0 + i)), some (.ref q), some (.ref q3), p5, some (.ref t1), some (.ref t), some (.ref r), o9, o10] ∧
        (rightB ys = false ∧ H' r = some (.tup [.str "refused", .bl true]) ∨ ∃ g, ys = fiveV g ∧ Right g ∧ H' r = some (.tup (fiveV (form g)))), ?_, ?_⟩
      · refine ⟨_, rfl, ?_⟩
        dsimp only [tNil, tC, tCons]
        refine ⟨t, ys, rfl, s9 _ _ ht8, ok.len, fun v hv => (any8 v hv).same s9, fun Ha sa => ⟨_, rfl, ?_⟩⟩
        cases e : rightB ys with
        | false =>
          refine if_f rfl ?_
          exact ⟨s9.trans sa, r, rfl, .inl ⟨rfl, sa _ _ upd_same⟩⟩
        | true =>
          refine if_t rfl ?_
          obtain ⟨g, rfl⟩ := ints_of_B e
          have Rg := right_of_B e
          have hta := sa _ _ (s9 _ _ ht8)
          refine ⟨_, rfl, t, _, 0, _, rfl, rfl, SqT.of hta, rfl, _, rfl, t, _, 1, _, rfl, rfl, SqT.of hta, rfl, _, rfl, t, _, 2, _, rfl, rfl, SqT.of hta, rfl, _, rfl, t, _, 3, _, rfl, rfl, SqT.of hta, rfl, _, rfl, t, _, 4, _, rfl, rfl, SqT.of hta, rfl, ?_⟩
          dsimp only [tNil, tC, tCons]
          exact ⟨g, rfl, Rg, (ok.right Rg).2, fun Hb r2 sb hb2 => ⟨(s9.trans sa).trans sb, r2, rfl, .inr ⟨g, rfl, Rg, hb2⟩⟩⟩
      rintro σ9 H9 ⟨s9', r', rfl, hcase⟩
      refine ⟨_, rfl, ?_⟩
      dsimp only [tNil, tC, tCons]
      refine ⟨t, ys, rfl, s9' _ _ ht8, ok.len, fun v hv => (any8 v hv).same s9', fun g hg Rg => ?_, fun hB Ha sa => ?_, fun g hg Rg Ha sa => ?_⟩
      · subst hg
        exact ok.right Rg
      · rcases hcase with ⟨_, hr'⟩ | ⟨g, rfl, Rg, _⟩
        · obtain ⟨w1, w2, w3, w4⟩ := ref_shows
          refine ⟨_, rfl, r', refD, rfl, dp_ref (sa _ _ hr'), w1, w2, w3, w4, rfl, false, congrArg V.bl (dec_same _), ?_⟩
          refine if_f rfl ?_
          exact ⟨(s8.trans s9').trans sa, _, _, rfl⟩
        · rw [B_of_right Rg] at hB
          cases hB
      · subst hg
        rcases hcase with ⟨hB, _⟩ | ⟨g', hg', Rg', hr'⟩
        · rw [B_of_right Rg] at hB
          cases hB
        · have e := fiveV_inj hg'
          subst e
          obtain ⟨w1, w2, w3, w4⟩ := five_shows (tiny_of (canon_right (canon_form Rg)) (form_fits Rg (ok.right Rg).1))
          refine ⟨_, rfl, r', fiveD (form g), rfl, dp_five (sa _ _ hr'), w1, w2, w3, w4, rfl, false, congrArg V.bl (dec_same _), ?_⟩
          refine if_f rfl ?_
          exact ⟨(s8.trans s9').trans sa, _, _, rfl⟩
    · rintro σ' H' ⟨s8, o7, o8, rfl⟩
      exact ⟨D7.same s8, _, _, _, _, _, _, _, _, _, rfl⟩
  · rintro σ H1 ⟨D1, o2, o3, o4, o5, o6, o7, o8, o9, o10, rfl⟩
    -- four numbers, known
    refine fun x1 dx1 nx1 ndx1 _ => ?_
    change spInit C NX (V.ref x1 :: fiveV (0, 1, 0, 0, 1)) _ _ _
    refine init_ok2 (f := (0, 1, 0, 0, 1)) nx1 ndx1 ⟨by decide, by decide, by decide, by decide⟩ ⟨by decide, by decide, by decide, by decide⟩ fun H2 s2 n1 => ⟨rfl, ?_⟩
    refine fun x2 dx2 nx2 ndx2 _ => ?_
    change spInit C NX (V.ref x2 :: fiveV (3, 6, 0, 0, 1)) _ _ _
    refine init_ok2 (f := (3, 6, 0, 0, 1)) nx2 ndx2 ⟨by decide, by decide, by decide, by decide⟩ ⟨by decide, by decide, by decide, by decide⟩ fun H3 s3 n2 => ⟨rfl, ?_⟩
    refine ⟨rfl, rfl, fun x3 dx3 nx3 ndx3 _ => ?_⟩
    change spInit C NX (V.ref x3 :: fiveV (0, 1, 1, 2, 1)) _ _ _
    refine init_ok2 (f := (0, 1, 1, 2, 1)) nx3 ndx3 ⟨by decide, by decide, by decide, by decide⟩ ⟨by decide, by decide, by decide, by decide⟩ fun H4 s4 n3 => ⟨rfl, ?_⟩
    refine ⟨1, rfl, rfl, rfl, fun x4 dx4 nx4 ndx4 _ => ?_⟩
    change spInit C NX (V.ref x4 :: fiveV (1, 2, -1, 9, 4)) _ _ _
    refine init_ok2 (f := (1, 2, -1, 9, 4)) nx4 ndx4 ⟨by decide, by decide, by decide, by decide⟩ ⟨by decide, by decide, by decide, by decide⟩ fun H5 s5 n4 => ⟨rfl, ?_⟩
    rw [form_a] at n1
    rw [form_b] at n2
    rw [form_c] at n3
    rw [form_d] at n4
    refine ⟨(by show 4 ≤ sizeLine; decide), fun pl hpl => ?_⟩
    have s6 := same_new (o := HO.lst [V.ref x1, V.ref x2, V.ref x3, V.ref x4]) hpl
    have hpl6 : upd H5 pl (.lst [V.ref x1, V.ref x2, V.ref x3, V.ref x4]) pl = some (.lst [V.ref x1, V.ref x2, V.ref x3, V.ref x4]) := upd_same
    have m1 := (((n1.same s3).same s4).same s5).same s6
    have m2 := ((n2.same s4).same s5).same s6
    have m3 := (n3.same s5).same s6
    have m4 := n4.same s6
    generalize upd H5 pl (.lst [V.ref x1, V.ref x2, V.ref x3, V.ref x4]) = H6 at *
    -- what is due
    refine ⟨(by show 5 ≤ sizeLine; decide), fun u1 hu1 => ⟨(by show 5 ≤ sizeLine; decide), fun u2 hu2 => ⟨(by show 5 ≤ sizeLine; decide), fun u3 hu3 => ⟨1, rfl, (by show 5 ≤ sizeLine; decide), fun u4 hu4 => ⟨(by show 4 ≤ sizeLine; decide), fun ul hul => ?_⟩⟩⟩⟩⟩
    have r1 := same_new (o := HO.tup (fiveV (0, 1, 0, 0, 1))) hu1
    have r2 := same_new (o := HO.tup (fiveV (1, 2, 0, 0, 1))) hu2
    have r3 := same_new (o := HO.tup (fiveV (0, 1, 1, 2, 1))) hu3
    have r4 := same_new (o := HO.tup (fiveV (-1, 1, 0, 0, 1))) hu4
    have r5 := same_new (o := HO.lst [V.ref u1, V.ref u2, V.ref u3, V.ref u4]) hul
    obtain ⟨H7, e7⟩ : ∃ X, X = (upd (upd (upd (upd (upd H6 u1 (HO.tup (fiveV (0, 1, 0, 0, 1)))) u2 (HO.tup (fiveV (1, 2, 0, 0, 1)))) u3 (HO.tup (fiveV (0, 1, 1, 2, 1)))) u4 (HO.tup (fiveV (-1, 1, 0, 0, 1)))) ul (HO.lst [V.ref u1, V.ref u2, V.ref u3, V.ref u4])) := ⟨_, rfl⟩
    have g1 : H7 u1 = some (.tup (fiveV (0, 1, 0, 0, 1))) := by rw [e7]; exact (((r2.trans r3).trans r4).trans r5) _ _ (@upd_same H6 u1 (HO.tup (fiveV (0, 1, 0, 0, 1))))
    have g2 : H7 u2 = some (.tup (fiveV (1, 2, 0, 0, 1))) := by rw [e7]; exact ((r3.trans r4).trans r5) _ _ (@upd_same (upd H6 u1 (HO.tup (fiveV (0, 1, 0, 0, 1)))) u2 (HO.tup (fiveV (1, 2, 0, 0, 1))))
    have g3 : H7 u3 = some (.tup (fiveV (0, 1, 1, 2, 1))) := by rw [e7]; exact (r4.trans r5) _ _ (@upd_same (upd (upd H6 u1 (HO.tup (fiveV (0, 1, 0, 0, 1)))) u2 (HO.tup (fiveV (1, 2, 0, 0, 1)))) u3 (HO.tup (fiveV (0, 1, 1, 2, 1))))
    have g4 : H7 u4 = some (.tup (fiveV (-1, 1, 0, 0, 1))) := by rw [e7]; exact r5 _ _ (@upd_same (upd (upd (upd H6 u1 (HO.tup (fiveV (0, 1, 0, 0, 1)))) u2 (HO.tup (fiveV (1, 2, 0, 0, 1)))) u3 (HO.tup (fiveV (0, 1, 1, 2, 1)))) u4 (HO.tup (fiveV (-1, 1, 0, 0, 1))))
    have rr : Same H6 H7 := by rw [e7]; exact (((r1.trans r2).trans r3).trans r4).trans r5
    have hul' : H7 ul = some (.lst [V.ref u1, V.ref u2, V.ref u3, V.ref u4]) := by rw [e7]; exact upd_same
    have hpl7 := rr _ _ hpl6
    have m1 := m1.same rr
    have m2 := m2.same rr
    have m3 := m3.same rr
    have m4 := m4.same rr
    dsimp only [gName]
    change tRet _ _ _ (upd (upd (upd (upd (upd H6 u1 (HO.tup (fiveV (0, 1, 0, 0, 1)))) u2 (HO.tup (fiveV (1, 2, 0, 0, 1)))) u3 (HO.tup (fiveV (0, 1, 1, 2, 1)))) u4 (HO.tup (fiveV (-1, 1, 0, 0, 1)))) ul (HO.lst [V.ref u1, V.ref u2, V.ref u3, V.ref u4]))
    rw [← e7]
    clear e7
    refine ⟨_, rfl, pl, rfl, ⟨_, SqL.of hpl7⟩, fun L hL => ?_⟩
    refine lc_list (K := K) (a := pl) (xs := [V.ref x1, V.ref x2, V.ref x3, V.ref x4]) (fun i H' => Same H7 H' ∧ ∃ ts : List Addr, ts.length = i ∧ H' L = some (.lst (ts.map V.ref)) ∧
        ∀ (j : Nat) (t : Addr), ts[j]? = some t → ∃ g : Five, ([(0, 1, 0, 0, 1), (1, 2, 0, 0, 1), (0, 1, 1, 2, 1), (-1, 1, 0, 0, 1)] : List Five)[j]? = some g ∧ H' t = some (.tup (fiveV g)))
      ⟨same_new hL, [], rfl, upd_same, fun j t h => by simp at h⟩ (fun i H' _ ⟨e, _⟩ => SqL.of (e _ _ hpl7)) ?_ ?_
    · rintro i v H' hv ⟨s8, ts, hl, hLs, hts⟩
      have hb : ∃ (x : Addr) (g : Five), v = .ref x ∧ ([(0, 1, 0, 0, 1), (1, 2, 0, 0, 1), (0, 1, 1, 2, 1), (-1, 1, 0, 0, 1)] : List Five)[i]? = some g ∧ NumAt C H' x g := by
        match i, hv with
        | 0, hv => cases hv; exact ⟨_, _, rfl, rfl, m1.same s8⟩
        | 1, hv => cases hv; exact ⟨_, _, rfl, rfl, m2.same s8⟩
        | 2, hv => cases hv; exact ⟨_, _, rfl, rfl, m3.same s8⟩
        | 3, hv => cases hv; exact ⟨_, _, rfl, rfl, m4.same s8⟩
        | i + 4, hv => simp at hv
      obtain ⟨x, g, rfl, hg', dx, hdx⟩ := hb
      have hi4 : i < 4 := by
        have := (List.getElem?_eq_some_iff.mp hv).1
        exact this
      refine ⟨rfl, yes_if ?_⟩
      refine ⟨_, rfl, ?_⟩
      dsimp only [tNil, tC, tCons]
      refine ⟨x, dx, g, rfl, hdx, fun t ht => ?_⟩
      have s9 := same_new (o := HO.tup (fiveV g)) ht
      have hLt : L ≠ t := ne_of_none hLs ht
      refine ⟨_, s9 _ _ hLs, by rw [List.length_map, hl]; exact Nat.lt_of_lt_of_le hi4 (by decide), same_at (s8.trans s9) hL, ts ++ [t], by simp [hl], ?_, ?_⟩
      · rw [upd_same, List.map_append]
        rfl
      · intro j t' hj
        have keep : ∀ (t' : Addr) (ys : List V), upd H' t (.tup (fiveV g)) t' = some (.tup ys) → upd (upd H' t (.tup (fiveV g))) L (.lst (ts.map V.ref ++ [V.ref t])) t' = some (.tup ys) := by
          intro t' ys h'
          have : t' ≠ L := ne_of h' (s9 _ _ hLs) (by intro z; cases z)
          rw [upd_ne this]
          exact h'
        by_cases hlt : j < ts.length
        · rw [List.getElem?_append_left hlt] at hj
          obtain ⟨g', e1, e2⟩ := hts j t' hj
          exact ⟨g', e1, keep _ _ (s9 _ _ e2)⟩
        · rw [List.getElem?_append_right (by omega)] at hj
          have j0 : j - ts.length = 0 := by
            have := (List.getElem?_eq_some_iff.mp hj).1
            simp at this
            omega
          rw [j0] at hj
          cases hj
          have : j = i := by omega
          subst this
          exact ⟨g, hg', keep _ _ upd_same⟩
    · rintro H' ⟨s8, ts, hl, hLs, hts⟩
      match ts, hl with
      | [t1, t2, t3, t4], _ =>
      obtain ⟨_, e1, h1⟩ := hts 0 t1 rfl
      cases e1
      obtain ⟨_, e2, h2⟩ := hts 1 t2 rfl
      cases e2
      obtain ⟨_, e3, h3⟩ := hts 2 t3 rfl
      cases e3
      obtain ⟨_, e4, h4⟩ := hts 3 t4 rfl
      cases e4
      refine ⟨_, rfl, .list [fiveD (0, 1, 0, 0, 1), fiveD (1, 2, 0, 0, 1), fiveD (0, 1, 1, 2, 1), fiveD (-1, 1, 0, 0, 1)], .list [fiveD (0, 1, 0, 0, 1), fiveD (1, 2, 0, 0, 1), fiveD (0, 1, 1, 2, 1), fiveD (-1, 1, 0, 0, 1)],
        .lst (SqL.of hLs) (.cons (dp_five h1) (.cons (dp_five h2) (.cons (dp_five h3) (.cons (dp_five h4) .nil)))),
        .lst (SqL.of (s8 _ _ hul')) (.cons (dp_five (s8 _ _ g1)) (.cons (dp_five (s8 _ _ g2)) (.cons (dp_five (s8 _ _ g3)) (.cons (dp_five (s8 _ _ g4)) .nil)))), by decide +kernel, by decide +kernel, ?_⟩
      have e : PyData.eqv (.list [fiveD (0, 1, 0, 0, 1), fiveD (1, 2, 0, 0, 1), fiveD (0, 1, 1, 2, 1), fiveD (-1, 1, 0, 0, 1)]) (.list [fiveD (0, 1, 0, 0, 1), fiveD (1, 2, 0, 0, 1), fiveD (0, 1, 1, 2, 1), fiveD (-1, 1, 0, 0, 1)]) = true := by decide +kernel
      rw [e]
      exact kT _
end
end PH
namespace PH
open PySem PySem.Spec PyProof.Rows L2
theorem fns_mk {K : PySem.W.Frag} {h : Heap} {mg : Str → Option Value} {x : Str} {i : Nat} {ps : List Str} {f : Addr} {oc : Value} {od an : Option Addr} {osl : Array (Option Value)} {kV doc pm cdv ct : Value} (X : K.In h) (G : h.Ns mainGlobals mg)
    (a : PySem.W.nsIn K mainGlobals x = some (some (.ref f)))
    (l : K.lookup f = some ⟨oc, od, .func (PySem.W.fnOf x x (defArgs (topS i)) (defBody (topS i)) (defScope (topS i)) .none kV doc pm an cdv ct), osl⟩) (c : PySem.W.codeIn K cdv x = true) (k : PySem.W.keepIn K (.ref f) = true)
    (hb : ∀ (kV doc pm : Value) (an : Option Addr) (cdv ct : Value) (us : List Value), us.length = ps.length → bindArgs (PySem.W.fnOf x x (defArgs (topS i)) (defBody (topS i)) (defScope (topS i)) .none kV doc pm an cdv ct) ⟨us, []⟩ = pure (ps.zip us)) :
    Fns K mg f (PySem.W.fnOf x x (defArgs (topS i)) (defBody (topS i)) (defScope (topS i)) .none kV doc pm an cdv ct) x i ps :=
  ⟨fun_mk (st := topS i) l c k, (fun_mk (st := topS i) l c k).binds hb, PySem.W.mg_of X G a⟩
theorem all_mk {P : Program} {w : World} {K : PySem.W.Frag} {h : Heap} {mg : Str → Option Value} {fa : Addr} (X : K.In h) (G : h.Ns mainGlobals mg) (hfa : mg "law" = some (.ref fa))
    {f20 f22 f23 f26 f33 f34 f35 f36 f37 f38 f39 f40 f42 f43 f44 f45 f46 f47 f48 f49 f50 C fI TI DI NX PC q1 q2 q3 q4 q5 q6 q7 q8 q9 q10 q11 q12 q13 q14 : Addr} {od20 an20 od22 an22 od23 an23 od26 an26 od33 an33 od34 an34 od35 an35 od36 an36 od37 an37 od38 an38 od39 an39 od40 an40 od42 an42 od43 an43 od44 an44 od45 an45 od46 an46 od47 an47 od48 an48 od49 an49 od50 an50 odI anI odT : Option Addr} {sl20 sl22 sl23 sl26 sl33 sl34 sl35 sl36 sl37 sl38 sl39 sl40 sl42 sl43 sl44 sl45 sl46 sl47 sl48 sl49 sl50 slI slT : Array (Option Value)} {oc20 kV20 dc20 pm20 cd20 ct20 oc22 kV22 dc22 pm22 cd22 ct22 oc23 kV23 dc23 pm23 cd23 ct23 oc26 kV26 dc26 pm26 cd26 ct26 oc33 kV33 dc33 pm33 cd33 ct33 oc34 kV34 dc34 pm34 cd34 ct34 oc35 kV35 dc35 pm35 cd35 ct35 oc36 kV36 dc36 pm36 cd36 ct36 oc37 kV37 dc37 pm37 cd37 ct37 oc38 kV38 dc38 pm38 cd38 ct38 oc39 kV39 dc39 pm39 cd39 ct39 oc40 kV40 dc40 pm40 cd40 ct40 oc42 kV42 dc42 pm42 cd42 ct42 oc43 kV43 dc43 pm43 cd43 ct43 oc44 kV44 dc44 pm44 cd44 ct44 oc45 kV45 dc45 pm45 cd45 ct45 oc46 kV46 dc46 pm46 cd46 ct46 oc47 kV47 dc47 pm47 cd47 ct47 oc48 kV48 dc48 pm48 cd48 ct48 oc49 kV49 dc49 pm49 cd49 ct49 oc50 kV50 dc50 pm50 cd50 ct50 ocI dcI pmI cdI ctI ocT : Value} {tkT tksign tkover tkunder : Tok} {nT : Nat}
    (a20 : PySem.W.nsIn K mainGlobals "is_whole" = some (some (.ref f20)))
    (l20 : K.lookup f20 = some ⟨oc20, od20, .func (PySem.W.fnOf "is_whole" "is_whole" (defArgs (topS 20)) (defBody (topS 20)) (defScope (topS 20)) .none kV20 dc20 pm20 an20 cd20 ct20), sl20⟩)
    (c20 : PySem.W.codeIn K cd20 "is_whole" = true)
    (k20 : PySem.W.keepIn K (.ref f20) = true)
    (a22 : PySem.W.nsIn K mainGlobals "lowest_terms" = some (some (.ref f22)))
    (l22 : K.lookup f22 = some ⟨oc22, od22, .func (PySem.W.fnOf "lowest_terms" "lowest_terms" (defArgs (topS 22)) (defBody (topS 22)) (defScope (topS 22)) .none kV22 dc22 pm22 an22 cd22 ct22), sl22⟩)
    (c22 : PySem.W.codeIn K cd22 "lowest_terms" = true)
    (k22 : PySem.W.keepIn K (.ref f22) = true)
    (a23 : PySem.W.nsIn K mainGlobals "is_square" = some (some (.ref f23)))
    (l23 : K.lookup f23 = some ⟨oc23, od23, .func (PySem.W.fnOf "is_square" "is_square" (defArgs (topS 23)) (defBody (topS 23)) (defScope (topS 23)) .none kV23 dc23 pm23 an23 cd23 ct23), sl23⟩)
    (c23 : PySem.W.codeIn K cd23 "is_square" = true)
    (k23 : PySem.W.keepIn K (.ref f23) = true)
    (a26 : PySem.W.nsIn K mainGlobals "are_fields" = some (some (.ref f26)))
    (l26 : K.lookup f26 = some ⟨oc26, od26, .func (PySem.W.fnOf "are_fields" "are_fields" (defArgs (topS 26)) (defBody (topS 26)) (defScope (topS 26)) .none kV26 dc26 pm26 an26 cd26 ct26), sl26⟩)
    (c26 : PySem.W.codeIn K cd26 "are_fields" = true)
    (k26 : PySem.W.keepIn K (.ref f26) = true)
    (a33 : PySem.W.nsIn K mainGlobals "_law_deck" = some (some (.ref f33)))
    (l33 : K.lookup f33 = some ⟨oc33, od33, .func (PySem.W.fnOf "_law_deck" "_law_deck" (defArgs (topS 33)) (defBody (topS 33)) (defScope (topS 33)) .none kV33 dc33 pm33 an33 cd33 ct33), sl33⟩)
    (c33 : PySem.W.codeIn K cd33 "_law_deck" = true)
    (k33 : PySem.W.keepIn K (.ref f33) = true)
    (a34 : PySem.W.nsIn K mainGlobals "_law_draw" = some (some (.ref f34)))
    (l34 : K.lookup f34 = some ⟨oc34, od34, .func (PySem.W.fnOf "_law_draw" "_law_draw" (defArgs (topS 34)) (defBody (topS 34)) (defScope (topS 34)) .none kV34 dc34 pm34 an34 cd34 ct34), sl34⟩)
    (c34 : PySem.W.codeIn K cd34 "_law_draw" = true)
    (k34 : PySem.W.keepIn K (.ref f34) = true)
    (a35 : PySem.W.nsIn K mainGlobals "_law_lowest" = some (some (.ref f35)))
    (l35 : K.lookup f35 = some ⟨oc35, od35, .func (PySem.W.fnOf "_law_lowest" "_law_lowest" (defArgs (topS 35)) (defBody (topS 35)) (defScope (topS 35)) .none kV35 dc35 pm35 an35 cd35 ct35), sl35⟩)
    (c35 : PySem.W.codeIn K cd35 "_law_lowest" = true)
    (k35 : PySem.W.keepIn K (.ref f35) = true)
    (a36 : PySem.W.nsIn K mainGlobals "_law_square_root" = some (some (.ref f36)))
    (l36 : K.lookup f36 = some ⟨oc36, od36, .func (PySem.W.fnOf "_law_square_root" "_law_square_root" (defArgs (topS 36)) (defBody (topS 36)) (defScope (topS 36)) .none kV36 dc36 pm36 an36 cd36 ct36), sl36⟩)
    (c36 : PySem.W.codeIn K cd36 "_law_square_root" = true)
    (k36 : PySem.W.keepIn K (.ref f36) = true)
    (a37 : PySem.W.nsIn K mainGlobals "_law_root" = some (some (.ref f37)))
    (l37 : K.lookup f37 = some ⟨oc37, od37, .func (PySem.W.fnOf "_law_root" "_law_root" (defArgs (topS 37)) (defBody (topS 37)) (defScope (topS 37)) .none kV37 dc37 pm37 an37 cd37 ct37), sl37⟩)
    (c37 : PySem.W.codeIn K cd37 "_law_root" = true)
    (k37 : PySem.W.keepIn K (.ref f37) = true)
    (a38 : PySem.W.nsIn K mainGlobals "_law_form" = some (some (.ref f38)))
    (l38 : K.lookup f38 = some ⟨oc38, od38, .func (PySem.W.fnOf "_law_form" "_law_form" (defArgs (topS 38)) (defBody (topS 38)) (defScope (topS 38)) .none kV38 dc38 pm38 an38 cd38 ct38), sl38⟩)
    (c38 : PySem.W.codeIn K cd38 "_law_form" = true)
    (k38 : PySem.W.keepIn K (.ref f38) = true)
    (a39 : PySem.W.nsIn K mainGlobals "_law_whole" = some (some (.ref f39)))
    (l39 : K.lookup f39 = some ⟨oc39, od39, .func (PySem.W.fnOf "_law_whole" "_law_whole" (defArgs (topS 39)) (defBody (topS 39)) (defScope (topS 39)) .none kV39 dc39 pm39 an39 cd39 ct39), sl39⟩)
    (c39 : PySem.W.codeIn K cd39 "_law_whole" = true)
    (k39 : PySem.W.keepIn K (.ref f39) = true)
    (a40 : PySem.W.nsIn K mainGlobals "_law_five" = some (some (.ref f40)))
    (l40 : K.lookup f40 = some ⟨oc40, od40, .func (PySem.W.fnOf "_law_five" "_law_five" (defArgs (topS 40)) (defBody (topS 40)) (defScope (topS 40)) .none kV40 dc40 pm40 an40 cd40 ct40), sl40⟩)
    (c40 : PySem.W.codeIn K cd40 "_law_five" = true)
    (k40 : PySem.W.keepIn K (.ref f40) = true)
    (a42 : PySem.W.nsIn K mainGlobals "_law_made" = some (some (.ref f42)))
    (l42 : K.lookup f42 = some ⟨oc42, od42, .func (PySem.W.fnOf "_law_made" "_law_made" (defArgs (topS 42)) (defBody (topS 42)) (defScope (topS 42)) .none kV42 dc42 pm42 an42 cd42 ct42), sl42⟩)
    (c42 : PySem.W.codeIn K cd42 "_law_made" = true)
    (k42 : PySem.W.keepIn K (.ref f42) = true)
    (a43 : PySem.W.nsIn K mainGlobals "_law_fields" = some (some (.ref f43)))
    (l43 : K.lookup f43 = some ⟨oc43, od43, .func (PySem.W.fnOf "_law_fields" "_law_fields" (defArgs (topS 43)) (defBody (topS 43)) (defScope (topS 43)) .none kV43 dc43 pm43 an43 cd43 ct43), sl43⟩)
    (c43 : PySem.W.codeIn K cd43 "_law_fields" = true)
    (k43 : PySem.W.keepIn K (.ref f43) = true)
    (a44 : PySem.W.nsIn K mainGlobals "_law_is" = some (some (.ref f44)))
    (l44 : K.lookup f44 = some ⟨oc44, od44, .func (PySem.W.fnOf "_law_is" "_law_is" (defArgs (topS 44)) (defBody (topS 44)) (defScope (topS 44)) .none kV44 dc44 pm44 an44 cd44 ct44), sl44⟩)
    (c44 : PySem.W.codeIn K cd44 "_law_is" = true)
    (k44 : PySem.W.keepIn K (.ref f44) = true)
    (a45 : PySem.W.nsIn K mainGlobals "_law_by_names" = some (some (.ref f45)))
    (l45 : K.lookup f45 = some ⟨oc45, od45, .func (PySem.W.fnOf "_law_by_names" "_law_by_names" (defArgs (topS 45)) (defBody (topS 45)) (defScope (topS 45)) .none kV45 dc45 pm45 an45 cd45 ct45), sl45⟩)
    (c45 : PySem.W.codeIn K cd45 "_law_by_names" = true)
    (k45 : PySem.W.keepIn K (.ref f45) = true)
    (a46 : PySem.W.nsIn K mainGlobals "_law_is_right" = some (some (.ref f46)))
    (l46 : K.lookup f46 = some ⟨oc46, od46, .func (PySem.W.fnOf "_law_is_right" "_law_is_right" (defArgs (topS 46)) (defBody (topS 46)) (defScope (topS 46)) .none kV46 dc46 pm46 an46 cd46 ct46), sl46⟩)
    (c46 : PySem.W.codeIn K cd46 "_law_is_right" = true)
    (k46 : PySem.W.keepIn K (.ref f46) = true)
    (a47 : PySem.W.nsIn K mainGlobals "_law_great" = some (some (.ref f47)))
    (l47 : K.lookup f47 = some ⟨oc47, od47, .func (PySem.W.fnOf "_law_great" "_law_great" (defArgs (topS 47)) (defBody (topS 47)) (defScope (topS 47)) .none kV47 dc47 pm47 an47 cd47 ct47), sl47⟩)
    (c47 : PySem.W.codeIn K cd47 "_law_great" = true)
    (k47 : PySem.W.keepIn K (.ref f47) = true)
    (a48 : PySem.W.nsIn K mainGlobals "_law_odd" = some (some (.ref f48)))
    (l48 : K.lookup f48 = some ⟨oc48, od48, .func (PySem.W.fnOf "_law_odd" "_law_odd" (defArgs (topS 48)) (defBody (topS 48)) (defScope (topS 48)) .none kV48 dc48 pm48 an48 cd48 ct48), sl48⟩)
    (c48 : PySem.W.codeIn K cd48 "_law_odd" = true)
    (k48 : PySem.W.keepIn K (.ref f48) = true)
    (a49 : PySem.W.nsIn K mainGlobals "_law_told" = some (some (.ref f49)))
    (l49 : K.lookup f49 = some ⟨oc49, od49, .func (PySem.W.fnOf "_law_told" "_law_told" (defArgs (topS 49)) (defBody (topS 49)) (defScope (topS 49)) .none kV49 dc49 pm49 an49 cd49 ct49), sl49⟩)
    (c49 : PySem.W.codeIn K cd49 "_law_told" = true)
    (k49 : PySem.W.keepIn K (.ref f49) = true)
    (a50 : PySem.W.nsIn K mainGlobals "law" = some (some (.ref f50)))
    (l50 : K.lookup f50 = some ⟨oc50, od50, .func (PySem.W.fnOf "law" "law" (defArgs (topS 50)) (defBody (topS 50)) (defScope (topS 50)) .none kV50 dc50 pm50 an50 cd50 ct50), sl50⟩)
    (c50 : PySem.W.codeIn K cd50 "law" = true)
    (k50 : PySem.W.keepIn K (.ref f50) = true)
    (aC : PySem.W.nsIn K mainGlobals "Exact" = some (some (.ref C)))
    (iC : PySem.W.findIn K (.ref C) "__init__" = some (some (.ref fI)))
    (iF : PySem.W.isFn K (.ref fI) = true)
    (lI : K.lookup fI = some ⟨ocI, odI, .func (PySem.W.fnOf "__init__" "Exact.__init__" (defArgs sInit) (defBody sInit) (defScope sInit) (.ref TI) (.ref DI) dcI pmI anI cdI ctI), slI⟩)
    (cI : PySem.W.codeIn K cdI "Exact.__init__" = true)
    (kI : PySem.W.keepIn K (.ref fI) = true)
    (lT : K.lookup TI = some ⟨ocT, odT, .seq #[.int 1 tkT] nT, slT⟩)
    (dsign : PySem.W.nsIn K DI "sign" = some (some (.int 0 tksign)))
    (dover : PySem.W.nsIn K DI "over" = some (some (.int 0 tkover)))
    (dunder : PySem.W.nsIn K DI "under" = some (some (.int 1 tkunder)))
    (pgC : PySem.W.plainGet K C Str.empty = true)
    (hdC : PySem.W.hasDictIn K C = true)
    (poC : PySem.W.plainOver K C = true)
    (saC : PySem.W.findIn K (.ref C) "__setattr__" = some (some (.builtin "object.__setattr__")))
    (mkC : PySem.W.makesIn K C = true)
    (kcC : PySem.W.keepIn K (.ref C) = true)
    (ntop : PySem.W.findIn K (.ref C) "top" = some none)
    (nbottom : PySem.W.findIn K (.ref C) "bottom" = some none)
    (nsign : PySem.W.findIn K (.ref C) "sign" = some none)
    (nover : PySem.W.findIn K (.ref C) "over" = some none)
    (nunder : PySem.W.findIn K (.ref C) "under" = some none)
    (haC : PySem.W.findIn K (.ref C) "__class__" = some (some (.builtin "object.__class__")))
    (hnC : PySem.W.specialIn K (.builtin "object.__class__") "__get__" = some (some (.builtin "getset_descriptor.__get__")))
    (htC : PySem.W.takesIn K (.builtin "object.__class__") = some true)
    (hmC : PySem.W.mroIn K C (.type "object") = some true)
    (kiC : PySem.W.kitOne K (.ref C) (.type "int") = some false)
    (kcc : PySem.W.kitOne K (.ref C) (.ref C) = some true)
    (kbC : PySem.W.kitOne K (.ref C) (.type "bool") = some false)
    (aN : PySem.W.nsIn K mainGlobals "NoExact" = some (some (.ref NX)))
    (xN : PySem.W.excIn K NX [.type "ValueError", .type "Exception", .type "BaseException", .type "object"] "ValueError.__new__" = true)
    (kN : PySem.W.keepIn K (.ref NX) = true)
    (bN : PySem.W.subIn K (.ref NX) (.type "BaseException") = some true)
    (tN : PySem.W.typeIn K (.ref NX) = some (.type "type"))
    (egN : PySem.W.findIn K (.ref NX) "__getattribute__" = some (some (.builtin "BaseException.__getattribute__")))
    (ekN : PySem.W.findIn K (.ref NX) "__getattr__" = some none)
    (edN : PySem.W.hasDictIn K NX = true)
    (eaN : PySem.W.findIn K (.ref NX) "__class__" = some (some (.builtin "object.__class__")))
    (emN : PySem.W.mroIn K NX (.type "object") = some true)
    (aP : PySem.W.nsIn K mainGlobals "PointError" = some (some (.ref PC)))
    (bP : PySem.W.subIn K (.ref PC) (.type "BaseException") = some true)
    (dP : PySem.W.hasDictIn K PC = true)
    (tP : PySem.W.typeIn K (.ref PC) = some (.type "type"))
    (sP : PySem.W.subIn K (.ref NX) (.ref PC) = some true)
    (m1 : PySem.W.nsIn K mainGlobals "NoText" = some (some (.ref q1)))
    (m2 : PySem.W.nsIn K mainGlobals "NoLine" = some (some (.ref q2)))
    (m3 : PySem.W.nsIn K mainGlobals "NoRow" = some (some (.ref q3)))
    (m4 : PySem.W.nsIn K mainGlobals "NoBack" = some (some (.ref q4)))
    (m5 : PySem.W.nsIn K mainGlobals "TwoRoots" = some (some (.ref q5)))
    (m6 : PySem.W.nsIn K mainGlobals "NotPlain" = some (some (.ref q6)))
    (m7 : PySem.W.nsIn K mainGlobals "NeverDone" = some (some (.ref q7)))
    (m8 : PySem.W.nsIn K mainGlobals "NoDeed" = some (some (.ref q8)))
    (m9 : PySem.W.nsIn K mainGlobals "NoFit" = some (some (.ref q9)))
    (m10 : PySem.W.nsIn K mainGlobals "Taken" = some (some (.ref q10)))
    (m11 : PySem.W.nsIn K mainGlobals "Undone" = some (some (.ref q11)))
    (m12 : PySem.W.nsIn K mainGlobals "NoBottom" = some (some (.ref q12)))
    (m13 : PySem.W.nsIn K mainGlobals "NoWay" = some (some (.ref q13)))
    (m14 : PySem.W.nsIn K mainGlobals "Missing" = some (some (.ref q14)))
    (y1 : PySem.W.kitAny K (.ref NX) [.ref q1, .ref q2, .ref q3, .ref q4, .ref q5, .ref q6, .ref q7, .ref q8, .ref q9, .ref q10] = some false)
    (y2 : PySem.W.kitAny K (.ref NX) [.ref q11, .ref q12, .ref q13, .ref q14] = some false)
    (y3 : PySem.W.kitOne K (.ref NX) (.ref NX) = some true)
    (y4 : PySem.W.kitOne K (.ref NX) (.type "ValueError") = some true)
    (zisinstance : PySem.W.nsIn K mainGlobals "isinstance" = some none)
    (zint : PySem.W.nsIn K mainGlobals "int" = some none)
    (zbool : PySem.W.nsIn K mainGlobals "bool" = some none)
    (zall : PySem.W.nsIn K mainGlobals "all" = some none)
    (zabs : PySem.W.nsIn K mainGlobals "abs" = some none)
    (zlist : PySem.W.nsIn K mainGlobals "list" = some none)
    (zsum : PySem.W.nsIn K mainGlobals "sum" = some none)
    (zmin : PySem.W.nsIn K mainGlobals "min" = some none)
    (zrange : PySem.W.nsIn K mainGlobals "range" = some none)
    (zrepr : PySem.W.nsIn K mainGlobals "repr" = some none)
    (zValueError : PySem.W.nsIn K mainGlobals "ValueError" = some none)
    (zgcd : PySem.W.nsIn K mainGlobals "gcd" = some (some (.builtin "math.gcd")))
    (zisqrt : PySem.W.nsIn K mainGlobals "isqrt" = some (some (.builtin "math.isqrt"))) :
    ∃ fd : FuncData, (∀ (s : Shared) (v : Value), BindsTo s fd ⟨[v], []⟩ [("_law_script", v)]) ∧ ∀ base : Heap, K.In base → base.Ns mainGlobals mg → FnG P w K mg base CX0 7 fa fd ["_law_script"] (spLaw K) := by
  have e := hfa.symm.trans (PySem.W.mg_of X G a50)
  cases e
  have N20 := fns_mk (i := 20) (ps := ["thing"]) X G a20 l20 c20 k20 fun _ _ _ _ _ _ us hl => match us, hl with | [_], _ => rfl
  have N22 := fns_mk (i := 22) (ps := ["top", "bottom"]) X G a22 l22 c22 k22 fun _ _ _ _ _ _ us hl => match us, hl with | [_, _], _ => rfl
  have N23 := fns_mk (i := 23) (ps := ["number"]) X G a23 l23 c23 k23 fun _ _ _ _ _ _ us hl => match us, hl with | [_], _ => rfl
  have N26 := fns_mk (i := 26) (ps := ["top", "bottom", "sign", "over", "under"]) X G a26 l26 c26 k26 fun _ _ _ _ _ _ us hl => match us, hl with | [_, _, _, _, _], _ => rfl
  have N33 := fns_mk (i := 33) (ps := ["_law_script"]) X G a33 l33 c33 k33 fun _ _ _ _ _ _ us hl => match us, hl with | [_], _ => rfl
  have N34 := fns_mk (i := 34) (ps := ["_law_deck_here", "_law_many"]) X G a34 l34 c34 k34 fun _ _ _ _ _ _ us hl => match us, hl with | [_, _], _ => rfl
  have N35 := fns_mk (i := 35) (ps := ["_law_upper", "_law_lower"]) X G a35 l35 c35 k35 fun _ _ _ _ _ _ us hl => match us, hl with | [_, _], _ => rfl
  have N36 := fns_mk (i := 36) (ps := ["_law_number"]) X G a36 l36 c36 k36 fun _ _ _ _ _ _ us hl => match us, hl with | [_], _ => rfl
  have N37 := fns_mk (i := 37) (ps := ["_law_pair"]) X G a37 l37 c37 k37 fun _ _ _ _ _ _ us hl => match us, hl with | [_], _ => rfl
  have N38 := fns_mk (i := 38) (ps := ["_law_upper", "_law_lower", "_law_mark", "_law_aloft", "_law_beneath"]) X G a38 l38 c38 k38 fun _ _ _ _ _ _ us hl => match us, hl with | [_, _, _, _, _], _ => rfl
  have N39 := fns_mk (i := 39) (ps := ["_law_deck_here"]) X G a39 l39 c39 k39 fun _ _ _ _ _ _ us hl => match us, hl with | [_], _ => rfl
  have N40 := fns_mk (i := 40) (ps := ["_law_deck_here"]) X G a40 l40 c40 k40 fun _ _ _ _ _ _ us hl => match us, hl with | [_], _ => rfl
  have N42 := fns_mk (i := 42) (ps := ["_law_five_here"]) X G a42 l42 c42 k42 fun _ _ _ _ _ _ us hl => match us, hl with | [_], _ => rfl
  have N43 := fns_mk (i := 43) (ps := ["_law_number"]) X G a43 l43 c43 k43 fun _ _ _ _ _ _ us hl => match us, hl with | [_], _ => rfl
  have N44 := fns_mk (i := 44) (ps := ["_law_found", "_law_due"]) X G a44 l44 c44 k44 fun _ _ _ _ _ _ us hl => match us, hl with | [_, _], _ => rfl
  have N45 := fns_mk (i := 45) (ps := ["_law_deck_here", "_law_five_here"]) X G a45 l45 c45 k45 fun _ _ _ _ _ _ us hl => match us, hl with | [_, _], _ => rfl
  have N46 := fns_mk (i := 46) (ps := ["_law_five_here"]) X G a46 l46 c46 k46 fun _ _ _ _ _ _ us hl => match us, hl with | [_], _ => rfl
  have N47 := fns_mk (i := 47) (ps := ["_law_deck_here"]) X G a47 l47 c47 k47 fun _ _ _ _ _ _ us hl => match us, hl with | [_], _ => rfl
  have N48 := fns_mk (i := 48) (ps := ["_law_deck_here", "_law_five_here"]) X G a48 l48 c48 k48 fun _ _ _ _ _ _ us hl => match us, hl with | [_, _], _ => rfl
  have N49 := fns_mk (i := 49) (ps := ["_law_five_here"]) X G a49 l49 c49 k49 fun _ _ _ _ _ _ us hl => match us, hl with | [_], _ => rfl
  have N50 := fns_mk (i := 50) (ps := ["_law_script"]) X G a50 l50 c50 k50 fun _ _ _ _ _ _ us hl => match us, hl with | [_], _ => rfl
  have T : TEx K mg C := ⟨⟨pgC, hdC, poC, saC⟩, ntop, nbottom, nsign, nover, nunder, PySem.W.mg_of X G aC, haC, hnC, htC, hmC, kiC, kcc, kbC⟩
  have I : TIs mg := ⟨PySem.W.mg_none_of X G zisinstance, PySem.W.mg_none_of X G zint, PySem.W.mg_none_of X G zbool⟩
  have N : TNo P K mg NX [] := ⟨PySem.W.mg_of X G aN, xN, kN, bN, tN⟩
  have TT : TTold K mg NX PC q1 q2 q3 q4 q5 q6 q7 q8 q9 q10 q11 q12 q13 q14 :=
    ⟨PySem.W.mg_of X G aP, PySem.W.exm_ref bP dP tP sP, PySem.W.mg_of X G m1, PySem.W.mg_of X G m2, PySem.W.mg_of X G m3, PySem.W.mg_of X G m4, PySem.W.mg_of X G m5, PySem.W.mg_of X G m6, PySem.W.mg_of X G m7, PySem.W.mg_of X G m8, PySem.W.mg_of X G m9, PySem.W.mg_of X G m10,
      PySem.W.mg_of X G m11, PySem.W.mg_of X G m12, PySem.W.mg_of X G m13, PySem.W.mg_of X G m14, PySem.W.mg_none_of X G zValueError, ⟨egN, ekN, bN, edN, eaN, hnC, htC, emN⟩, y1, y2, y3, y4⟩
  have FI : InitD K fI (PySem.W.fnOf "__init__" "Exact.__init__" (defArgs sInit) (defBody sInit) (defScope sInit) (.ref TI) (.ref DI) dcI pmI anI cdI ctI) := by
    refine ⟨⟨ocI, odI, .ref TI, .ref DI, dcI, pmI, anI, cdI, ctI, slI, rfl, lI, cI, .inr ⟨by simp, TI, _, [.int 1 tkT], nT, rfl, lT, rfl, .cons ⟨tkT, rfl⟩ .nil⟩, .inr ⟨DI, rfl, ?_⟩⟩, kI⟩
    intro q hq
    simp only [List.mem_cons, List.not_mem_nil, or_false] at hq
    rcases hq with rfl | rfl | rfl
    · exact ⟨_, dsign, ⟨_, rfl⟩⟩
    · exact ⟨_, dover, ⟨_, rfl⟩⟩
    · exact ⟨_, dunder, ⟨_, rfl⟩⟩
  have M : Mk K C fI := ⟨mkC, iC, iF, kcC⟩
  have mG := PySem.W.mg_of X G zgcd
  have mS := PySem.W.mg_of X G zisqrt
  have zz : ∀ {n : Str}, PySem.W.nsIn K mainGlobals n = some none → mg n = none := fun z => PySem.W.mg_none_of X G z
  refine ⟨PySem.W.fnOf "law" "law" (defArgs (topS 50)) (defBody (topS 50)) (defScope (topS 50)) .none kV50 dc50 pm50 an50 cd50 ct50, fun s v => .of_eq rfl, fun base _ _ => ?_⟩
  have GL : FnOk P w K mg base CX0 1 f22 _ ["top", "bottom"] spLow := ok_low N22.F mG
  have GS : FnOk P w K mg base CX0 1 f23 _ ["number"] spSq := ok_sq N23.F mS
  have GF : FnOk P w K mg base CX0 2 f26 _ ["top", "bottom", "sign", "over", "under"] (spFields C) := ok_fields N26.F T I (zz zall) N20.F N20.b N20.m
  have GI : GInit P w K mg base C NX fI _ := ok_init FI T N mS GF N26 GL N22 GS N23
  have GD : GDraw P w K mg base f34 _ := ok_draw N34.F
  have GW : FnOk P w K mg base CX0 2 f39 _ ["_law_deck_here"] spWholeL := ok_wholeL N39.F GD N34
  have GLo : FnOk P w K mg base CX0 1 f35 _ ["_law_upper", "_law_lower"] spLowest := ok_lowest N35.F (zz zabs) (zz zint)
  have GRo : FnOk P w K mg base CX0 2 f37 _ ["_law_pair"] spRoot := ok_root N37.F N36
  have GM : FnOk P w K mg base (L2.CX P w) 5 f42 _ ["_law_five_here"] (spMade C NX) := ok_made N42.F T M FI GI
  exact ok_law N50.F T (zz zrange) (zz zrepr)
    { gdk := ok_deck N33.F (zz zlist) (zz zsum), ndk := N33, gfv := ok_five N40.F GD N34 GW N39 (zz zmin), nfv := N40, ggr := ok_great N47.F GD N34 (zz zrange), ngr := N47,
      gfm := ok_form N38.F GLo N35 GRo N37, nfm := N38, gmd := GM, nmd := N42, gby := ok_byN N45.F T M FI GI GD N34, nby := N45, gis := ok_is N44.F T I (zz zrepr) N43, nis := N44,
      god := ok_odd N48.F T I M FI GI GD N34, nod := N48, gir := ok_isR N46.F T I, nir := N46, gtd := ok_told N49.F T TT N I.is (zz zrepr) N43 GM N42, ntd := N49, gfl := ok_flds N43.F T, nfl := N43, FI := FI, GI := GI, M := M }
end PH
open PySem PySem.W PyProof.Rows
set_option maxRecDepth 100000 in
set_option maxHeartbeats 0 in
theorem PySem.Challenge.cw_pointhouse_k01_exacts_made_and_refused_holds : PySem.Challenge.rw_pointhouse_k01_exacts_made_and_refused.Holds := by
  w_on; o_law; k_head; (case hw => w_witness2)
  k_fill
  refine PH.walk_G (l := PySem.Challenge.rw_pointhouse_k01_exacts_made_and_refused) (n := 63) (k := 7) (x := "_law_script") (sp := PH.spLaw) rfl (by decide) rfl ⟨rfl, by decide, by decide⟩ (fun w h Y => PySem.W.kIn_of Y) ?F (fun K H a ns hl _ hS => ⟨a, ns, rfl, hS, hl, fun _ => rfl⟩)
  case F =>
    intro w mg fa h KX G hmg
    refine' PH.all_mk KX G hmg ?a20 ?l20 ?c20 ?k20 ?a22 ?l22 ?c22 ?k22 ?a23 ?l23 ?c23 ?k23 ?a26 ?l26 ?c26 ?k26 ?a33 ?l33 ?c33 ?k33 ?a34 ?l34 ?c34 ?k34 ?a35 ?l35 ?c35 ?k35 ?a36 ?l36 ?c36 ?k36 ?a37 ?l37 ?c37 ?k37 ?a38 ?l38 ?c38 ?k38 ?a39 ?l39 ?c39 ?k39 ?a40 ?l40 ?c40 ?k40 ?a42 ?l42 ?c42 ?k42 ?a43 ?l43 ?c43 ?k43 ?a44 ?l44 ?c44 ?k44 ?a45 ?l45 ?c45 ?k45 ?a46 ?l46 ?c46 ?k46 ?a47 ?l47 ?c47 ?k47 ?a48 ?l48 ?c48 ?k48 ?a49 ?l49 ?c49 ?k49 ?a50 ?l50 ?c50 ?k50 ?aC ?iC ?iF ?lI ?cI ?kI ?lT ?dsign ?dover ?dunder ?pgC ?hdC ?poC ?saC ?mkC ?kcC ?ntop ?nbottom ?nsign ?nover ?nunder ?haC ?hnC ?htC ?hmC ?kiC ?kcc ?kbC ?aN ?xN ?kN ?bN ?tN ?egN ?ekN ?edN ?eaN ?emN ?aP ?bP ?dP ?tP ?sP ?m1 ?m2 ?m3 ?m4 ?m5 ?m6 ?m7 ?m8 ?m9 ?m10 ?m11 ?m12 ?m13 ?m14 ?y1 ?y2 ?y3 ?y4 ?zisinstance ?zint ?zbool ?zall ?zabs ?zlist ?zsum ?zmin ?zrange ?zrepr ?zValueError ?zgcd ?zisqrt
    (case a20 => k_is)
    (case l20 => k_is)
    (case c20 => k_is)
    (case k20 => k_is)
    (case a22 => k_is)
    (case l22 => k_is)
    (case c22 => k_is)
    (case k22 => k_is)
    (case a23 => k_is)
    (case l23 => k_is)
    (case c23 => k_is)
    (case k23 => k_is)
    (case a26 => k_is)
    (case l26 => k_is)
    (case c26 => k_is)
    (case k26 => k_is)
    (case a33 => k_is)
    (case l33 => k_is)
    (case c33 => k_is)
    (case k33 => k_is)
    (case a34 => k_is)
    (case l34 => k_is)
    (case c34 => k_is)
    (case k34 => k_is)
    (case a35 => k_is)
    (case l35 => k_is)
    (case c35 => k_is)
    (case k35 => k_is)
    (case a36 => k_is)
    (case l36 => k_is)
    (case c36 => k_is)
    (case k36 => k_is)
    (case a37 => k_is)
    (case l37 => k_is)
    (case c37 => k_is)
    (case k37 => k_is)
    (case a38 => k_is)
    (case l38 => k_is)
    (case c38 => k_is)
    (case k38 => k_is)
    (case a39 => k_is)
    (case l39 => k_is)
    (case c39 => k_is)
    (case k39 => k_is)
    (case a40 => k_is)
    (case l40 => k_is)
    (case c40 => k_is)
    (case k40 => k_is)
    (case a42 => k_is)
    (case l42 => k_is)
    (case c42 => k_is)
    (case k42 => k_is)
    (case a43 => k_is)
    (case l43 => k_is)
    (case c43 => k_is)
    (case k43 => k_is)
    (case a44 => k_is)
    (case l44 => k_is)
    (case c44 => k_is)
    (case k44 => k_is)
    (case a45 => k_is)
    (case l45 => k_is)
    (case c45 => k_is)
    (case k45 => k_is)
    (case a46 => k_is)
    (case l46 => k_is)
    (case c46 => k_is)
    (case k46 => k_is)
    (case a47 => k_is)
    (case l47 => k_is)
    (case c47 => k_is)
    (case k47 => k_is)
    (case a48 => k_is)
    (case l48 => k_is)
    (case c48 => k_is)
    (case k48 => k_is)
    (case a49 => k_is)
    (case l49 => k_is)
    (case c49 => k_is)
    (case k49 => k_is)
    (case a50 => k_is)
    (case l50 => k_is)
    (case c50 => k_is)
    (case k50 => k_is)
    (case aC => k_is)
    (case iC => k_is)
    (case iF => k_is)
    (case lI => k_is)
    (case cI => k_is)
    (case kI => k_is)
    (case lT => k_is)
    (case dsign => k_is)
    (case dover => k_is)
    (case dunder => k_is)
    (case pgC => k_is)
    (case hdC => k_is)
    (case poC => k_is)
    (case saC => k_is)
    (case mkC => k_is)
    (case kcC => k_is)
    (case ntop => k_is)
    (case nbottom => k_is)
    (case nsign => k_is)
    (case nover => k_is)
    (case nunder => k_is)
    (case haC => k_is)
    (case hnC => k_is)
    (case htC => k_is)
    (case hmC => k_is)
    (case kiC => kit_is)
    (case kcc => kit_is)
    (case kbC => kit_is)
    (case aN => k_is)
    (case xN => k_exc)
    (case kN => k_is)
    (case bN => k_is)
    (case tN => k_is)
    (case egN => k_is)
    (case ekN => k_is)
    (case edN => k_is)
    (case eaN => k_is)
    (case emN => k_is)
    (case aP => k_is)
    (case bP => k_is)
    (case dP => k_is)
    (case tP => k_is)
    (case sP => k_is)
    (case m1 => k_is)
    (case m2 => k_is)
    (case m3 => k_is)
    (case m4 => k_is)
    (case m5 => k_is)
    (case m6 => k_is)
    (case m7 => k_is)
    (case m8 => k_is)
    (case m9 => k_is)
    (case m10 => k_is)
    (case m11 => k_is)
    (case m12 => k_is)
    (case m13 => k_is)
    (case m14 => k_is)
    (case y1 => kit_is)
    (case y2 => kit_is)
    (case y3 => kit_is)
    (case y4 => kit_is)
    (case zisinstance => k_is)
    (case zint => k_is)
    (case zbool => k_is)
    (case zall => k_is)
    (case zabs => k_is)
    (case zlist => k_is)
    (case zsum => k_is)
    (case zmin => k_is)
    (case zrange => k_is)
    (case zrepr => k_is)
    (case zValueError => k_is)
    (case zgcd => k_is)
    (case zisqrt => k_is)
