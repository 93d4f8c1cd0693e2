import PyProof.Rows.All
import Wide.All
import OpenK.AllK
import Wide.FinOn
import PyProof.EqAt
import PyProof.EqKinds
import PyProof.TupleCall
import PyProof.ReprRoads
import PyProof.TwoTypesSub
import PyProof.AutoIntG7
import PyProof.FactsAll.bool_3
import KE.KMathG
import HandS.ForMost
import HandS.More
import HandS.Gcd
import HandS.Wide
import HandS.Exc
import HandS.TryOnly
import HandS.ExcOwn
import HandS.WordsExc
import HandS.ExcIs
import HandS.IsInst
import HandS.MakeKwOnly
import HandS.NoneIn
import HandS.TupLe
import HandS.Ends
import Flt.RightSqrt
import HandS.WideBits
import HandS.Style
import HandS.Codes
import HandS.MakeKw
import PyProof.ReprBulk
import PyProof.Rows.RegStrFacts
import PyProof.ExcBaseAll.ZeroDivisionError
import HandS.TupAny
import HandS.OwnEq
import PyProof.InstEq
import HandS.Base
import HandS.Call
import HandS.List
import HandS.Comp
import HandS.Words
import HandS.WordsList
import HandS.Walk
import HandS.Zip
import HandS.SetFor
import PySem.Challenge.RW_pointhouse_k05_signs_and_order
set_option Elab.async false
set_option linter.all false
set_option maxRecDepth 100000
set_option maxHeartbeats 16000000
namespace PH
open PySem PySem.Spec PyProof.Rows L2
section
variable {X : Cx}
/-! ### isqrt -/
def rSqrt : List V → Hp → VK → Prop := fun vs H Q =>
  ∃ a : Int, vs = [.int a] ∧ 0 ≤ a ∧ a < 2 ^ 200 ∧ Q (.int ((Float64.isqrt a.toNat : Nat) : Int)) H
theorem log_le {n k : Nat} (h : n < 2 ^ (k + 1)) : n.log2 ≤ k := by
  by_cases h0 : n = 0
  · rw [h0, Nat.log2_zero]; exact Nat.zero_le _
  · exact Nat.le_of_lt_succ ((Nat.log2_lt h0).mpr h)
theorem cr_isqrt : CallR X (.builtin "math.isqrt") rSqrt := by
  intro pins s σ H vs us Q I r h
  obtain ⟨a, rfl, h0, h1, q⟩ := h
  obtain ⟨u, rfl, t, rfl⟩ := vals1 r
  have hl : a.toNat.log2 ≤ 199 := log_le (by show a.toNat < 2 ^ 200; omega)
  exact call_function_meets PySem.W.MGF.kind_isqrt PySem.W.MGF.plain_isqrt PySem.W.MGF.entry_isqrt (PySem.W.MGF.args_isqrt _)
    (PySem.W.mg_run_isqrt a t (by omega) (by omega) (by omega)).meets ⟨.int _, H, I.tok _, ⟨_, rfl⟩, q⟩
/-! ### repr of data, where nothing is being shown -/
def rRepr (K : PySem.W.Frag) : List V → Hp → VK → Prop := fun xs H Q =>
  ∃ (a : Addr) (d : PyData), xs = [.ref a] ∧ Dp K H (.ref a) d ∧ d.showable = true ∧ d.hasDict = false ∧ d.depth ≤ 60 ∧
    d.shown.length ≤ sizeLine ∧ Q (.str d.shown) H
theorem cr_repr {k : Nat} (hg : X.A.guards = some []) (hr : Room k X.A) : CallR X (.builtin "repr") (rRepr X.K) := by
  intro pins s σ H xs us Q I r h
  obtain ⟨a, d, rfl, hd, hs, hn, hdp, hz, q⟩ := h
  obtain ⟨u, rfl, ru⟩ := vals1 r
  cases (show u = Value.ref a from ru)
  obtain ⟨as, rd⟩ := Dp.reads I d _ _ hd rfl
  have hu := hr.units
  exact repr_of_reads' rd hs (fun e => by rw [hn] at e; cases e) hg (by omega) (fun _ _ e => e)
    (fun h' u tk hk => ⟨.str _, H, I.kept hk, ⟨u, rfl⟩, q⟩) hz
/-! ### self.f = .. among several targets -/
def gFld (K : PySem.W.Frag) (to : TE) (f : Str) : TG := fun v σ H Q => to σ H fun x H1 =>
  ∃ a C dx fs, x = .ref a ∧ H1 a = some (.ins C dx fs) ∧ Cls K C ∧ NoAttr K C f ∧ fs.length < 1000 ∧ Q σ (upd H1 a (.ins C dx (putF f v fs)))
theorem pg_fld {o : Expr} {f : Str} {to : TE} {pos : Pos} (ho : PE X o to) : PG X (.Attribute o f pos) (gFld X.K to f) := by
  refine ⟨fun pins s σ H v u Q I r h => ?_⟩
  rw [assign_Attribute]
  refine wpAny_bind (wpAny_holding (thn (ho.run pins s σ H _ I h) fun ov s1 hh => ?_))
  obtain ⟨x, H1, I1, rx, a, C, dx, fs, ex, ea, c, n, l, q⟩ := hh
  subst ex
  obtain rfl : ov = Value.ref a := rx
  refine wpAny_bind (wpAny_standAt (wpAny_bind (wpAny_holding ?_)))
  exact setattr_ok I1 ea c n l r fun s2 I2 => wpAny_release ⟨σ, _, I2, q⟩
/-! ### int - bool -/
theorem op_sub_ib : OpR X (binaryOp .Sub) (fun x y H Q => ∃ i k, x = .int i ∧ y = .bl k ∧ Q (.int (i - b2i k)) H) := by
  intro pins s σ H x y v u Q I rx ry h
  obtain ⟨i, k, rfl, rfl, q⟩ := h
  obtain ⟨t, rfl⟩ := rx
  cases ry
  have same : reflectedDiffers (.type "int") (.type "bool") "sub" = pure false := by
    show (typeLookup (.type "bool") (dunderR "sub") >>= fun rb => typeLookup (.type "int") (dunderR "sub") >>= fun ra => pure (rb.isSome && rb != ra)) = pure false
    simp only [typeLookup_type]
    rw [builtinLookup_eq_fast]
    kernel_rfl
  exact binaryOp_sub_gives (op := .Sub) (T := "int") (U := "bool") (by decide) (typeIs_int s i t) rfl F.fills_int_sub
    F.fills_bool_sub isSubtype_bool_int same F.slot_int_sub F.entry_int_sub (F.args_int_sub_2 _ _) (AutoIntG7.int___sub___int_bool_0 i t k) trivial
    ⟨.int (i - b2i k), H, I.tok _, ⟨_, rfl⟩, q⟩
end
/-! ### defs that ask what is being shown: their promise holds where nothing is -/
structure FnG (P : Program) (w : World) (K : PySem.W.Frag) (mg : Str → Option Value) (base : Heap) (CX : CXT) (k : Nat) (f : Addr) (fd : FuncData) (ps : List Str) (sp : Sp) : Prop where
  len : ∀ vs H Q E, sp vs H Q E → vs.length = ps.length
  run : ∀ (A : Around) (outer : List Env) (s : Shared) (H : Hp) (args : Args) (us : List Value) (vs : List V) (Q : VK) (E : XK),
    A.guards = some [] → Room k A → Env0 P w K mg base A outer s H → BindsTo s fd args (ps.zip us) → Vals vs us → sp vs H Q E →
    codeAny (model P w) A (.call (.ref f) args) (CR CX outer P w H s Q E) s
section
variable {P : Program} {w : World} {K : PySem.W.Frag} {mg : Str → Option Value} {base : Heap}
theorem Fun.okG {x qual : Str} {st : Stmt} {f : Addr} {fd : FuncData} {N ps : List Str} {k : Nat} {sp : Sp} (F : Fun K x qual st f fd) (S : FnScope N ps (defScope st))
    (len : ∀ vs H Q E, sp vs H Q E → vs.length = ps.length)
    (hbody : ∀ (cdv : Value) (A : Around) (outer : List Env) (s : Shared) (H : Hp) (vs : List V) (Q : VK) (E : XK), A.guards = some [] →
      Room k (A.deeper (envOfC qual (defScope st) s.heap.objs.size f cdv)) → sp vs H Q E →
      ∃ t, PSs (cxOf CX0 P w K mg base N qual (defScope st) f cdv A outer s H E).nox (defBody st) t ∧ t { nx := fun _ H' => Q .non H', rt := Q } (start N vs) H) :
    FnG P w K mg base CX0 (k + 1) f fd ps sp := by
  obtain ⟨oc, od, kV, doc, pm, an, cdv, ct, osl, rfl, lk, hcd⟩ := F.ex
  constructor
  · exact len
  intro A outer s H args us vs Q E hg hr e0 hb r hsp
  have within := fun b o e => (e0.bs b o e).1
  have KX : K.In s.heap := e0.mod.kin.keeps within
  refine codeAny_call_function hr.depth (KX _ _ lk) rfl S.co S.gen rfl (PySem.W.codeRec_of KX hcd) (hb _ _ _ _ ?_)
  refine wpAny_newFunctionEnv_cells S.kind ?_ ?_
  · rintro ⟨n, v⟩ hy
    have q := S.par n (List.of_mem_zip hy).1
    exact q.imp id fun z => And.intro z (PySem.W.cellsFrom_some _ _ _ (Or.inl z))
  intro env he s1 x
  subst he
  refine And.intro ((e0.mod.nolimit.keeps within).keeps x.toInCall.keep) (codeAny_func ?_)
  obtain ⟨t, hx, hq⟩ := hbody cdv A outer s H vs Q E hg (hr.deeper _) hsp
  have ht := hx.nox
  have I := inv_start (CX := CX0) (E := E) S hr.hd e0 (len _ _ _ _ hsp) r x
  have fin : ∀ {σ' : L2.St} {H' : Hp} {v : V} {u : Value} {s' : Shared},
      Inv (cxOf CX0 P w K mg base N qual (defScope st) f cdv A outer s H E) [] σ' H' s' → RelV v u → Q v H' → CE outer P w H s Q u s' := by
    intro σ' H' v u s' J rv q
    exact ⟨v, H', J.os, J.bare, J.base, J.hok, rv, q⟩
  refine wpAny_mono (ht.run [] s1 (start N vs) H _ I hq) ?_ (fun _ _ z => z)
  intro fl s' hs
  match fl, hs with
  | .ret u, ⟨v, _, _, J, rv, q⟩ => exact fin J rv q
  | .next, ⟨_, _, J, q⟩ => exact fin (v := V.non) (u := Value.none) J rfl q
  | .brk, ⟨_, _, _, q⟩ => exact q.elim
  | .cont, ⟨_, _, _, q⟩ => exact q.elim
end
section
variable {X : Cx} {k : Nat} {f : Addr} {fd : FuncData} {ps : List Str} {sp : Sp} {x : Str} {p pos : Pos} {e : Expr} {es : List Expr} {t : TA}
theorem pe_callG (F : FnG X.prog X.w X.K X.mg X.base CX0 k f fd ps sp) (hgu : X.A.guards = some []) (hr : Room k X.A) (hg : Gl X x) (hm : X.mg x = some (.ref f))
    (hk : PySem.W.keepIn X.K (.ref f) = true) (hb : Binds X.K fd ps []) (ha : PA X (e :: es) t) (hdb : (x == ("__debug__" : Str)) = false := by decide)
    (he : starEach (e :: es) X.env = (false, eval e X.env) :: starEach es X.env := by rfl) (hpl : (backTo pos (starEach es X.env)).any (·.1) = false := by rfl) :
    PE X (.Call (.Name x p) (e :: es) [] pos) (tCall sp [] E0 t) := by
  constructor
  intro pins s σ H Q I h
  refine wpAny_Call_Name_kw (ld_glob I hg hm ?_ hdb)
  refine PySem.W.callWith_K (h₀ := X.base) I.ok.mod.kin hk (thn (ha.run pos pins s σ H _ I h) ?_) he hpl
  rintro us s1 ⟨vs, H1, I1, r, q⟩
  refine And.intro I1.kIn ?_
  rw [List.append_nil] at q
  have hl : us.length = ps.length := r.length.symm.trans (F.len _ _ _ _ q)
  have hb' := hb s1 us I1.kIn (by rw [List.append_nil]; exact hl)
  rw [List.append_nil] at hb'
  refine wpAny_call (codeAny_mono (F.run X.A X.stack s1 H1 ⟨us, []⟩ us vs Q E0 hgu hr I1.env0 hb' r q) ?_)
  intro r' s' hq
  match r', hq with
  | .error _, hq => exact hq.elim
  | .ok (.ret _), hq => exact I1.after hq
  | .ok .next, hq => exact hq.elim
  | .ok .brk, hq => exact hq.elim
  | .ok .cont, hq => exact hq.elim
end
end PH
namespace PH
open PySem PySem.Spec PyProof.Rows L2
/-! ### the law's call from the heap behind the top, nothing being shown -/
section
variable {P : Program} {w : World} {K : PySem.W.Frag} {mg mb : Str → Option Value} {k : Nat} {fa a : Addr} {fd : FuncData} {x : Str} {sp : Sp} {s₁ : Shared} {vs : List Value} {ns : List Int}
/-- what may be tracked there: the script, or nothing where the module has it -/
theorem script_heap (KX : K.In s₁.heap) (ha : s₁.heap.get? a = some { cls := .type "list", data := .seq vs.toArray }) (hi : IntsAre vs ns) (hl : ns.length ≤ sizeLine) :
    ∃ H : Hp, Only H ∧ SqL K H a (ns.map V.int) ∧ HOk P w H s₁.heap ∧ ∀ b, H b ≠ none → b = a ∧ K.lookup a = none := by
  have rv := vals_ints hi
  have lenV := hi.length
  rcases hk : K.lookup a with _ | o
  · let ob : Obj := { cls := .type "list", data := .seq vs.toArray }
    refine ⟨fun b => if b = a then some (.frz ob (.lst (ns.map V.int))) else none, ?_, ?_, ?_, ?_⟩
    · intro b
      by_cases h : b = a
      · right; exact ⟨_, _, if_pos h⟩
      · left; exact if_neg h
    · left; right; exact ⟨ob, if_pos rfl⟩
    · intro b u z
      by_cases h : b = a
      · subst h
        have z' := (if_pos rfl).symm.trans z
        cases z'
        refine ⟨ha, ?_, vs, _, rv, ha⟩
        rw [List.length_map]; exact hl
      · have z' := (if_neg h).symm.trans z
        cases z'
    · intro b z
      by_cases h : b = a
      · exact ⟨h, rfl⟩
      · exact absurd (if_neg h) z
  · have e := KX a o hk
    rw [ha] at e
    cases e
    refine ⟨fun _ => none, fun _ => Or.inl rfl, ?_, (fun b u z => by cases (show (none : Option HO) = some u from z)), (fun b z => absurd rfl z)⟩
    right
    refine ⟨_, vs.toArray, _, hk, rfl, rfl, rfl, ?_, ?_⟩
    · rw [List.size_toArray, lenV]; exact hl
    · simpa using rv
theorem law_callG (KX : K.In s₁.heap) (hns : s₁.heap.Ns mainGlobals mg) (hb : s₁.heap.Ns builtinsNs mb) (hbb : ∀ x : Str, x ≠ "__name__" → mb x = bootBuiltins x)
    (hlim : s₁.heap.NoLimit) (hg : s₁.gens = #[]) (ha : s₁.heap.get? a = some { cls := .type "list", data := .seq vs.toArray }) (hi : IntsAre vs ns)
    (hl : ns.length ≤ sizeLine) (hr : Room k callerA) (F : ∀ base : Heap, K.In base → base.Ns mainGlobals mg → FnG P w K mg base CX0 k fa fd [x] sp)
    (hbind : ∀ (s : Shared) (u : Value), BindsTo s fd ⟨[u], []⟩ [(x, u)])
    (hsp : ∀ H : Hp, Only H → SqL K H a (ns.map V.int) → sp [.ref a] H (fun v _ => v = .bl true) fun _ _ _ => False) :
    codeAny (model P w) callerA (.call (.ref fa) ⟨[.ref a], []⟩) (fun r s' => r = .ok (.ret (.bool true)) ∧ OldK s₁.heap s'.heap ∧ s'.os = s₁.os ∧ AllBare s'.gens) s₁ := by
  obtain ⟨H, hO, hS, hok, hA⟩ := script_heap (P := P) (w := w) KX ha hi hl
  have off : ∀ {b : Addr} {o : Obj}, s₁.heap.get? b = some o → (b = a → K.lookup a = none → False) → (hidT s₁.heap H).get? b = some o := by
    intro b o e h
    refine hidT_get e ?_
    rcases q : H b with _ | u
    · rfl
    · have z := hA b (by rw [q]; exact fun z => nomatch z)
      exact (h z.1 z.2).elim
  have dicts : ∀ {b : Addr} {m : Str → Option Value}, s₁.heap.Ns b m → (hidT s₁.heap H).Ns b m := by
    rintro b m ⟨o, es, ep, e, d, r⟩
    refine ⟨o, es, ep, off e ?_, d, r⟩
    intro hba _
    subst hba
    rw [ha] at e
    cases e
    exact nomatch (d : Data.seq vs.toArray _ = Data.dict es ep)
  have hKb : K.In (hidT s₁.heap H) := by
    intro b o e
    refine off (KX b o e) ?_
    intro hba hn
    rw [hba, hn] at e
    cases e
  have hM : Mod K mg (hidT s₁.heap H) := by
    obtain ⟨mc, h1, h2⟩ := hlim
    exact ⟨hKb, dicts hns, ⟨mb, dicts hb, hbb⟩, ⟨mc, dicts h1, h2⟩⟩
  have e0 : Env0 P w K mg (hidT s₁.heap H) callerA [] s₁ H :=
    { frames := rfl, mod := hM, bs := fun b o e => of_hidT e, bsz := Nat.le_of_eq (hidT_size _ _), funs := trivial,
      frf := fun b z => absurd (show b ∈ ([] : List Addr) from z) List.not_mem_nil, hok := hok, bare := .of_eq hg }
  refine codeAny_mono ((F _ hKb (dicts hns)).run callerA [] s₁ H ⟨[.ref a], []⟩ [.ref a] [.ref a] _ _ rfl hr e0 (hbind s₁ (.ref a)) (.cons rfl .nil) (hsp H hO hS)) ?_
  intro r s' h
  match r, h with
  | .error _, h => exact h.elim
  | .ok .next, h => exact h.elim
  | .ok .brk, h => exact h.elim
  | .ok .cont, h => exact h.elim
  | .ok (.ret u), ⟨v, H', os, bare, un, hok', r', q⟩ =>
    subst q
    cases r'
    refine ⟨rfl, OldK.of_keep ?_, os, bare⟩
    intro b o e
    rcases q : H b with _ | y
    · exact un.keep b o e q (fun z => absurd (show b ∈ ([] : List Addr) from z) List.not_mem_nil) List.not_mem_nil
    · rcases hO b with z | ⟨ob, xs, z⟩
      · rw [q] at z; cases z
      · have g1 := (hok b _ z).1
        have g2 := (hok' b _ (un.frzs b ob _ z)).1
        rw [e] at g1
        cases g1
        exact g2
/-- the goal that k_head leaves -/
theorem walk_G {l : PySem.W.OpenLaw} {n k : Nat} {q : Program} {loose : List Str} {XP : (Str → Option Value) → Heap → Prop} {YP : World → Heap → Prop} {d : DefRec} {K : Params → PySem.W.Frag} {sp : PySem.W.Frag → Sp} {x : Str}
    (hn : l.most = some n) (hn2 : n ≤ sizeLine) (hdf : d.params.defaults = []) (hr : Room k callerA) (hY : ∀ (w : World) (h : Heap), YP w h → (K w.params).In h)
    (F : ∀ (w : World) (mg : Str → Option Value) (fa : Addr) (h : Heap), (K w.params).In h → h.Ns mainGlobals mg → mg d.name = some (.ref fa) →
      ∃ fd : FuncData, (∀ (s : Shared) (u : Value), BindsTo s fd ⟨[u], []⟩ [(x, u)]) ∧
        ∀ base : Heap, (K w.params).In base → base.Ns mainGlobals mg → FnG l.prog w (K w.params) mg base CX0 k fa fd [x] (sp (K w.params)))
    (hsp : ∀ (K : PySem.W.Frag) (H : Hp) (a : Addr) (ns : List Int), ns.length ≤ n → Only H → SqL K H a (ns.map V.int) → sp K [.ref a] H (fun v _ => v = .bl true) fun _ _ _ => False) :
    PySem.W.WalkO q loose XP YP l.row.toRowW d [] (fun f vs => PySem.call f vs) := by
  refine Att.attach_call hn hdf ?_
  intro w s₀ s₁ mg mb fa o pm cd doc a vs ns G Y ho hd hcd hmg hobj hints hlen hg
  have KX := hY w _ Y
  obtain ⟨fd, hb, hF⟩ := F w mg fa _ KX G.T.g hmg
  exact law_callG KX G.T.g G.T.b G.T.builtins G.T.nolimit hg hobj hints (Nat.le_trans hlen hn2) hr hF hb
    (fun H hO hS => hsp _ H a ns hlen hO hS)
end
end PH
namespace PH
open PySem
/-! ### the quotient in lowest terms, the whole part of a root, a number's form -/
def g (a b : Int) : Int := ((Nat.gcd a.natAbs b.natAbs : Nat) : Int)
def low (a b : Int) : Int × Int := (a / g a b, b / g a b)
def rt (n : Int) : Int := ((Float64.isqrt n.toNat : Nat) : Int)
def isq (n : Int) : Bool := decide (rt n * rt n = n)
theorem g_pos {a b : Int} (h : 0 < b) : 0 < g a b := by
  unfold g
  have : 0 < Nat.gcd a.natAbs b.natAbs := Nat.gcd_pos_of_pos_right _ (by omega)
  omega
theorem g_dl (a b : Int) : g a b ∣ a := Int.natAbs_dvd_natAbs.mp (by show (a.natAbs.gcd b.natAbs) ∣ a.natAbs; exact Nat.gcd_dvd_left _ _)
theorem g_dr (a b : Int) : g a b ∣ b := Int.natAbs_dvd_natAbs.mp (by show (a.natAbs.gcd b.natAbs) ∣ b.natAbs; exact Nat.gcd_dvd_right _ _)
theorem g_le {a b : Int} (h : 0 < b) : g a b ≤ b := Int.le_of_dvd h (g_dr a b)
theorem g_le_left {a b : Int} (h : 0 < a) : g a b ≤ a := Int.le_of_dvd h (g_dl a b)
theorem low1 (a b : Int) : (low a b).1 * g a b = a := Int.ediv_mul_cancel (g_dl a b)
theorem low2 (a b : Int) : (low a b).2 * g a b = b := Int.ediv_mul_cancel (g_dr a b)
theorem low2_pos {a b : Int} (h : 0 < b) : 0 < (low a b).2 := by
  have h1 := low2 a b
  have h2 := g_pos (a := a) h
  rcases Int.lt_or_le 0 (low a b).2 with h3 | h3
  · exact h3
  · have := Int.mul_le_mul_of_nonneg_right h3 (Int.le_of_lt h2)
    rw [h1, Int.zero_mul] at this
    omega
theorem low1_nonneg {a b : Int} (ha : 0 ≤ a) (h : 0 < b) : 0 ≤ (low a b).1 := Int.ediv_nonneg ha (Int.le_of_lt (g_pos h))
theorem natAbs_div_le {a k : Int} (hk : 0 < k) : (a / k).natAbs ≤ a.natAbs := by
  rcases Int.le_total 0 a with h | h
  · have h1 : 0 ≤ a / k := Int.ediv_nonneg h (Int.le_of_lt hk)
    have h2 : a / k ≤ a := Int.ediv_le_self k h
    omega
  · have h1 : a / k ≤ 0 := by
      have := Int.ediv_le_ediv hk h
      simpa using this
    have h2 : a ≤ a / k := by
      have q := Int.emod_nonneg a (show k ≠ 0 by omega)
      have q2 := Int.mul_ediv_add_emod a k
      have q3 := Int.emod_lt_of_pos a hk
      by_cases hz : a / k = 0
      · omega
      · have : k * (a / k) ≤ 1 * (a / k) := Int.mul_le_mul_of_nonpos_right (by omega) h1
        rcases Int.le_total a (a / k) with z | z
        · exact z
        · have hk1 : 1 ≤ k := by omega
          have e : k * (a / k) ≤ a / k := by omega
          have f : a < k * (a / k) + k := by omega
          have d : a / k < 0 := by omega
          have m1 : a / k + 1 ≤ 0 := by omega
          have m2 : k * (a / k + 1) ≤ 1 * (a / k + 1) := Int.mul_le_mul_of_nonpos_right (by omega) m1
          have m3 : k * (a / k + 1) = k * (a / k) + k := by rw [Int.mul_add, Int.mul_one]
          omega
    omega
theorem low1_abs {a b : Int} (h : 0 < b) : (low a b).1.natAbs ≤ a.natAbs := natAbs_div_le (g_pos h)
theorem low1_le {a b : Int} (ha : 0 ≤ a) (h : 0 < b) : (low a b).1 ≤ a := Int.ediv_le_self _ ha
theorem low2_le {a b : Int} (h : 0 < b) : (low a b).2 ≤ b := Int.ediv_le_self _ (Int.le_of_lt h)
theorem g_mul (a b k : Int) (hk : 0 < k) : g (a * k) (b * k) = g a b * k := by
  unfold g
  rw [Int.natAbs_mul, Int.natAbs_mul, Nat.gcd_mul_right]
  have : ((k.natAbs : Nat) : Int) = k := by omega
  rw [Int.natCast_mul, this]
theorem low_mul (a b k : Int) (hk : 0 < k) : low (a * k) (b * k) = low a b := by
  unfold low
  rw [g_mul a b k hk, Int.mul_ediv_mul_of_pos_left _ _ hk, Int.mul_ediv_mul_of_pos_left _ _ hk]
/-- a quotient that is in lowest terms stays -/
theorem low_id {a b : Int} (h : g a b = 1) : low a b = (a, b) := by
  unfold low
  rw [h, Int.ediv_one, Int.ediv_one]
theorem g_low {a b : Int} (h : 0 < b) : g (low a b).1 (low a b).2 = 1 := by
  have hp := g_pos (a := a) h
  have e : g a b = g (low a b).1 (low a b).2 * g a b := by
    have := g_mul (low a b).1 (low a b).2 (g a b) hp
    rw [low1, low2] at this
    exact this
  have e2 : 1 * g a b = g (low a b).1 (low a b).2 * g a b := by rw [Int.one_mul]; exact e
  exact (Int.eq_of_mul_eq_mul_right (by omega) e2).symm
theorem low_low {a b : Int} (h : 0 < b) : low (low a b).1 (low a b).2 = low a b := low_id (g_low h)
/-! ### roots -/
theorem rt_nonneg (n : Int) : 0 ≤ rt n := Int.natCast_nonneg _
theorem rt_spec {n : Int} (h : 0 ≤ n) : rt n * rt n ≤ n ∧ n < (rt n + 1) * (rt n + 1) := by
  have q := Float64.isqrt_spec n.toNat
  have e : ((n.toNat : Nat) : Int) = n := by omega
  refine ⟨?_, ?_⟩
  · have := Int.ofNat_le.mpr q.1
    rw [e] at this
    unfold rt
    rw [← Int.natCast_mul]
    exact this
  · have := Int.ofNat_lt.mpr q.2
    rw [e] at this
    unfold rt
    have e2 : ((Float64.isqrt n.toNat : Nat) : Int) + 1 = ((Float64.isqrt n.toNat + 1 : Nat) : Int) := by omega
    rw [e2, ← Int.natCast_mul]
    exact this
theorem sq_lt {a b : Int} (ha : 0 ≤ a) (hb : 0 ≤ b) (h : a * a < b * b) : a < b := by
  rcases Int.lt_or_le a b with z | z
  · exact z
  · have := Int.mul_le_mul z z hb ha
    omega
theorem rt_uniq {n r : Int} (hr : 0 ≤ r) (h1 : r * r ≤ n) (h2 : n < (r + 1) * (r + 1)) : rt n = r := by
  have hn : 0 ≤ n := Int.le_trans (Int.mul_nonneg hr hr) h1
  have q := rt_spec hn
  have p := rt_nonneg n
  have a : r < rt n + 1 := sq_lt hr (by omega) (by omega)
  have b : rt n < r + 1 := sq_lt p (by omega) (by omega)
  omega
theorem rt0 : rt 0 = 0 := rt_uniq (by decide) (by decide) (by decide)
theorem rt1 : rt 1 = 1 := rt_uniq (by decide) (by decide) (by decide)
theorem isq0 : isq 0 = true := by unfold isq; rw [rt0]; decide
theorem isq1 : isq 1 = true := by unfold isq; rw [rt1]; decide
theorem isq_eq {n : Int} (h : isq n = true) : rt n * rt n = n := of_decide_eq_true h
theorem rt_pos {n : Int} (h : 0 < n) (hs : isq n = true) : 0 < rt n := by
  have e := isq_eq hs
  rcases Int.lt_or_le 0 (rt n) with z | z
  · exact z
  · have : rt n = 0 := by have := rt_nonneg n; omega
    rw [this] at e
    omega
theorem rt_le {n b : Int} (h : 0 ≤ n) (hb : 0 ≤ b) (h2 : n < (b + 1) * (b + 1)) : rt n ≤ b := by
  have q := (rt_spec h).1
  have : rt n < b + 1 := sq_lt (rt_nonneg n) (by omega) (by omega)
  omega
theorem low01 : low 0 1 = (0, 1) := by decide
/-! ### the five numbers -/
abbrev Five := Int × Int × Int × Int × Int
/-- the root's quotient is a quotient's square -/
def both (p : Int × Int) : Bool := isq p.1 && isq p.2
def form (f : Five) : Five :=
  let u := f.1; let l := f.2.1; let m := f.2.2.1; let r := low f.2.2.2.1 f.2.2.2.2
  if both r = true then
    let q := low (u * rt r.2 + m * rt r.1 * l) (l * rt r.2)
    (q.1, q.2, 0, 0, 1)
  else
    let q := low u l
    if m = 0 then (q.1, q.2, 0, 0, 1) else (q.1, q.2, m, r.1, r.2)
structure Right (f : Five) : Prop where
  l : 0 < f.2.1
  m : f.2.2.1 = -1 ∨ f.2.2.1 = 0 ∨ f.2.2.1 = 1
  a : 0 ≤ f.2.2.2.1
  b : 0 < f.2.2.2.2
/-- the one form -/
structure Canon (f : Five) : Prop where
  l : 0 < f.2.1
  g : g f.1 f.2.1 = 1
  m : (f.2.2.1 = 0 ∧ f.2.2.2.1 = 0 ∧ f.2.2.2.2 = 1) ∨
    ((f.2.2.1 = -1 ∨ f.2.2.1 = 1) ∧ 0 ≤ f.2.2.2.1 ∧ 0 < f.2.2.2.2 ∧ PH.g f.2.2.2.1 f.2.2.2.2 = 1 ∧ both (f.2.2.2.1, f.2.2.2.2) = false)
theorem canon_form {f : Five} (h : Right f) : Canon (form f) := by
  obtain ⟨u, l, m, a, b⟩ := f
  obtain ⟨hl, hm, ha, hb⟩ := h
  dsimp only at hl hm ha hb
  unfold form
  dsimp only
  by_cases c : both (low a b) = true
  · rw [if_pos c]
    have hs : isq (low a b).2 = true := by unfold both at c; rw [Bool.and_eq_true] at c; exact c.2
    have hp : 0 < l * rt (low a b).2 := Int.mul_pos hl (rt_pos (low2_pos hb) hs)
    exact ⟨low2_pos hp, g_low hp, .inl ⟨rfl, rfl, rfl⟩⟩
  · rw [if_neg c]
    by_cases z : m = 0
    · rw [if_pos z]
      exact ⟨low2_pos hl, g_low hl, .inl ⟨rfl, rfl, rfl⟩⟩
    · rw [if_neg z]
      refine ⟨low2_pos hl, g_low hl, .inr ⟨?_, low1_nonneg ha hb, low2_pos hb, g_low hb, ?_⟩⟩
      · dsimp only; omega
      · dsimp only
        cases e : both ((low a b).1, (low a b).2) with
        | false => rfl
        | true => exact absurd e c
theorem form_canon {f : Five} (h : Canon f) : form f = f := by
  obtain ⟨u, l, m, a, b⟩ := f
  obtain ⟨hl, hg, hm⟩ := h
  dsimp only at hl hg hm
  unfold form
  dsimp only
  rcases hm with ⟨rfl, rfl, rfl⟩ | ⟨hm, ha, hb, hgr, hn⟩
  · rw [low01]
    rw [if_pos (show both (0, 1) = true by unfold both; rw [isq0, isq1]; rfl)]
    dsimp only
    rw [rt1, rt0, Int.mul_one, Int.mul_one, Int.zero_mul, Int.zero_mul, Int.add_zero, low_id hg]
  · rw [low_id hgr, if_neg (by rw [hn]; exact Bool.false_ne_true), if_neg (by omega), low_id hg]
theorem form_form {f : Five} (h : Right f) : form (form f) = form f := form_canon (canon_form h)
theorem canon_right {f : Five} (h : Canon f) : Right f := by
  obtain ⟨hl, _, hm⟩ := h
  rcases hm with ⟨h1, h2, h3⟩ | ⟨h1, h2, h3, _⟩
  · exact ⟨hl, by omega, by omega, by omega⟩
  · exact ⟨hl, by omega, h2, h3⟩
/-- as the program goes about it: the root is dropped first where its sign is 0 -/
theorem form_zero {u l a b : Int} (hl : 0 < l) (hb : 0 < b) : form (u, l, 0, a, b) = ((low u l).1, (low u l).2, 0, 0, 1) := by
  unfold form
  dsimp only
  by_cases c : both (low a b) = true
  · rw [if_pos c]
    have hs : isq (low a b).2 = true := by unfold both at c; rw [Bool.and_eq_true] at c; exact c.2
    rw [Int.zero_mul, Int.zero_mul, Int.add_zero, low_mul _ _ _ (rt_pos (low2_pos hb) hs)]
  · rw [if_neg c, if_pos rfl]
/-! ### how great they are -/
structure Small (f : Five) : Prop where
  u : f.1.natAbs ≤ 999999
  l : f.2.1 ≤ 999999
  a : f.2.2.2.1 ≤ 999999
  b : f.2.2.2.2 ≤ 999999
structure Fits (f : Five) : Prop where
  u : f.1.natAbs ≤ 2000000000
  l : f.2.1 ≤ 1000000000
  a : f.2.2.2.1 ≤ 999999
  b : f.2.2.2.2 ≤ 999999
theorem rt_small {n : Int} (h : 0 ≤ n) (h2 : n ≤ 999999) : rt n ≤ 999 := rt_le h (by decide) (by omega)
theorem mul_abs_le {x y : Int} {a b : Nat} (hx : x.natAbs ≤ a) (hy : y.natAbs ≤ b) : (x * y).natAbs ≤ a * b := by
  rw [Int.natAbs_mul]
  exact Nat.mul_le_mul hx hy
theorem upper_fits {u l m x y : Int} (hu : u.natAbs ≤ 999999) (hl : 0 < l) (hl2 : l ≤ 999999) (hm : m = -1 ∨ m = 0 ∨ m = 1) (hx : 0 ≤ x) (hx2 : x ≤ 999) (hy : 0 ≤ y) (hy2 : y ≤ 999) :
    (u * y + m * x * l).natAbs ≤ 2000000000 ∧ l * y ≤ 1000000000 ∧ 0 ≤ l * y := by
  have h1 : (u * y).natAbs ≤ 999999 * 999 := mul_abs_le hu (by omega)
  have h2 : (m * x).natAbs ≤ 1 * 999 := mul_abs_le (by omega) (by omega)
  have h3 : (m * x * l).natAbs ≤ (1 * 999) * 999999 := mul_abs_le h2 (by omega)
  have h4 : (l * y).natAbs ≤ 999999 * 999 := mul_abs_le (by omega) (by omega)
  have h5 := Int.mul_nonneg (Int.le_of_lt hl) hy
  omega
theorem form_fits {f : Five} (h : Right f) (s : Small f) : Fits (form f) := by
  obtain ⟨u, l, m, a, b⟩ := f
  obtain ⟨hl, hm, ha, hb⟩ := h
  obtain ⟨su, sl, sa, sb⟩ := s
  dsimp only at hl hm ha hb su sl sa sb
  have r1 := low1_le (b := b) ha hb
  have r2 := low2_le (a := a) hb
  have n1 := low1_nonneg ha hb
  have n2 := low2_pos (a := a) hb
  unfold form
  dsimp only
  by_cases c : both (low a b) = true
  · rw [if_pos c]
    have hs : isq (low a b).2 = true := by unfold both at c; rw [Bool.and_eq_true] at c; exact c.2
    have hp : 0 < l * rt (low a b).2 := Int.mul_pos hl (rt_pos n2 hs)
    obtain ⟨k1, k2, _⟩ := upper_fits (u := u) (l := l) (m := m) (x := rt (low a b).1) (y := rt (low a b).2) su hl sl hm (rt_nonneg _) (rt_small n1 (by omega)) (rt_nonneg _) (rt_small (by omega) (by omega))
    exact ⟨Nat.le_trans (low1_abs hp) k1, Int.le_trans (low2_le hp) k2, (by decide : (0:Int) ≤ 999999), (by decide : (1:Int) ≤ 999999)⟩
  · rw [if_neg c]
    have q1 := low1_abs (a := u) hl
    have q2 := low2_le (a := u) hl
    by_cases z : m = 0
    · rw [if_pos z]
      exact ⟨by dsimp only; omega, by dsimp only; omega, (by decide : (0:Int) ≤ 999999), (by decide : (1:Int) ≤ 999999)⟩
    · rw [if_neg z]
      exact ⟨by dsimp only; omega, by dsimp only; omega, by dsimp only; omega, by dsimp only; omega⟩
end PH
namespace PH
open PySem PySem.Spec PyProof.Rows L2
/-! ### whole numbers of so many bits -/
def Wd (k : Nat) (x : Int) : Prop := x.natAbs < 2 ^ k
theorem Wd.mono {a b : Nat} {x : Int} (h : Wd a x) (hab : a ≤ b) : Wd b x := Nat.lt_of_lt_of_le h (Nat.pow_le_pow_right (by decide) hab)
theorem Wd.mul {a b : Nat} {x y : Int} (h : Wd a x) (k : Wd b y) : Wd (a + b) (x * y) := wide_lt h k
theorem Wd.add {a : Nat} {x y : Int} (h : Wd a x) (k : Wd a y) : Wd (a + 1) (x + y) := by
  unfold Wd at *
  have := Int.natAbs_add_le x y
  rw [Nat.pow_succ]
  omega
theorem Wd.neg {a : Nat} {x : Int} (h : Wd a x) : Wd a (-x) := by unfold Wd at *; rw [Int.natAbs_neg]; exact h
theorem Wd.neg0 {a : Nat} {x : Int} (h : Wd a x) : Wd a (0 - x) := by rw [Int.zero_sub]; exact h.neg
theorem Wd.sub {a : Nat} {x y : Int} (h : Wd a x) (k : Wd a y) : Wd (a + 1) (x - y) := by rw [Int.sub_eq_add_neg]; exact h.add k.neg
theorem Wd.abs_le {a : Nat} {x y : Int} (h : Wd a x) (k : y.natAbs ≤ x.natAbs) : Wd a y := Nat.lt_of_le_of_lt k h
theorem Wd.le {a : Nat} {x y : Int} (h : Wd a x) (k0 : 0 ≤ y) (k : y ≤ x) : Wd a y := h.abs_le (by omega)
theorem Wd.one {x : Int} (h : x = -1 ∨ x = 0 ∨ x = 1) : Wd 1 x := by rcases h with rfl | rfl | rfl <;> (unfold Wd; decide)
theorem Wd.low1 {k : Nat} {a b : Int} (h : 0 < b) (w : Wd k a) : Wd k (low a b).1 := w.abs_le (low1_abs h)
theorem Wd.low2 {k : Nat} {a b : Int} (h : 0 < b) (w : Wd k b) : Wd k (low a b).2 := w.le (Int.le_of_lt (low2_pos h)) (low2_le h)
theorem rt_le_self {n : Int} (h : 0 ≤ n) : rt n ≤ n := by
  have h1 := (rt_spec h).1
  have h2 := rt_nonneg n
  rcases Int.lt_or_eq_of_le h2 with h3 | h3
  · have : rt n * 1 ≤ rt n * rt n := Int.mul_le_mul_of_nonneg_left (by omega) h2
    omega
  · omega
theorem Wd.rt {k : Nat} {n : Int} (h : 0 ≤ n) (w : Wd k n) : Wd k (rt n) := w.le (rt_nonneg n) (rt_le_self h)
theorem Wd.rt2 {k : Nat} {n : Int} (h : 0 ≤ n) (w : Wd (k + k) n) : Wd k (PH.rt n) := by
  have h1 := (rt_spec h).1
  have h2 := rt_nonneg n
  unfold Wd at *
  rw [Nat.pow_add] at w
  have h3 : (PH.rt n).natAbs * (PH.rt n).natAbs ≤ n.natAbs := by
    rw [← Int.natAbs_mul]
    have := Int.mul_nonneg h2 h2
    omega
  rcases Nat.lt_or_ge (PH.rt n).natAbs (2 ^ k) with c | c
  · exact c
  · have := Nat.mul_le_mul c c
    omega
theorem Wd.toMul {a b : Nat} {x y : Int} (h : Wd a x) (k : Wd b y) (l : a + b ≤ 134217728) : CMulX x y := mulx_ok h k l
theorem Wd.toDiv {k : Nat} {x y : Int} (h : 0 < y) (w : Wd k y) (l : k ≤ 8999) : CDivW x y := wide_div (i := x) (b := k + 1) h (w.mono (Nat.le_succ k)) (Nat.succ_pos k) (by omega)
section
variable {X : Cx}
/-! ### isqrt, ** of great ones -/
def rSqrtW : List V → Hp → VK → Prop := fun vs H Q => ∃ a : Int, vs = [.int a] ∧ 0 ≤ a ∧ Wd 9000 a ∧ Q (.int (rt a)) H
theorem cr_isqrtW : CallR X (.builtin "math.isqrt") rSqrtW := by
  intro pins s σ H vs us Q I r h
  obtain ⟨a, rfl, h0, h1, q⟩ := h
  obtain ⟨u, rfl, t, rfl⟩ := vals1 r
  have e : a.toNat = a.natAbs := by omega
  have hl : a.toNat.log2 ≤ 9000 := log_le (k := 9000) (by rw [e]; exact Nat.lt_of_lt_of_le h1 (Nat.pow_le_pow_right (by decide) (Nat.le_succ 9000)))
  exact call_function_meets PySem.W.MGF.kind_isqrt PySem.W.MGF.plain_isqrt PySem.W.MGF.entry_isqrt (PySem.W.MGF.args_isqrt _)
    (PySem.W.mg_run_isqrt a t (by omega) (by omega) (by omega)).meets ⟨.int _, H, I.tok _, ⟨_, rfl⟩, q⟩
def CSq (i j : Int) : Prop := j = 2 ∧ Wd 100000 i
theorem op_sqW : OpR X (binaryOp .Pow) (rI CSq fun i _ => .int (i * i)) := opI fun i j _ _ _ _ _ hc q => by
  obtain ⟨rfl, hw⟩ := hc
  have hb := PyProof.Rows.intBits_le hw
  refine pow_int (by decide) (by omega) ?_
  have e : i ^ (Int.toNat 2) = i * i := by show i ^ 2 = _; rw [Int.pow_succ, Int.pow_succ, Int.pow_zero, Int.one_mul]
  rw [e]
  exact q
end
end PH
namespace PH
/-! ### lowest terms by quotients -/
theorem low_eq {a b c d : Int} (hb : 0 < b) (hd : 0 < d) (h : a * d = c * b) : low a b = low c d := by
  rw [← low_mul a b d hd, ← low_mul c d b hb, h, Int.mul_comm b d]
theorem cast_ne {b : Int} (hb : 0 < b) : (b : Rat) ≠ 0 := by
  intro z
  have : b = 0 := by exact_mod_cast z
  omega
theorem q_eq {a b c d : Int} (hb : 0 < b) (hd : 0 < d) (h : (a : Rat) / b = (c : Rat) / d) : a * d = c * b := by
  have h1 := cast_ne hb
  have h2 := cast_ne hd
  have : (a : Rat) * d = c * b := by grind
  exact_mod_cast this
theorem q_low {a b c d : Int} (hb : 0 < b) (hd : 0 < d) (h : (a : Rat) / b = (c : Rat) / d) : low a b = low c d := low_eq hb hd (q_eq hb hd h)
def lq (q : Rat) : Int × Int := low q.num q.den
theorem den_pos (q : Rat) : (0 : Int) < q.den := by have := q.den_nz; omega
theorem num_den (q : Rat) : ((q.num : Int) : Rat) / ((q.den : Int) : Rat) = q := by
  rw [← Rat.divInt_eq_div]
  exact Rat.num_divInt_den q
theorem low_lq {a b : Int} {q : Rat} (hb : 0 < b) (h : (a : Rat) / b = q) : low a b = lq q := q_low hb (den_pos q) (h.trans (num_den q).symm)
theorem lq_q {a b : Int} (hb : 0 < b) : ((low a b).1 : Rat) / ((low a b).2 : Rat) = (a : Rat) / b := by
  have h1 := cast_ne hb
  have h2 := cast_ne (low2_pos (a := a) hb)
  have h3 : (a : Rat) = (low a b).1 * g a b := by exact_mod_cast (low1 a b).symm
  have h4 : (b : Rat) = (low a b).2 * g a b := by exact_mod_cast (low2 a b).symm
  have h5 := cast_ne (g_pos (a := a) hb)
  grind
/-! ### squares -/
theorem g_sq {a b : Int} (h : g a b = 1) : g (a * a) (b * b) = 1 := by
  unfold g at h ⊢
  rw [Int.natAbs_mul, Int.natAbs_mul]
  have h1 : Nat.gcd a.natAbs b.natAbs = 1 := by exact_mod_cast h
  have h2 : Nat.Coprime a.natAbs b.natAbs := h1
  have h3 : Nat.Coprime (a.natAbs * a.natAbs) (b.natAbs * b.natAbs) := Nat.Coprime.mul_left (Nat.Coprime.mul_right h2 h2) (Nat.Coprime.mul_right h2 h2)
  exact_mod_cast h3
theorem rt_sq {n : Int} (h : 0 ≤ n) : rt (n * n) = n := rt_uniq h (Int.le_refl _) (by have := Int.mul_nonneg h h; rw [Int.add_mul, Int.mul_add]; omega)
theorem isq_sq {n : Int} (h : 0 ≤ n) : isq (n * n) = true := by unfold isq; rw [rt_sq h]; exact decide_eq_true rfl
theorem lq_g (q : Rat) : g q.num q.den = 1 := by
  unfold g
  have := q.reduced
  have h : Nat.gcd q.num.natAbs q.den = 1 := this
  rw [Int.natAbs_natCast, h]; rfl
theorem lq_sq {a b : Int} {x : Rat} (hb : 0 < b) (hx : 0 ≤ x) (h : x * x = (a : Rat) / b) : low a b = (x.num * x.num, (x.den : Int) * x.den) := by
  have hd := den_pos x
  have hd2 : (0 : Int) < (x.den : Int) * x.den := Int.mul_pos hd hd
  rw [← low_id (g_sq (lq_g x))]
  refine q_low hb hd2 (h.symm.trans ?_)
  have h1 := num_den x
  have h2 := cast_ne hd
  rw [Rat.intCast_mul, Rat.intCast_mul]
  grind
theorem num_nonneg {x : Rat} (hx : 0 ≤ x) : 0 ≤ x.num := Rat.num_nonneg.mpr hx
theorem both_of {a b : Int} {x : Rat} (hb : 0 < b) (hx : 0 ≤ x) (h : x * x = (a : Rat) / b) : both (low a b) = true ∧ rt (low a b).1 = x.num ∧ rt (low a b).2 = x.den := by
  rw [lq_sq hb hx h]
  have hn := num_nonneg hx
  have hd := Int.le_of_lt (den_pos x)
  refine ⟨?_, rt_sq hn, rt_sq hd⟩
  unfold both
  rw [isq_sq hn, isq_sq hd]
  rfl
theorem of_both {a b : Int} (hb : 0 < b) (h : both (low a b) = true) : ∃ x : Rat, 0 ≤ x ∧ x * x = (a : Rat) / b ∧ x = (rt (low a b).1 : Rat) / (rt (low a b).2 : Rat) := by
  unfold both at h
  rw [Bool.and_eq_true] at h
  have hp := rt_pos (low2_pos hb) h.2
  have h1 := isq_eq h.1
  have h2 := isq_eq h.2
  have hc := cast_ne hp
  have hn := rt_nonneg (low a b).1
  refine ⟨_, ?_, ?_, rfl⟩
  · rw [Rat.div_def]
    refine Rat.mul_nonneg (by exact_mod_cast hn) ?_
    refine Rat.le_of_lt (Rat.inv_pos.mpr ?_)
    exact_mod_cast hp
  · rw [← lq_q hb]
    have e1 : ((rt (low a b).1 : Int) : Rat) * (rt (low a b).1 : Int) = ((low a b).1 : Int) := by exact_mod_cast h1
    have e2 : ((rt (low a b).2 : Int) : Rat) * (rt (low a b).2 : Int) = ((low a b).2 : Int) := by exact_mod_cast h2
    have hc2 := cast_ne (low2_pos (a := a) hb)
    grind
end PH
namespace PH
/-! ### what number five stand for: q and m times the root of r -/
structure NonSq (r : Rat) : Prop where
  pos : 0 < r
  no : ∀ x : Rat, x * x ≠ r
def quo (f : Five) : Rat := (f.1 : Rat) / (f.2.1 : Rat)
def rad (f : Five) : Rat := (f.2.2.2.1 : Rat) / (f.2.2.2.2 : Rat)
def sg (f : Five) : Rat := (f.2.2.1 : Rat)
/-- the number of the five is q and m times the root of r -/
def Is (r : Rat) (f : Five) (q m : Rat) : Prop :=
  (f.2.2.1 = 0 ∧ q = quo f ∧ m = 0) ∨
  (∃ x : Rat, 0 ≤ x ∧ x * x = rad f ∧ q = quo f + sg f * x ∧ m = 0) ∨
  (∃ x : Rat, 0 ≤ x ∧ x * x * r = rad f ∧ q = quo f ∧ m = sg f * x)
def sgn (m : Rat) : Int := if m = 0 then 0 else if 0 < m then 1 else -1
def can (r q m : Rat) : Five :=
  if m = 0 then ((lq q).1, (lq q).2, 0, 0, 1) else ((lq q).1, (lq q).2, sgn m, (lq (m * m * r)).1, (lq (m * m * r)).2)
theorem rat_pos_mul {a b : Rat} (ha : 0 < a) (hb : 0 < b) : 0 < a * b := Rat.mul_pos ha hb
theorem lt_ne {a : Rat} (h : 0 < a) : a ≠ 0 := by grind
theorem is_form {r : Rat} {f : Five} {q m : Rat} (N : NonSq r) (R : Right f) (h : Is r f q m) : form f = can r q m := by
  obtain ⟨u, l, s, a, b⟩ := f
  obtain ⟨hl, hm, ha, hb⟩ := R
  unfold Is quo rad sg at h
  dsimp only at hl hm ha hb h
  have nl := cast_ne hl
  rcases h with ⟨rfl, rfl, rfl⟩ | ⟨x, x0, hx, rfl, rfl⟩ | ⟨x, x0, hx, rfl, rfl⟩
  · rw [form_zero hl hb]
    unfold can
    rw [if_pos rfl, low_lq hl rfl]
  · obtain ⟨h1, h2, h3⟩ := both_of hb x0 hx
    have hp : 0 < l * rt (low a b).2 := by rw [h3]; exact Int.mul_pos hl (den_pos x)
    unfold form can
    dsimp only
    rw [if_pos h1, if_pos rfl]
    rw [low_lq (q := (u : Rat) / l + s * x) hp ?_]
    rw [h2, h3]
    have e := num_den x
    have nd := cast_ne (den_pos x)
    rw [Rat.intCast_add, Rat.intCast_mul, Rat.intCast_mul, Rat.intCast_mul, Rat.intCast_mul]
    grind
  · by_cases z : x = 0
    · subst z
      have hx' : (0 : Rat) * 0 = (a : Rat) / b := by rw [← hx]; grind
      obtain ⟨h1, h2, h3⟩ := both_of hb x0 hx'
      have hp : 0 < l * rt (low a b).2 := by rw [h3]; exact Int.mul_pos hl (den_pos 0)
      unfold form can
      dsimp only
      rw [if_pos h1, if_pos (by grind)]
      rw [low_lq (q := (u : Rat) / l) hp ?_]
      rw [h2, h3]
      show ((u * 1 + s * 0 * l : Int) : Rat) / ((l * 1 : Int) : Rat) = _
      rw [Int.mul_one, Int.mul_zero, Int.zero_mul, Int.add_zero, Int.mul_one]
    · have xp : 0 < x := by grind
      have nb : both (low a b) ≠ true := fun e => by
        obtain ⟨y, _, hy, _⟩ := of_both hb e
        exact N.no (y / x) (by grind)
      unfold form
      dsimp only
      rw [if_neg nb]
      have hrad : (a : Rat) / b = x * x * r := hx.symm
      rcases hm with rfl | rfl | rfl
      · have em : ((-1 : Int) : Rat) * x = -x := by rw [Rat.intCast_neg]; grind
        rw [if_neg (by decide), em]
        unfold can sgn
        rw [if_neg (by grind), if_neg (by grind), if_neg (by grind), low_lq hl rfl, low_lq (q := -x * -x * r) hb (by rw [hrad]; grind)]
      · rw [if_pos rfl]
        unfold can
        rw [if_pos (by rw [show ((0 : Int) : Rat) = 0 from rfl]; grind), low_lq hl rfl]
      · have em : ((1 : Int) : Rat) * x = x := by rw [show ((1 : Int) : Rat) = 1 from rfl]; grind
        rw [if_neg (by decide), em]
        unfold can sgn
        rw [if_neg (by grind), if_neg (by grind), if_pos xp, low_lq hl rfl, low_lq (q := x * x * r) hb hrad]
/-- two right fives of one number have one form -/
theorem is_same {r : Rat} {f f' : Five} {q m : Rat} (N : NonSq r) (R : Right f) (R' : Right f') (h : Is r f q m) (h' : Is r f' q m) : form f = form f' := (is_form N R h).trans (is_form N R' h').symm
/-! ### a part, and so many times the root of a quotient -/
def sgI (n : Int) : Int := if 0 < n then 1 else if n < 0 then -1 else 0
def parts (u l n d a b : Int) : Five := (u, l, sgI n, n * n * a, d * d * b)
theorem sgI_or (n : Int) : sgI n = -1 ∨ sgI n = 0 ∨ sgI n = 1 := by
  unfold sgI
  split
  · simp
  · split <;> simp
theorem parts_right {u l n d a b : Int} (hl : 0 < l) (hd : 0 < d) (ha : 0 ≤ a) (hb : 0 < b) : Right (parts u l n d a b) :=
  ⟨hl, sgI_or n, Int.mul_nonneg (by rcases Int.le_total 0 n with h | h; exact Int.mul_nonneg h h; exact Int.mul_nonneg_of_nonpos_of_nonpos h h) ha, Int.mul_pos (Int.mul_pos hd hd) hb⟩
def absI (n : Int) : Int := if n < 0 then -n else n
theorem sg_abs (n : Int) : sgI n * absI n = n := by unfold sgI absI; split <;> split <;> simp <;> omega
theorem abs_sq (n : Int) : absI n * absI n = n * n := by
  unfold absI
  split
  · rw [Int.neg_mul_neg]
  · rfl
theorem absI_nonneg (n : Int) : 0 ≤ absI n := by unfold absI; split <;> omega
/-- y is the root of a by b, or its share of the root of r -/
theorem is_parts {r y : Rat} {u l n d a b : Int} (hd : 0 < d) (hb : 0 < b) (hy : 0 ≤ y) (h : y * y * r = (a : Rat) / b) : Is r (parts u l n d a b) ((u : Rat) / l) ((n : Rat) / d * y) := by
  have nd := cast_ne hd
  have nb := cast_ne hb
  refine .inr (.inr ⟨(absI n : Rat) / d * y, ?_, ?_, rfl, ?_⟩)
  · refine Rat.mul_nonneg ?_ hy
    rw [Rat.div_def]
    exact Rat.mul_nonneg (by exact_mod_cast absI_nonneg n) (Rat.le_of_lt (Rat.inv_pos.mpr (by exact_mod_cast hd)))
  · show _ = ((n * n * a : Int) : Rat) / ((d * d * b : Int) : Rat)
    have e : ((absI n : Int) : Rat) * (absI n : Int) = (n : Rat) * n := by exact_mod_cast abs_sq n
    rw [Rat.intCast_mul, Rat.intCast_mul, Rat.intCast_mul, Rat.intCast_mul]
    grind
  · show _ = ((sgI n : Int) : Rat) * _
    have e : ((sgI n : Int) : Rat) * (absI n : Int) = (n : Rat) := by exact_mod_cast sg_abs n
    rw [← e]
    grind
end PH
namespace PH
variable {r q m q' m' : Rat} {f f' : Five}
theorem sgn_mul (m : Rat) : (sgn m : Rat) * (if m < 0 then -m else m) = m := by
  unfold sgn
  by_cases h : m = 0
  · subst h; rw [if_pos rfl]; show (0 : Rat) * _ = 0; grind
  · rw [if_neg h]
    by_cases p : 0 < m
    · rw [if_pos p, if_neg (by grind)]; show (1 : Rat) * _ = _; grind
    · rw [if_neg p, if_pos (by grind)]; show ((-1 : Int) : Rat) * _ = _; rw [Rat.intCast_neg]; show -(1 : Rat) * _ = _; grind
theorem lq_quo (q : Rat) : ((lq q).1 : Rat) / ((lq q).2 : Rat) = q := (lq_q (den_pos q)).trans (num_den q)
theorem is_can (r q m : Rat) : Is r (can r q m) q m := by
  unfold can
  by_cases h : m = 0
  · rw [if_pos h]; exact .inl ⟨rfl, (lq_quo q).symm, h⟩
  · rw [if_neg h]
    refine .inr (.inr ⟨if m < 0 then -m else m, ?_, ?_, (lq_quo q).symm, (sgn_mul m).symm⟩)
    · split <;> grind
    · refine Eq.trans ?_ (lq_quo _).symm
      split <;> grind
theorem is_is (N : NonSq r) (R : Right f) (h : Is r f q m) : Is r (form f) q m := by rw [is_form N R h]; exact is_can r q m
/-- of the one form: no root, or one that is a share of r's -/
theorem canon_is (C : Canon f) (h : Is r f q m) : q = quo f ∧ ((f.2.2.1 = 0 ∧ f.2.2.2.1 = 0 ∧ f.2.2.2.2 = 1 ∧ m = 0) ∨ ((f.2.2.1 = -1 ∨ f.2.2.1 = 1) ∧ ∃ x : Rat, 0 < x ∧ x * x * r = rad f ∧ m = sg f * x)) := by
  obtain ⟨u, l, s, a, b⟩ := f
  obtain ⟨hl, hg, hm⟩ := C
  unfold Is quo rad sg at *
  dsimp only at *
  rcases hm with ⟨rfl, rfl, rfl⟩ | ⟨hs, ha, hb, hgr, hn⟩
  · have z : ((0 : Int) : Rat) = 0 := rfl
    rcases h with ⟨_, h1, h2⟩ | ⟨x, _, _, h1, h2⟩ | ⟨x, _, _, h1, h2⟩
    · exact ⟨h1, .inl ⟨rfl, rfl, rfl, h2⟩⟩
    · exact ⟨by rw [h1, z]; grind, .inl ⟨rfl, rfl, rfl, h2⟩⟩
    · exact ⟨h1, .inl ⟨rfl, rfl, rfl, by rw [h2, z]; grind⟩⟩
  · have no : ∀ x : Rat, 0 ≤ x → x * x = (a : Rat) / b → False := fun x x0 hx => by
      have := (both_of hb x0 hx).1
      rw [low_id hgr, hn] at this
      cases this
    rcases h with ⟨h0, _, _⟩ | ⟨x, x0, hx, _, _⟩ | ⟨x, x0, hx, h1, h2⟩
    · omega
    · exact (no x x0 hx).elim
    · refine ⟨h1, .inr ⟨hs, x, ?_, hx, h2⟩⟩
      by_cases e : x = 0
      · subst e
        exact (no 0 x0 (by rw [← hx]; grind)).elim
      · grind
theorem nonsq2 : NonSq 2 := by
  refine ⟨by decide +kernel, fun x hx => ?_⟩
  have y0 : (0 : Rat) ≤ if x < 0 then -x else x := by split <;> grind
  have hy : (if x < 0 then -x else x) * (if x < 0 then -x else x) = ((2 : Int) : Rat) / ((1 : Int) : Rat) := by
    have : ((2 : Int) : Rat) / ((1 : Int) : Rat) = 2 := by decide +kernel
    rw [this]
    split <;> grind
  have h := (both_of (by decide) y0 hy).1
  have : low 2 1 = (2, 1) := by decide
  rw [this] at h
  unfold both isq at h
  have e : rt 2 = 1 := rt_uniq (by decide) (by decide) (by decide)
  rw [e] at h
  exact absurd h (by rw [rt1]; decide)
theorem rad_pos {a b : Int} (ha : 0 < a) (hb : 0 < b) : (0 : Rat) < (a : Rat) / b := by
  rw [Rat.div_def]
  exact Rat.mul_pos (by exact_mod_cast ha) (Rat.inv_pos.mpr (by exact_mod_cast hb))
theorem isq_zero_of {a b : Int} (h : both (a, b) = false) (g1 : g a b = 1) (hb : 0 < b) : a ≠ 0 := fun z => by
  subst z
  have : b = 1 := by
    unfold g at g1
    rw [show Int.natAbs 0 = 0 from rfl, Nat.gcd_zero_left] at g1
    omega
  subst this
  unfold both at h
  rw [isq0, isq1] at h
  cases h
/-- a number with a root has a root that is none of a quotient -/
theorem nonsq_rad (C : Canon f) (h : f.2.2.1 ≠ 0) : NonSq (rad f) ∧ Is (rad f) f (quo f) (sg f) := by
  obtain ⟨u, l, s, a, b⟩ := f
  obtain ⟨hl, hg, hm⟩ := C
  dsimp only at *
  rcases hm with ⟨z, _, _⟩ | ⟨hs, ha, hb, hgr, hn⟩
  · exact absurd z h
  · have na := isq_zero_of hn hgr hb
    refine ⟨⟨rad_pos (a := a) (b := b) (by omega) hb, fun x hx => ?_⟩, .inr (.inr ⟨1, by decide +kernel, by grind, rfl, by grind⟩)⟩
    have y0 : (0 : Rat) ≤ if x < 0 then -x else x := by split <;> grind
    have hy : (if x < 0 then -x else x) * (if x < 0 then -x else x) = (a : Rat) / b := Eq.trans (by split <;> grind) hx
    have := (both_of hb y0 hy).1
    rw [low_id hgr, hn] at this
    cases this
theorem is_plain (r : Rat) (h : f.2.2.1 = 0) : Is r f (quo f) 0 := .inl ⟨h, rfl, rfl⟩
/-! ### on one root -/
abbrev Roots := Int × Int × Int × Int × Int
def ratio (f f' : Five) : Int × Int := low (f'.2.2.2.1 * f.2.2.2.2) (f'.2.2.2.2 * f.2.2.2.1)
def go (f f' : Five) : Bool := decide (f.2.2.1 = 0) || decide (f'.2.2.1 = 0) || both (ratio f f')
def roots (f f' : Five) : Roots :=
  if f.2.2.1 = 0 then (f'.2.2.2.1, f'.2.2.2.2, 1, 0, f'.2.2.1)
  else if f'.2.2.1 = 0 then (f.2.2.2.1, f.2.2.2.2, 1, f.2.2.1, 0)
  else (f.2.2.2.1, f.2.2.2.2, rt (ratio f f').2, f.2.2.1 * rt (ratio f f').2, f'.2.2.1 * rt (ratio f f').1)
/-- the roots of both are shares of one -/
structure On (r m m' : Rat) (t : Roots) (y : Rat) : Prop where
  a : 0 ≤ t.1
  b : 0 < t.2.1
  d : 0 < t.2.2.1
  y0 : 0 ≤ y
  sq : y * y * r = (t.1 : Rat) / (t.2.1 : Rat)
  m : m = (t.2.2.2.1 : Rat) / (t.2.2.1 : Rat) * y
  m' : m' = (t.2.2.2.2 : Rat) / (t.2.2.1 : Rat) * y
theorem mul3_ne {x r : Rat} (hx : x ≠ 0) (hr : r ≠ 0) : x * x * r ≠ 0 := by grind
theorem one_div (a : Rat) : a / ((1 : Int) : Rat) = a := by show a / (1 : Rat) = a; grind
theorem ratio_sq {a b a' b' : Int} {x x' : Rat} (r0 : r ≠ 0) (ha : 0 < a) (hb : 0 < b) (hb' : 0 < b') (x0 : 0 < x) (x0' : 0 < x') (hx : x * x * r = (a : Rat) / b) (hx' : x' * x' * r = (a' : Rat) / b') :
    (x' / x) * (x' / x) = ((a' * b : Int) : Rat) / ((b' * a : Int) : Rat) := by
  have na := cast_ne ha
  have nb := cast_ne hb
  have nb' := cast_ne hb'
  rw [Rat.intCast_mul, Rat.intCast_mul]
  grind
theorem div_nn {a b : Rat} (ha : 0 ≤ a) (hb : 0 < b) : 0 ≤ a / b := by
  rw [Rat.div_def]
  exact Rat.mul_nonneg ha (Rat.le_of_lt (Rat.inv_pos.mpr hb))
theorem roots_on (N : NonSq r) (C : Canon f) (C' : Canon f') (h : Is r f q m) (h' : Is r f' q' m') : go f f' = true ∧ ∃ y, On r m m' (roots f f') y := by
  have R := canon_right C
  have R' := canon_right C'
  obtain ⟨_, h⟩ := canon_is C h
  obtain ⟨_, h'⟩ := canon_is C' h'
  have z0 : ((0 : Int) : Rat) = 0 := rfl
  unfold go roots
  rcases h with ⟨s0, a0, b0, rfl⟩ | ⟨hs, x, x0, hx, hm⟩
  · rw [if_pos s0, s0]
    refine ⟨rfl, ?_⟩
    rcases h' with ⟨s1, a1, b1, rfl⟩ | ⟨hs', x', x0', hx', hm'⟩
    · exact ⟨0, R'.a, R'.b, (by decide : (0 : Int) < 1), Rat.le_refl, by dsimp only; rw [a1, b1, z0]; grind, by grind, by grind⟩
    · exact ⟨x', R'.a, R'.b, (by decide : (0 : Int) < 1), Rat.le_of_lt x0', hx', by dsimp only; rw [z0]; grind, by dsimp only; rw [one_div]; exact hm'⟩
  · rw [if_neg (by omega)]
    rcases h' with ⟨s1, a1, b1, rfl⟩ | ⟨hs', x', x0', hx', hm'⟩
    · rw [if_pos s1, s1]
      exact ⟨by simp, x, R.a, R.b, (by decide : (0 : Int) < 1), Rat.le_of_lt x0, hx, by dsimp only; rw [one_div]; exact hm, by dsimp only; rw [z0]; grind⟩
    · rw [if_neg (by omega)]
      obtain ⟨u, l, s, a, b⟩ := f
      obtain ⟨u', l', s', a', b'⟩ := f'
      unfold rad sg at *
      have ha := R.a
      have hb := R.b
      have ha' := R'.a
      have hb' := R'.b
      dsimp only at *
      have nr := lt_ne N.pos
      have ap : 0 < a := by
        rcases Int.lt_or_eq_of_le ha with h | h
        · exact h
        · subst h
          have nb := cast_ne hb
          have : x * x * r = 0 := by rw [hx, z0]; grind
          exact absurd this (mul3_ne (lt_ne x0) nr)
      have e := ratio_sq nr ap hb hb' x0 x0' hx hx'
      have hp : 0 < b' * a := Int.mul_pos hb' ap
      obtain ⟨k1, k2, k3⟩ := both_of hp (div_nn (Rat.le_of_lt x0') x0) e
      have eq : (rt (ratio (u, l, s, a, b) (u', l', s', a', b')).1 : Rat) / (rt (ratio (u, l, s, a, b) (u', l', s', a', b')).2 : Rat) = x' / x := by
        unfold ratio; dsimp only; rw [k2, k3]; exact num_den _
      have hd : 0 < rt (ratio (u, l, s, a, b) (u', l', s', a', b')).2 := by unfold ratio; dsimp only; rw [k3]; exact den_pos _
      have nd := cast_ne hd
      refine ⟨?_, x, ha, hb, hd, Rat.le_of_lt x0, hx, ?_, ?_⟩
      · show (decide (s = 0) || decide (s' = 0) || both (low (a' * b) (b' * a))) = true
        rw [k1, Bool.or_true]
      · dsimp only
        rw [Rat.intCast_mul, hm]
        grind
      · dsimp only
        rw [Rat.intCast_mul, hm']
        grind
/-! ### sums, products -/
def fsum (f f' : Five) : Five :=
  let t := roots f f'
  parts (f.1 * f'.2.1 + f'.1 * f.2.1) (f.2.1 * f'.2.1) (t.2.2.2.1 + t.2.2.2.2) t.2.2.1 t.1 t.2.1
def fprod (f f' : Five) : Five :=
  let t := roots f f'
  let bottom := f.2.1 * f'.2.1
  let square := t.2.2.1 * t.2.2.1 * t.2.1
  parts (f.1 * f'.1 * square + t.2.2.2.1 * t.2.2.2.2 * t.1 * bottom) (bottom * square) (f.1 * f'.2.1 * t.2.2.2.2 + f'.1 * f.2.1 * t.2.2.2.1) (bottom * t.2.2.1) t.1 t.2.1
theorem fsum_is (N : NonSq r) (C : Canon f) (C' : Canon f') (h : Is r f q m) (h' : Is r f' q' m') : Right (fsum f f') ∧ Is r (fsum f f') (q + q') (m + m') := by
  obtain ⟨_, y, O⟩ := roots_on N C C' h h'
  have hq := (canon_is C h).1
  have hq' := (canon_is C' h').1
  have hl := C.l
  have hl' := C'.l
  have n1 := cast_ne hl
  have n2 := cast_ne hl'
  have n3 := cast_ne O.d
  refine ⟨parts_right (Int.mul_pos hl hl') O.d O.a O.b, ?_⟩
  have k := is_parts (u := f.1 * f'.2.1 + f'.1 * f.2.1) (l := f.2.1 * f'.2.1) (n := (roots f f').2.2.2.1 + (roots f f').2.2.2.2) O.d O.b O.y0 O.sq
  rw [show q + q' = ((f.1 * f'.2.1 + f'.1 * f.2.1 : Int) : Rat) / ((f.2.1 * f'.2.1 : Int) : Rat) by rw [Rat.intCast_add, Rat.intCast_mul, Rat.intCast_mul, Rat.intCast_mul, hq, hq']; unfold quo; grind,
    show m + m' = (((roots f f').2.2.2.1 + (roots f f').2.2.2.2 : Int) : Rat) / ((roots f f').2.2.1 : Rat) * y by rw [Rat.intCast_add, O.m, O.m']; grind]
  exact k
theorem mulQ {u l u' l' n n' d y : Rat} (h1 : l ≠ 0) (h2 : l' ≠ 0) (h3 : d ≠ 0) : u / l * (n' / d * y) + u' / l' * (n / d * y) = (u * l' * n' + u' * l * n) / (l * l' * d) * y := by grind
theorem fprod_is (N : NonSq r) (C : Canon f) (C' : Canon f') (h : Is r f q m) (h' : Is r f' q' m') : Right (fprod f f') ∧ Is r (fprod f f') (q * q' + m * m' * r) (q * m' + q' * m) := by
  obtain ⟨_, y, O⟩ := roots_on N C C' h h'
  have hq := (canon_is C h).1
  have hq' := (canon_is C' h').1
  have hl := C.l
  have hl' := C'.l
  have n1 := cast_ne hl
  have n2 := cast_ne hl'
  have n3 := cast_ne O.d
  have n4 := cast_ne O.b
  have hsq : 0 < (roots f f').2.2.1 * (roots f f').2.2.1 * (roots f f').2.1 := Int.mul_pos (Int.mul_pos O.d O.d) O.b
  have hbt : 0 < f.2.1 * f'.2.1 := Int.mul_pos hl hl'
  refine ⟨parts_right (Int.mul_pos hbt hsq) (Int.mul_pos hbt O.d) O.a O.b, ?_⟩
  have k := is_parts (u := f.1 * f'.1 * ((roots f f').2.2.1 * (roots f f').2.2.1 * (roots f f').2.1) + (roots f f').2.2.2.1 * (roots f f').2.2.2.2 * (roots f f').1 * (f.2.1 * f'.2.1)) (l := f.2.1 * f'.2.1 * ((roots f f').2.2.1 * (roots f f').2.2.1 * (roots f f').2.1))
    (n := f.1 * f'.2.1 * (roots f f').2.2.2.2 + f'.1 * f.2.1 * (roots f f').2.2.2.1) (Int.mul_pos hbt O.d) O.b O.y0 O.sq
  have e1 : q * q' + m * m' * r = ((f.1 * f'.1 * ((roots f f').2.2.1 * (roots f f').2.2.1 * (roots f f').2.1) + (roots f f').2.2.2.1 * (roots f f').2.2.2.2 * (roots f f').1 * (f.2.1 * f'.2.1) : Int) : Rat) / ((f.2.1 * f'.2.1 * ((roots f f').2.2.1 * (roots f f').2.2.1 * (roots f f').2.1) : Int) : Rat) := by
    have s := O.sq
    rw [hq, hq', O.m, O.m']
    unfold quo
    simp only [Rat.intCast_add, Rat.intCast_mul]
    generalize ((roots f f').2.2.1 : Rat) = d at *
    generalize ((roots f f').2.1 : Rat) = b at *
    generalize ((roots f f').1 : Rat) = a at *
    have s2 : a = y * y * r * b := by grind
    rw [s2]
    grind
  have e2 : q * m' + q' * m = ((f.1 * f'.2.1 * (roots f f').2.2.2.2 + f'.1 * f.2.1 * (roots f f').2.2.2.1 : Int) : Rat) / ((f.2.1 * f'.2.1 * (roots f f').2.2.1 : Int) : Rat) * y := by
    rw [hq, hq', O.m, O.m']
    unfold quo
    simp only [Rat.intCast_add, Rat.intCast_mul]
    exact mulQ n1 n2 n3
  rw [e1, e2]
  exact k
end PH
namespace PH
variable {r q m q' m' : Rat} {f f' : Five}
/-! ### as the law reckons -/
def lratio (f f' : Five) : Int × Int := if f.2.2.1 = 0 ∨ f'.2.2.1 = 0 then (1, 1) else (rt (ratio f f').1, rt (ratio f f').2)
def lradix (f f' : Five) : Int × Int := if f.2.2.1 = 0 then f'.2.2.2 else f.2.2.2
def lroots (f f' : Five) : Roots := ((lradix f f').1, (lradix f f').2, (lratio f f').2, f.2.2.1 * (lratio f f').2, f'.2.2.1 * (lratio f f').1)
theorem lroots_on (N : NonSq r) (C : Canon f) (C' : Canon f') (h : Is r f q m) (h' : Is r f' q' m') : ∃ y, On r m m' (lroots f f') y := by
  have R := canon_right C
  have R' := canon_right C'
  have K := (roots_on N C C' h h').2
  obtain ⟨_, h⟩ := canon_is C h
  obtain ⟨_, h'⟩ := canon_is C' h'
  have z0 : ((0 : Int) : Rat) = 0 := rfl
  unfold lroots lradix lratio
  rcases h with ⟨s0, a0, b0, rfl⟩ | ⟨hs, x, x0, hx, hm⟩
  · rw [if_pos s0, if_pos (.inl s0), s0]
    rcases h' with ⟨s1, a1, b1, rfl⟩ | ⟨hs', x', x0', hx', hm'⟩
    · exact ⟨0, R'.a, R'.b, (by decide : (0 : Int) < 1), Rat.le_refl, by dsimp only; rw [a1, b1, z0]; grind, by grind, by grind⟩
    · exact ⟨x', R'.a, R'.b, (by decide : (0 : Int) < 1), Rat.le_of_lt x0', hx', by dsimp only; rw [Int.zero_mul, z0]; grind, by dsimp only; rw [Int.mul_one, one_div]; exact hm'⟩
  · have s0 : f.2.2.1 ≠ 0 := by omega
    rw [if_neg s0]
    rcases h' with ⟨s1, a1, b1, rfl⟩ | ⟨hs', x', x0', hx', hm'⟩
    · rw [if_pos (.inr s1), s1]
      exact ⟨x, R.a, R.b, (by decide : (0 : Int) < 1), Rat.le_of_lt x0, hx, by dsimp only; rw [Int.mul_one, one_div]; exact hm, by dsimp only; rw [Int.zero_mul, z0]; grind⟩
    · have s1 : f'.2.2.1 ≠ 0 := by omega
      rw [if_neg (by omega)]
      unfold roots at K
      rw [if_neg s0, if_neg s1] at K
      exact K
/-- _law_of_parts' mark -/
def lmark (n : Int) : Int := if n < 0 then -1 else if 0 < n then 1 else 0
theorem lmark_eq (n : Int) : lmark n = sgI n := by unfold lmark sgI; split <;> split <;> omega
def lsum (f f' : Five) : Five :=
  let t := lroots f f'
  parts (f.1 * f'.2.1 + f'.1 * f.2.1) (f.2.1 * f'.2.1) (t.2.2.2.1 + t.2.2.2.2) t.2.2.1 t.1 t.2.1
/-- the product: both * radix[0] with one bottom less than the program's -/
def lprod (f f' : Five) : Five :=
  let p := lratio f f'
  let x := lradix f f'
  let both := f.2.2.1 * f'.2.2.1 * p.1
  let whole := f.2.1 * f'.2.1 * p.2
  parts (f.1 * f'.1 * p.2 * x.2 + both * x.1 * f.2.1 * f'.2.1) (whole * x.2) (f.1 * f'.2.2.1 * p.1 * f'.2.1 + f'.1 * f.2.2.1 * p.2 * f.2.1) whole x.1 x.2
theorem lsum_is (N : NonSq r) (C : Canon f) (C' : Canon f') (h : Is r f q m) (h' : Is r f' q' m') : Right (lsum f f') ∧ Is r (lsum f f') (q + q') (m + m') := by
  obtain ⟨y, O⟩ := lroots_on N C C' h h'
  have hq := (canon_is C h).1
  have hq' := (canon_is C' h').1
  have hl := C.l
  have hl' := C'.l
  have n1 := cast_ne hl
  have n2 := cast_ne hl'
  have n3 := cast_ne O.d
  refine ⟨parts_right (Int.mul_pos hl hl') O.d O.a O.b, ?_⟩
  have k := is_parts (u := f.1 * f'.2.1 + f'.1 * f.2.1) (l := f.2.1 * f'.2.1) (n := (lroots f f').2.2.2.1 + (lroots f f').2.2.2.2) O.d O.b O.y0 O.sq
  rw [show q + q' = ((f.1 * f'.2.1 + f'.1 * f.2.1 : Int) : Rat) / ((f.2.1 * f'.2.1 : Int) : Rat) by rw [Rat.intCast_add, Rat.intCast_mul, Rat.intCast_mul, Rat.intCast_mul, hq, hq']; unfold quo; grind,
    show m + m' = (((lroots f f').2.2.2.1 + (lroots f f').2.2.2.2 : Int) : Rat) / ((lroots f f').2.2.1 : Rat) * y by rw [Rat.intCast_add, O.m, O.m']; grind]
  exact k
theorem prod1 {u u' l l' s s' w v y r a b : Rat} (h1 : l ≠ 0) (h2 : l' ≠ 0) (h3 : w ≠ 0) (h4 : b ≠ 0) (e : y * y * r = a / b) :
    u / l * (u' / l') + s * w / w * y * (s' * v / w * y) * r = (u * u' * w * b + s * s' * v * a * l * l') / (l * l' * w * b) := by
  have s2 : a = y * y * r * b := by grind
  rw [s2]
  grind
theorem prod2 {u u' l l' s s' w v y : Rat} (h1 : l ≠ 0) (h2 : l' ≠ 0) (h3 : w ≠ 0) :
    u / l * (s' * v / w * y) + u' / l' * (s * w / w * y) = (u * s' * v * l' + u' * s * w * l) / (l * l' * w) * y := by grind
theorem lprod_is (N : NonSq r) (C : Canon f) (C' : Canon f') (h : Is r f q m) (h' : Is r f' q' m') : Right (lprod f f') ∧ Is r (lprod f f') (q * q' + m * m' * r) (q * m' + q' * m) := by
  obtain ⟨y, O⟩ := lroots_on N C C' h h'
  have hq := (canon_is C h).1
  have hq' := (canon_is C' h').1
  have hl := C.l
  have hl' := C'.l
  have n1 := cast_ne hl
  have n2 := cast_ne hl'
  have hw : 0 < (lratio f f').2 := O.d
  have n3 := cast_ne hw
  have hb : 0 < (lradix f f').2 := O.b
  have n4 := cast_ne hb
  have hm : m = (f.2.2.1 * (lratio f f').2 : Int) / ((lratio f f').2 : Int) * y := O.m
  have hm' : m' = (f'.2.2.1 * (lratio f f').1 : Int) / ((lratio f f').2 : Int) * y := O.m'
  have sq : y * y * r = ((lradix f f').1 : Rat) / ((lradix f f').2 : Rat) := O.sq
  have hwh : 0 < f.2.1 * f'.2.1 * (lratio f f').2 := Int.mul_pos (Int.mul_pos hl hl') hw
  refine ⟨parts_right (Int.mul_pos hwh hb) hwh O.a hb, ?_⟩
  have k := is_parts (u := f.1 * f'.1 * (lratio f f').2 * (lradix f f').2 + f.2.2.1 * f'.2.2.1 * (lratio f f').1 * (lradix f f').1 * f.2.1 * f'.2.1) (l := f.2.1 * f'.2.1 * (lratio f f').2 * (lradix f f').2)
    (n := f.1 * f'.2.2.1 * (lratio f f').1 * f'.2.1 + f'.1 * f.2.2.1 * (lratio f f').2 * f.2.1) hwh hb O.y0 sq
  have e1 : q * q' + m * m' * r = ((f.1 * f'.1 * (lratio f f').2 * (lradix f f').2 + f.2.2.1 * f'.2.2.1 * (lratio f f').1 * (lradix f f').1 * f.2.1 * f'.2.1 : Int) : Rat) / ((f.2.1 * f'.2.1 * (lratio f f').2 * (lradix f f').2 : Int) : Rat) := by
    rw [hq, hq', hm, hm']
    unfold quo
    simp only [Rat.intCast_add, Rat.intCast_mul]
    exact prod1 n1 n2 n3 n4 sq
  have e2 : q * m' + q' * m = ((f.1 * f'.2.2.1 * (lratio f f').1 * f'.2.1 + f'.1 * f.2.2.1 * (lratio f f').2 * f.2.1 : Int) : Rat) / ((f.2.1 * f'.2.1 * (lratio f f').2 : Int) : Rat) * y := by
    rw [hq, hq', hm, hm']
    unfold quo
    simp only [Rat.intCast_add, Rat.intCast_mul]
    exact prod2 n1 n2 n3
  rw [e1, e2]
  exact k
/-! ### below nought, turned over, nought -/
def neg (f : Five) : Five := (0 - f.1, f.2.1, 0 - f.2.2.1, f.2.2.2.1, f.2.2.2.2)
def about (f : Five) : Five := (f.1, f.2.1, 0 - f.2.2.1, f.2.2.2.1, f.2.2.2.2)
theorem g_neg (a b : Int) : g (0 - a) b = g a b := by unfold g; rw [Int.zero_sub, Int.natAbs_neg]
theorem canon_about (C : Canon f) : Canon (about f) := by
  obtain ⟨u, l, s, a, b⟩ := f
  obtain ⟨hl, hg, hm⟩ := C
  refine ⟨hl, hg, ?_⟩
  unfold about
  dsimp only at *
  rcases hm with ⟨rfl, rfl, rfl⟩ | ⟨hs, h⟩
  · exact .inl ⟨rfl, rfl, rfl⟩
  · exact .inr ⟨by omega, h⟩
theorem canon_neg (C : Canon f) : Canon (neg f) := by
  obtain ⟨u, l, s, a, b⟩ := f
  obtain ⟨hl, hg, hm⟩ := C
  refine ⟨hl, (g_neg u l).trans hg, ?_⟩
  unfold neg
  dsimp only at *
  rcases hm with ⟨rfl, rfl, rfl⟩ | ⟨hs, h⟩
  · exact .inl ⟨rfl, rfl, rfl⟩
  · exact .inr ⟨by omega, h⟩
theorem sub0 (n : Int) : ((0 - n : Int) : Rat) = -(n : Rat) := by rw [Int.zero_sub, Rat.intCast_neg]
theorem is_about (C : Canon f) (h : Is r f q m) : Is r (about f) q (-m) := by
  obtain ⟨hq, h⟩ := canon_is C h
  rcases h with ⟨s0, _, _, rfl⟩ | ⟨_, x, x0, hx, hm⟩
  · exact .inl ⟨by show 0 - f.2.2.1 = 0; omega, hq, by grind⟩
  · exact .inr (.inr ⟨x, Rat.le_of_lt x0, hx, hq, by show -m = ((0 - f.2.2.1 : Int) : Rat) * x; rw [sub0, hm]; unfold sg; grind⟩)
theorem quo_neg (f : Five) : quo (neg f) = -quo f := by unfold quo neg; dsimp only; rw [sub0]; grind
theorem is_neg (C : Canon f) (h : Is r f q m) : Is r (neg f) (-q) (-m) := by
  obtain ⟨hq, h⟩ := canon_is C h
  rcases h with ⟨s0, _, _, rfl⟩ | ⟨_, x, x0, hx, hm⟩
  · exact .inl ⟨by show 0 - f.2.2.1 = 0; omega, by rw [quo_neg, hq], by grind⟩
  · exact .inr (.inr ⟨x, Rat.le_of_lt x0, hx, by rw [quo_neg, hq], by show -m = ((0 - f.2.2.1 : Int) : Rat) * x; rw [sub0, hm]; unfold sg; grind⟩)
/-- the size by which one divides is no nought -/
theorem norm_ne (N : NonSq r) (h : q ≠ 0 ∨ m ≠ 0) : q * q - m * m * r ≠ 0 := fun z => by
  by_cases hm : m = 0
  · subst hm
    rcases h with h | h
    · exact mul3_ne h h (by grind)
    · exact h rfl
  · exact N.no (q / m) (by grind)
end PH
namespace PH
variable {r q m q' m' : Rat} {f f' : Five}
/-- 1 by a number without a root -/
def turn (f : Five) : Five := (sgI f.1 * f.2.1, absI f.1, 0, 0, 1)
theorem absI_pos {n : Int} (h : n ≠ 0) : 0 < absI n := by unfold absI; split <;> omega
theorem plain_of (N : NonSq r) (C : Canon f) (h : Is r f q 0) : f.2.2.1 = 0 ∧ f.2.2.2.1 = 0 ∧ f.2.2.2.2 = 1 ∧ q = quo f := by
  obtain ⟨hq, h⟩ := canon_is C h
  rcases h with ⟨a, b, c, _⟩ | ⟨hs, x, x0, hx, hm⟩
  · exact ⟨a, b, c, hq⟩
  · exfalso
    unfold sg at hm
    have z := lt_ne x0
    rcases hs with e | e <;> rw [e] at hm
    · rw [Rat.intCast_neg] at hm
      exact z (by have : (0 : Rat) = -(1 : Rat) * x := hm; grind)
    · exact z (by have : (0 : Rat) = (1 : Rat) * x := hm; grind)
theorem quo_zero (C : Canon f) : quo f = 0 ↔ f.1 = 0 := by
  have n := cast_ne C.l
  unfold quo
  constructor
  · intro h
    have : (f.1 : Rat) = 0 := by grind
    exact_mod_cast this
  · intro h
    rw [h]
    show (0 : Rat) / _ = 0
    grind
theorem turn_is (r : Rat) (C : Canon f) (n : f.1 ≠ 0) : Right (turn f) ∧ Is r (turn f) (1 / quo f) 0 := by
  have hp := absI_pos n
  refine ⟨⟨hp, .inr (.inl rfl), Int.le_refl 0, by show (0 : Int) < 1; decide⟩, .inl ⟨rfl, ?_, rfl⟩⟩
  unfold quo turn
  dsimp only
  have c1 := cast_ne C.l
  have c2 := cast_ne hp
  have c3 : (f.1 : Rat) ≠ 0 := fun z => n (by exact_mod_cast z)
  have e : ((sgI f.1 : Int) : Rat) * (absI f.1 : Int) = (f.1 : Rat) := by exact_mod_cast sg_abs f.1
  have e2 : ((absI f.1 : Int) : Rat) * (absI f.1 : Int) = (f.1 : Rat) * f.1 := by exact_mod_cast abs_sq f.1
  rw [Rat.intCast_mul]
  grind
/-- the quotient by two ways to multiply -/
def fdiv (mul : Five → Five → Five) (f f' : Five) : Five :=
  mul (form (mul f (about f'))) (form (turn (form (mul f' (about f')))))
theorem fdiv_is {mul : Five → Five → Five}
    (hm : ∀ {f f' : Five} {q m q' m' : Rat}, Canon f → Canon f' → Is r f q m → Is r f' q' m' → Right (mul f f') ∧ Is r (mul f f') (q * q' + m * m' * r) (q * m' + q' * m))
    (N : NonSq r) (C : Canon f) (C' : Canon f') (h : Is r f q m) (h' : Is r f' q' m') (nz : q' ≠ 0 ∨ m' ≠ 0) :
    (form (mul f' (about f'))).1 ≠ 0 ∧ Right (turn (form (mul f' (about f')))) ∧ Right (fdiv mul f f') ∧ Is r (fdiv mul f f') ((q * q' - m * m' * r) / (q' * q' - m' * m' * r)) ((m * q' - q * m') / (q' * q' - m' * m' * r)) := by
  have D := norm_ne N nz
  have Ca := canon_about C'
  have ha := is_about C' h'
  obtain ⟨R1, h1⟩ := hm C' Ca h' ha
  rw [show q' * q' + m' * -m' * r = q' * q' - m' * m' * r by grind, show q' * -m' + q' * m' = 0 by grind] at h1
  have k1 := is_is N R1 h1
  have C1 := canon_form R1
  obtain ⟨_, _, _, e1⟩ := plain_of N C1 k1
  have n1 : (form (mul f' (about f'))).1 ≠ 0 := fun z => D (by rw [e1]; exact (quo_zero C1).mpr z)
  obtain ⟨R2, h2⟩ := turn_is r C1 n1
  rw [← e1] at h2
  have k2 := is_is N R2 h2
  obtain ⟨R3, h3⟩ := hm C Ca h ha
  have k3 := is_is N R3 h3
  obtain ⟨R4, h4⟩ := hm (canon_form R3) (canon_form R2) k3 k2
  refine ⟨n1, R2, R4, ?_⟩
  rw [show (q * q' - m * m' * r) / (q' * q' - m' * m' * r) = (q * q' + m * -m' * r) * (1 / (q' * q' - m' * m' * r)) + (q * -m' + q' * m) * 0 * r by grind,
    show (m * q' - q * m') / (q' * q' - m' * m' * r) = (q * q' + m * -m' * r) * 0 + 1 / (q' * q' - m' * m' * r) * (q * -m' + q' * m) by grind]
  exact h4
theorem pdiv_is (N : NonSq r) (C : Canon f) (C' : Canon f') (h : Is r f q m) (h' : Is r f' q' m') (nz : q' ≠ 0 ∨ m' ≠ 0) :
    (form (fprod f' (about f'))).1 ≠ 0 ∧ Right (turn (form (fprod f' (about f')))) ∧ Right (fdiv fprod f f') ∧ Is r (fdiv fprod f f') ((q * q' - m * m' * r) / (q' * q' - m' * m' * r)) ((m * q' - q * m') / (q' * q' - m' * m' * r)) :=
  fdiv_is (fun a b c d => fprod_is N a b c d) N C C' h h' nz
theorem ldiv_is (N : NonSq r) (C : Canon f) (C' : Canon f') (h : Is r f q m) (h' : Is r f' q' m') (nz : q' ≠ 0 ∨ m' ≠ 0) :
    (form (lprod f' (about f'))).1 ≠ 0 ∧ Right (turn (form (lprod f' (about f')))) ∧ Right (fdiv lprod f f') ∧ Is r (fdiv lprod f f') ((q * q' - m * m' * r) / (q' * q' - m' * m' * r)) ((m * q' - q * m') / (q' * q' - m' * m' * r)) :=
  fdiv_is (fun a b c d => lprod_is N a b c d) N C C' h h' nz
/-! ### what the laws ask -/
structure Go (r : Rat) (f f' : Five) (q m q' m' : Rat) : Prop where
  N : NonSq r
  C : Canon f
  C' : Canon f'
  h : Is r f q m
  h' : Is r f' q' m'
theorem Go.swap (G : Go r f f' q m q' m') : Go r f' f q' m' q m := ⟨G.N, G.C', G.C, G.h', G.h⟩
theorem Go.neg (G : Go r f f' q m q' m') : Go r f (neg f') q m (-q') (-m') := ⟨G.N, G.C, canon_neg G.C', G.h, is_neg G.C' G.h'⟩
theorem Go.sum (G : Go r f f' q m q' m') : Go r (form (fsum f f')) f' (q + q') (m + m') q' m' := by
  obtain ⟨R, h⟩ := fsum_is G.N G.C G.C' G.h G.h'
  exact ⟨G.N, canon_form R, G.C', is_is G.N R h, G.h'⟩
theorem Go.prod (G : Go r f f' q m q' m') : Go r (form (fprod f f')) f' (q * q' + m * m' * r) (q * m' + q' * m) q' m' := by
  obtain ⟨R, h⟩ := fprod_is G.N G.C G.C' G.h G.h'
  exact ⟨G.N, canon_form R, G.C', is_is G.N R h, G.h'⟩
theorem Go.nought (G : Go r f f' q m q' m') (n : ¬ (f'.1 = 0 ∧ f'.2.2.1 = 0)) : q' ≠ 0 ∨ m' ≠ 0 := by
  obtain ⟨hq, h⟩ := canon_is G.C' G.h'
  rcases h with ⟨s0, _, _, _⟩ | ⟨hs, x, x0, hx, hm⟩
  · refine .inl fun z => n ⟨(quo_zero G.C').mp (by rw [← hq]; exact z), s0⟩
  · refine .inr fun z => ?_
    have z2 := lt_ne x0
    rw [hm] at z
    unfold sg at z
    rcases hs with e | e <;> rw [e] at z
    · rw [Rat.intCast_neg] at z
      exact z2 (by have : -(1 : Rat) * x = 0 := z; grind)
    · exact z2 (by have : (1 : Rat) * x = 0 := z; grind)
theorem Go.div (G : Go r f f' q m q' m') (n : q' ≠ 0 ∨ m' ≠ 0) : Go r (form (fdiv fprod f f')) f' ((q * q' - m * m' * r) / (q' * q' - m' * m' * r)) ((m * q' - q * m') / (q' * q' - m' * m' * r)) q' m' := by
  obtain ⟨_, _, R, h⟩ := pdiv_is G.N G.C G.C' G.h G.h' n
  exact ⟨G.N, canon_form R, G.C', is_is G.N R h, G.h'⟩
theorem Go.sum_eq (G : Go r f f' q m q' m') : form (fsum f f') = form (lsum f f') := by
  obtain ⟨R, h⟩ := fsum_is G.N G.C G.C' G.h G.h'
  obtain ⟨R', h'⟩ := lsum_is G.N G.C G.C' G.h G.h'
  exact is_same G.N R R' h h'
theorem Go.prod_eq (G : Go r f f' q m q' m') : form (fprod f f') = form (lprod f f') := by
  obtain ⟨R, h⟩ := fprod_is G.N G.C G.C' G.h G.h'
  obtain ⟨R', h'⟩ := lprod_is G.N G.C G.C' G.h G.h'
  exact is_same G.N R R' h h'
theorem Go.div_eq (G : Go r f f' q m q' m') (n : q' ≠ 0 ∨ m' ≠ 0) : form (fdiv fprod f f') = form (fdiv lprod f f') := by
  obtain ⟨_, _, R, h⟩ := pdiv_is G.N G.C G.C' G.h G.h' n
  obtain ⟨_, _, R', h'⟩ := ldiv_is G.N G.C G.C' G.h G.h' n
  exact is_same G.N R R' h h'
theorem Go.eq_left {f0 : Five} {q0 m0 : Rat} (G : Go r f f' q m q' m') (C0 : Canon f0) (h : Is r f0 q0 m0) (e1 : q = q0) (e2 : m = m0) : f = f0 := by
  subst e1 e2
  rw [← form_canon G.C, ← form_canon C0]
  exact is_same G.N (canon_right G.C) (canon_right C0) G.h h
/-- what is put to is taken off again -/
theorem Go.sum_off (G : Go r f f' q m q' m') : form (fsum (form (fsum f f')) (PH.neg f')) = f := G.sum.neg.sum.eq_left G.C G.h (by grind) (by grind)
theorem Go.off_sum (G : Go r f f' q m q' m') : form (fsum (form (fsum f (PH.neg f'))) f') = f := by
  have g := G.neg.sum
  have g2 : Go r (form (fsum f (PH.neg f'))) f' (q + -q') (m + -m') q' m' := ⟨G.N, g.C, G.C', g.h, G.h'⟩
  exact g2.sum.eq_left G.C G.h (by grind) (by grind)
/-- what is multiplied is divided again -/
theorem Go.prod_div (G : Go r f f' q m q' m') (n : q' ≠ 0 ∨ m' ≠ 0) : form (fdiv fprod (form (fprod f f')) f') = f := by
  have D := norm_ne G.N n
  exact (G.prod.div n).eq_left G.C G.h (by grind) (by grind)
theorem Go.div_prod (G : Go r f f' q m q' m') (n : q' ≠ 0 ∨ m' ≠ 0) : form (fprod (form (fdiv fprod f f')) f') = f := by
  have D := norm_ne G.N n
  exact (G.div n).prod.eq_left G.C G.h (by grind) (by grind)
theorem Go.comm (G : Go r f f' q m q' m') : form (fprod f f') = form (fprod f' f) := by
  have g := G.swap.prod
  exact G.prod.eq_left g.C g.h (by grind) (by grind)
end PH
namespace PH
variable {r q m q' m' : Rat} {f f' : Five}
/-- a number of the one form whose root is a share of r's -/
structure Fam (r : Rat) (f : Five) : Prop where
  N : NonSq r
  C : Canon f
  is : ∃ q m, Is r f q m
theorem Fam.go (h : Fam r f) (h' : Fam r f') : ∃ q m q' m', Go r f f' q m q' m' := by
  obtain ⟨q, m, i⟩ := h.is
  obtain ⟨q', m', i'⟩ := h'.is
  exact ⟨q, m, q', m', h.N, h.C, h'.C, i, i'⟩
theorem fam_of (C : Canon f) : ∃ r, Fam r f ∧ (f.2.2.1 = 0 ∨ r = rad f) := by
  by_cases z : f.2.2.1 = 0
  · exact ⟨2, ⟨nonsq2, C, _, _, is_plain 2 z⟩, .inl z⟩
  · obtain ⟨N, i⟩ := nonsq_rad C z
    exact ⟨rad f, ⟨N, C, _, _, i⟩, .inr rfl⟩
theorem Fam.about (h : Fam r f) : Fam r (about f) := by
  obtain ⟨q, m, i⟩ := h.is
  exact ⟨h.N, canon_about h.C, _, _, is_about h.C i⟩
theorem Fam.neg (h : Fam r f) : Fam r (neg f) := by
  obtain ⟨q, m, i⟩ := h.is
  exact ⟨h.N, canon_neg h.C, _, _, is_neg h.C i⟩
theorem fam_plain (N : NonSq r) (C : Canon f) (z : f.2.2.1 = 0) : Fam r f := ⟨N, C, _, _, is_plain r z⟩
/-- its root alone -/
def bare (f : Five) : Five := (0, 1, f.2.2)
theorem canon_bare (C : Canon f) : Canon (bare f) := ⟨by show (0 : Int) < 1; decide, by show g 0 1 = 1; decide, C.m⟩
theorem Fam.bare (h : Fam r f) : Fam r (bare f) := by
  obtain ⟨q, m, i⟩ := h.is
  refine ⟨h.N, canon_bare h.C, quo (PH.bare f), m, ?_⟩
  obtain ⟨hq, k⟩ := canon_is h.C i
  rcases k with ⟨s0, _, _, rfl⟩ | ⟨_, x, x0, hx, hm⟩
  · exact .inl ⟨s0, rfl, rfl⟩
  · exact .inr (.inr ⟨x, Rat.le_of_lt x0, hx, rfl, hm⟩)
/-- another one whose root goes with it -/
theorem Fam.like {g : Five} {a b : Int} (h : Fam r f) (hr : f.2.2.1 = 0 ∨ r = rad f) (R : Right g) (ha : 0 < a) (hb : 0 < b) (e1 : g.2.2.2.1 = f.2.2.2.1 * a * a) (e2 : g.2.2.2.2 = f.2.2.2.2 * b * b) (e3 : f.2.2.1 = 0 → g.2.2.1 = 0) :
    Fam r (form g) := by
  by_cases z : f.2.2.1 = 0
  · exact ⟨h.N, canon_form R, _, _, is_is h.N R (is_plain r (e3 z))⟩
  · have e : r = rad f := hr.resolve_left z
    have hx : (0 : Rat) < (a : Rat) / b := rad_pos ha hb
    have nb := cast_ne hb
    have nf := cast_ne (canon_right h.C).b
    refine ⟨h.N, canon_form R, _, _, is_is h.N R (.inr (.inr ⟨(a : Rat) / b, Rat.le_of_lt hx, ?_, rfl, rfl⟩))⟩
    rw [e]
    unfold rad
    rw [e1, e2, Rat.intCast_mul, Rat.intCast_mul, Rat.intCast_mul, Rat.intCast_mul]
    grind
end PH
namespace PH
open PySem PySem.Spec PyProof.Rows L2
def topS (i : Nat) : Stmt := PySem.Challenge.pw_pointhouse_k05_signs_and_order.main.body.getD i (.Pass ⟨0, 0, 0, 0⟩)
abbrev sWhole : Stmt := topS 7
abbrev sLow : Stmt := topS 9
abbrev sSq : Stmt := topS 10
section
variable {P : Program} {w : World} {K : PySem.W.Frag} {mg : Str → Option Value} {base : Heap}
/-! ### lowest_terms -/
def spLow : Sp := fun vs H Q _ => ∃ a b : Int, vs = [.int a, .int b] ∧ 0 < b ∧ Wd 8999 b ∧
  ∀ p, H p = none → Q (.ref p) (upd H p (.tup [.int (low a b).1, .int (low a b).2]))
theorem div_ok {a b : Int} {x : Int} (h : 0 < b) (h2 : Wd 8999 b) : CDivW x (g a b) := Wd.toDiv (g_pos h) (h2.le (Int.le_of_lt (g_pos h)) (g_le h)) (Nat.le_refl _)
theorem scLow : FnScope ["top", "bottom", "shared"] ["top", "bottom"] (defScope sLow) := ⟨rfl, rfl, rfl, by decide +kernel, rfl, by decide +kernel, by decide +kernel⟩
theorem ok_low {f : Addr} {fd : FuncData} (F : Fun K "lowest_terms" "lowest_terms" sLow f fd) (mG : mg "gcd" = some (.builtin "math.gcd")) :
    FnOk P w K mg base CX0 1 f fd ["top", "bottom"] spLow := by
  refine F.ok scLow ?_ ?_
  · rintro vs H Q E ⟨a, b, rfl, _⟩
    rfl
  intro cdv A outer s H vs Q E hr h
  obtain ⟨a, b, rfl, hb, hb2, k⟩ := h
  refine ⟨_, pss_cons (ps_set (i := 2) scLow.nd rfl (Or.inl rfl) (pe_callBfun cr_gcd rfl mG (pa_cons (pv 0) (pa_cons (pv 1) pa_nil))))
    (pss_one (ps_ret (pe_tup (pa_cons (pe_op op_fdivW (pv 0) (pv 2)) (pa_cons (pe_op op_fdivW (pv 1) (pv 2)) pa_nil))))), ?_⟩
  refine ⟨_, rfl, _, rfl, a, b, rfl, ?_⟩
  refine ⟨_, rfl, _, rfl, a, g a b, rfl, rfl, div_ok hb hb2, _, rfl, _, rfl, b, g a b, rfl, rfl, div_ok hb hb2, (by show 2 ≤ sizeLine; decide), ?_⟩
  exact k
/-! ### is_square -/
def spSq : Sp := fun vs H Q _ => ∃ a : Int, vs = [.int a] ∧ 0 ≤ a ∧ Wd 9000 a ∧ Q (.bl (isq a)) H
theorem scSq : FnScope ["number"] ["number"] (defScope sSq) := ⟨rfl, rfl, rfl, by decide +kernel, rfl, by decide +kernel, by decide +kernel⟩
theorem ok_sq {f : Addr} {fd : FuncData} (F : Fun K "is_square" "is_square" sSq f fd) (mI : mg "isqrt" = some (.builtin "math.isqrt")) :
    FnOk P w K mg base CX0 1 f fd ["number"] spSq := by
  refine F.ok scSq ?_ ?_
  · rintro vs H Q E ⟨a, rfl, _⟩
    rfl
  intro cdv A outer s H vs Q E hr h
  obtain ⟨a, rfl, ha, ha2, k⟩ := h
  refine ⟨_, pss_one (ps_ret (pe_cmpR op_eq (pe_op op_sqW (pe_callBfun cr_isqrtW rfl mI (pa_cons (pv 0) pa_nil)) pe_int) (pv 0) (nomark _))), ?_⟩
  refine ⟨_, rfl, a, rfl, ha, ha2, rt a, 2, rfl, rfl, ⟨rfl, (Wd.rt ha ha2).mono (by decide)⟩, _, rfl, rfl, ?_⟩
  show Q (V.bl (decide (V.int (rt a * rt a) = V.int a))) H
  have e2 : decide (V.int (rt a * rt a) = V.int a) = isq a := by
    unfold isq
    exact decide_eq_decide.mpr ⟨fun z => V.int.inj z, fun z => by rw [z]⟩
  rw [e2]
  exact k
/-! ### is_whole: of anything -/
/-- what a thing is to isinstance: an int (no truth), or something else -/
def NotW (K : PySem.W.Frag) (H : Hp) (v : V) : Prop :=
  (∃ b, v = .bl b) ∨ ∃ t, TyX K H v t ∧ PySem.W.kitOne K t (.type "int") = some false
def spWhole (K : PySem.W.Frag) : Sp := fun vs H Q _ => ∃ v : V, vs = [v] ∧ ((∃ i, v = .int i) ∧ Q (.bl true) H ∨ NotW K H v ∧ Q (.bl false) H)
theorem scWhole : FnScope ["thing"] ["thing"] (defScope sWhole) := ⟨rfl, rfl, rfl, by decide +kernel, rfl, by decide +kernel, by decide +kernel⟩
structure TIs (mg : Str → Option Value) : Prop where
  is : mg "isinstance" = none
  int : mg "int" = none
  bool : mg "bool" = none
theorem kit_ii : PySem.W.kitOne K (.type "int") (.type "int") = some true := kit_ty (by decide +kernel)
theorem kit_ib : PySem.W.kitOne K (.type "int") (.type "bool") = some false := kit_ty (by decide +kernel)
theorem kit_bi : PySem.W.kitOne K (.type "bool") (.type "int") = some true := kit_ty (by decide +kernel)
theorem kit_bb : PySem.W.kitOne K (.type "bool") (.type "bool") = some true := kit_ty (by decide +kernel)
theorem ok_whole {f : Addr} {fd : FuncData} (F : Fun K "is_whole" "is_whole" sWhole f fd) (T : TIs mg) :
    FnOk P w K mg base CX0 1 f fd ["thing"] (spWhole K) := by
  refine F.ok scWhole ?_ ?_
  · rintro vs H Q E ⟨a, rfl, _⟩
    rfl
  intro cdv A outer s H vs Q E hr h
  obtain ⟨v, rfl, h⟩ := h
  refine ⟨_, pss_one (ps_ret (pe_and (pe_callB call_isi (by rfl) T.is (by decide +kernel) (pa_cons (pv 0) (pa_cons (pe_bltn (by rfl) T.int (by decide +kernel) (show RelV (.ty "int") (.type "int") from rfl)) pa_nil)))
    (pe_one (pe_not (pe_callB call_isi (by rfl) T.is (by decide +kernel) (pa_cons (pv 0) (pa_cons (pe_bltn (by rfl) T.bool (by decide +kernel) (show RelV (.ty "bool") (.type "bool") from rfl)) pa_nil))))))), ?_⟩
  rcases h with ⟨⟨i, rfl⟩, k⟩ | ⟨hn, k⟩
  · refine ⟨_, rfl, V.int i, V.ty "int", _, _, true, rfl, .ty _, .base (.int i), kit_ii, true, rfl, iteT ?_⟩
    exact ⟨_, rfl, V.int i, V.ty "bool", _, _, false, rfl, .ty _, .base (.int i), kit_ib, false, rfl, k⟩
  rcases hn with ⟨b, rfl⟩ | ⟨t, ht, hk⟩
  · refine ⟨_, rfl, V.bl b, V.ty "int", _, _, true, rfl, .ty _, .base (.bl b), kit_bi, true, rfl, iteT ?_⟩
    exact ⟨_, rfl, V.bl b, V.ty "bool", _, _, true, rfl, .ty _, .base (.bl b), kit_bb, true, rfl, k⟩
  · exact ⟨_, rfl, v, V.ty "int", _, _, false, rfl, .ty _, ht, hk, false, rfl, iteF k⟩
end
end PH
namespace PH
open PySem PySem.Spec PyProof.Rows L2
abbrev sFields : Stmt := topS 13
/-- what is known of the class Exact, at C -/
structure TEx (K : PySem.W.Frag) (mg : Str → Option Value) (C : Addr) : Prop where
  cl : Cls K C
  nT : NoAttr K C "top"
  nB : NoAttr K C "bottom"
  nS : NoAttr K C "sign"
  nO : NoAttr K C "over"
  nU : NoAttr K C "under"
  mgC : mg "Exact" = some (.ref C)
  ha : PySem.W.findIn K (.ref C) "__class__" = some (some (.builtin "object.__class__"))
  hn : PySem.W.specialIn K (.builtin "object.__class__") "__get__" = some (some (.builtin "getset_descriptor.__get__"))
  htk : PySem.W.takesIn K (.builtin "object.__class__") = some true
  hm : PySem.W.mroIn K C (.type "object") = some true
  ki : PySem.W.kitOne K (.ref C) (.type "int") = some false
  kc : PySem.W.kitOne K (.ref C) (.ref C) = some true
  kb : PySem.W.kitOne K (.ref C) (.type "bool") = some false
/-- a thing that is no whole number -/
inductive Odd (C : Addr) (H : Hp) : V → Prop where
  | non : Odd C H .non
  | bl (b : Bool) : Odd C H (.bl b)
  | str (z : Str) : Odd C H (.str z)
  | lst {a : Addr} {xs : List V} (e : H a = some (.lst xs)) : Odd C H (.ref a)
  | tup {a : Addr} {xs : List V} (e : H a = some (.tup xs)) : Odd C H (.ref a)
  | dict {a : Addr} {kvs : List (Key × V)} (e : H a = some (.dK kvs)) : Odd C H (.ref a)
  | ins {a dx : Addr} {fs : List (Str × V)} (e : H a = some (.ins C dx fs)) : Odd C H (.ref a)
theorem Odd.same {C : Addr} {H H' : Hp} {v : V} (s : Same H H') (h : Odd C H v) : Odd C H' v := by
  cases h with
  | non => exact .non
  | bl b => exact .bl b
  | str z => exact .str z
  | lst e => exact .lst (s _ _ e)
  | tup e => exact .tup (s _ _ e)
  | dict e => exact .dict (s _ _ e)
  | ins e => exact .ins (s _ _ e)
theorem Odd.notW {K : PySem.W.Frag} {mg : Str → Option Value} {C : Addr} {H : Hp} {v : V} (T : TEx K mg C) (h : Odd C H v) : NotW K H v := by
  cases h with
  | bl b => exact .inl ⟨b, rfl⟩
  | non => exact .inr ⟨_, .base .non, kit_ty (by decide +kernel)⟩
  | str z => exact .inr ⟨_, .base (.str z), kit_ty (by decide +kernel)⟩
  | lst e => exact .inr ⟨_, .base (.lst e), kit_ty (by decide +kernel)⟩
  | tup e => exact .inr ⟨_, .base (.tup e), kit_ty (by decide +kernel)⟩
  | dict e => exact .inr ⟨_, .base (.dK e), kit_ty (by decide +kernel)⟩
  | ins e => exact .inr ⟨_, .base (.ins e T.cl T.ha T.hn T.htk T.hm), T.ki⟩
theorem same_new {H : Hp} {p : Addr} {o : HO} (h : H p = none) : Same H (upd H p o) := fun b u e => by rw [upd_ne (ne_of_none e h)]; exact e
theorem same_at {H H' : Hp} {p : Addr} {o : HO} (s : Same H H') (h : H p = none) : Same H (upd H' p o) := fun b u e => by rw [upd_ne (ne_of_none e h)]; exact s b u e
theorem yes_if {σ : L2.St} {H : Hp} {A B : Hp → Prop} (h : A H) : tYes σ H (fun b H3 => if b = true then A H3 else B H3) := by
  show if true = true then A H else B H
  rw [if_pos rfl]
  exact h
theorem take_more {α : Type} {l : List α} {i : Nat} {x : α} (h : l[i]? = some x) : l.take (i + 1) = l.take i ++ [x] := by
  rw [List.take_add_one, h]
  rfl
/-- any of five: a whole number or not -/
def Any (C : Addr) (H : Hp) (v : V) : Prop := (∃ i, v = .int i) ∨ Odd C H v
theorem Any.same {C : Addr} {H H' : Hp} {v : V} (s : Same H H') (h : Any C H v) : Any C H' v := h.imp id fun o => o.same s
def isInt : V → Bool
  | .int _ => true
  | _ => false
theorem Odd.isInt {C : Addr} {H : Hp} {v : V} (h : Odd C H v) : isInt v = false := by cases h <;> rfl
theorem spWhole_any {K : PySem.W.Frag} {mg : Str → Option Value} {C : Addr} {H : Hp} {v : V} {Q : VK} {E : XK} (T : TEx K mg C) (h : Any C H v) (q : Q (.bl (PH.isInt v)) H) : spWhole K [v] H Q E := by
  refine ⟨v, rfl, ?_⟩
  rcases h with ⟨i, rfl⟩ | o
  · exact .inl ⟨⟨i, rfl⟩, q⟩
  · refine .inr ⟨o.notW T, ?_⟩
    rw [o.isInt] at q
    exact q
/-! ### are_fields -/
def rightB : List V → Bool
  | [.int _, .int l, .int m, .int a, .int b] => decide (0 < l) && (inV (.int m) [.int (-1), .int 0, .int 1] && (decide (0 ≤ a) && decide (0 < b)))
  | _ => false
def spFields (C : Addr) : Sp := fun vs H Q _ => vs.length = 5 ∧ (∀ v ∈ vs, Any C H v) ∧ ∀ H', Same H H' → Q (.bl (rightB vs)) H'
section
variable {P : Program} {w : World} {K : PySem.W.Frag} {mg : Str → Option Value} {base : Heap} {C : Addr}
abbrev nFields : List Str := ["top", "bottom", "sign", "over", "under", "thing"]
theorem scFields : FnScope nFields ["top", "bottom", "sign", "over", "under"] (defScope sFields) := ⟨rfl, rfl, rfl, by decide +kernel, rfl, by decide +kernel, by decide +kernel⟩
theorem all5 {v0 v1 v2 v3 v4 : V} (h : ∀ i, i ∈ [v0, v1, v2, v3, v4] → isInt i = true) : ∃ a b c d e, v0 = .int a ∧ v1 = .int b ∧ v2 = .int c ∧ v3 = .int d ∧ v4 = .int e := by
  have f : ∀ v, isInt v = true → ∃ i, v = .int i := by intro v; cases v <;> simp [isInt]
  obtain ⟨a, h0⟩ := f v0 (h _ (by simp))
  obtain ⟨b, h1⟩ := f v1 (h _ (by simp))
  obtain ⟨c, h2⟩ := f v2 (h _ (by simp))
  obtain ⟨d, h3⟩ := f v3 (h _ (by simp))
  obtain ⟨e, h4⟩ := f v4 (h _ (by simp))
  exact ⟨a, b, c, d, e, h0, h1, h2, h3, h4⟩
theorem rightB_none {v0 v1 v2 v3 v4 : V} (h : ([v0, v1, v2, v3, v4].map isInt).all id = false) : rightB [v0, v1, v2, v3, v4] = false := by
  cases e : rightB [v0, v1, v2, v3, v4] with
  | false => rfl
  | true =>
    exfalso
    unfold rightB at e
    split at e
    · rename_i q
      simp only [List.cons.injEq, and_true] at q
      obtain ⟨rfl, rfl, rfl, rfl, rfl⟩ := q
      simp [isInt] at h
    · cases e
theorem ok_fields {f fW : Addr} {fd fdW : FuncData} (F : Fun K "are_fields" "are_fields" sFields f fd) (T : TEx K mg C) (I : TIs mg) (mAll : mg "all" = none)
    (FW : Fun K "is_whole" "is_whole" sWhole fW fdW) (bW : Binds K fdW ["thing"] []) (mW : mg "is_whole" = some (.ref fW)) :
    FnOk P w K mg base CX0 2 f fd ["top", "bottom", "sign", "over", "under"] (spFields C) := by
  have GW : FnOk P w K mg base CX0 1 fW fdW ["thing"] (spWhole K) := ok_whole FW I
  refine F.ok scFields ?_ ?_
  · rintro vs H Q E ⟨h, _⟩
    exact h
  intro cdv A outer s H vs Q E hr h
  obtain ⟨hl, hv, k⟩ := h
  match vs, hl with
  | [v0, v1, v2, v3, v4], _ =>
  refine ⟨_, pss_cons (ps_if (pt_not (pt_val (pe_callB (cr_all rfl) (by rfl) mAll (by decide +kernel) (pa_cons
      (pe_lc (own := [("thing", 5)]) (g := gName 5) (tt := tYes) rfl scFields.nd (pi_tup (pe_tup (pa_cons (pv 0) (pa_cons (pv 1) (pa_cons (pv 2) (pa_cons (pv 3) (pa_cons (pv 4) pa_nil)))))))
        (blkOk_by (own := [("thing", 5)]) (N := nFields) (sc := defScope sFields) (by decide +kernel)) (fun _ _ _ _ _ => pg_name (i := 5) scFields.nd rfl (Or.inl rfl)) (fun _ _ _ _ _ => pts_nil)
        (fun _ _ _ _ _ => pe_call GW hr rfl mW FW.kp bW .nil pass0 (pa_cons (pv 5) pa_nil))) pa_nil)))) (pss_one (ps_ret pe_bl)) pss_nil)
    (pss_one (ps_ret (pe_and (pe_cmpR op_gt (pv 1) pe_int (nomark _)) (pe_and (pe_cmpR op_in_seq (pv 2) (pe_tup (pa_cons (pe_un un_neg pe_int) (pa_cons pe_int (pa_cons pe_int pa_nil)))) (by rfl))
      (pe_and (pe_cmpR op_ge (pv 3) pe_int (nomark _)) (pe_one (pe_cmpR op_gt (pv 4) pe_int (nomark _)))))))), ?_⟩
  refine ⟨_, rfl, _, rfl, _, rfl, _, rfl, _, rfl, (by show 5 ≤ sizeLine; decide), fun p hp => ⟨p, rfl, ⟨_, SqT.of upd_same⟩, ?_⟩⟩
  intro D hD
  have s0 : Same H (upd H p (.tup [v0, v1, v2, v3, v4])) := same_new hp
  refine lc_tup (K := K) (a := p) (xs := [v0, v1, v2, v3, v4]) (fun i H' => Same (upd H p (.tup [v0, v1, v2, v3, v4])) H' ∧ H' D = some (.lst (([v0, v1, v2, v3, v4].take i).map fun v => V.bl (PH.isInt v))))
    ⟨same_new hD, upd_same⟩ (fun i H' _ ⟨h, _⟩ => SqT.of (h _ _ upd_same)) ?_ ?_
  · rintro i x H' hx ⟨s1, hd⟩
    refine ⟨rfl, yes_if ?_⟩
    refine ⟨_, rfl, ?_⟩
    dsimp only [tNil, List.append_nil]
    refine spWhole_any T ((hv x (List.mem_of_getElem? hx)).same (s0.trans s1)) ⟨_, hd, ?_, same_at s1 hD, ?_⟩
    · rw [List.length_map, List.length_take]
      exact Nat.lt_of_le_of_lt (Nat.min_le_right _ _) (by show 5 < sizeLine; decide)
    · rw [upd_same, take_more hx, List.map_append]
      rfl
  · rintro H' ⟨s1, hd⟩
    have hd' : H' D = some (.lst (([v0, v1, v2, v3, v4].map isInt).map V.bl)) := by rw [hd]; rfl
    refine ⟨D, _, rfl, SqL.of hd', _, rfl, ?_⟩
    cases e : ([v0, v1, v2, v3, v4].map isInt).all id with
    | false =>
      refine iteT ?_
      have z := k _ (s0.trans s1)
      rw [rightB_none e] at z
      exact z
    | true =>
      refine iteF ?_
      obtain ⟨a, b, c, d, e', rfl, rfl, rfl, rfl, rfl⟩ := all5 fun v hv => by
        have := List.all_eq_true.mp e (isInt v) (List.mem_map_of_mem hv)
        exact this
      have z := fun H2 (s2 : Same H' H2) => k H2 ((s0.trans s1).trans s2)
      have er : rightB [.int a, .int b, .int c, .int d, .int e'] = (decide (0 < b) && (inV (.int c) [.int (-1), .int 0, .int 1] && (decide (0 ≤ d) && decide (0 < e')))) := rfl
      rw [er] at z
      refine ⟨_, rfl, b, 0, rfl, rfl, _, rfl, ?_⟩
      cases e1 : decide (0 < b) with
      | false =>
        rw [e1] at z
        exact iteF (z _ (Same.refl _))
      | true =>
        rw [e1] at z
        refine iteT ?_
        refine ⟨_, rfl, _, rfl, (by show 3 ≤ sizeLine; decide), fun q hq => ?_⟩
        refine ⟨q, _, rfl, .inr (SqT.of upd_same), rfl, rfl, _, rfl, ?_⟩
        rw [if_neg Bool.false_ne_true]
        show if inV (V.int c) [V.int (-1), V.int 0, V.int 1] = true then _ else _
        have s3 : Same H' (upd H' q (.tup [.int (-1), .int 0, .int 1])) := same_new hq
        cases e2 : inV (V.int c) [V.int (-1), V.int 0, V.int 1] with
        | false =>
          rw [e2] at z
          exact iteF (z _ s3)
        | true =>
          rw [e2] at z
          refine iteT ?_
          refine ⟨_, rfl, d, 0, rfl, rfl, _, rfl, ?_⟩
          cases e3 : decide (0 ≤ d) with
          | false =>
            rw [e3] at z
            exact iteF (z _ s3)
          | true =>
            rw [e3] at z
            exact iteT ⟨_, rfl, e', 0, rfl, rfl, z _ s3⟩
end
end PH
namespace PH
open PySem PySem.Spec PyProof.Rows L2
open C8 (pss_cut tCut)
abbrev sInit : Stmt := inClass (topS 12) 0
abbrev bInit : List Stmt := defBody sInit
def fiveV (f : Five) : List V := [.int f.1, .int f.2.1, .int f.2.2.1, .int f.2.2.2.1, .int f.2.2.2.2]
def flds (f : Five) : List (Str × V) := [("top", .int f.1), ("bottom", .int f.2.1), ("sign", .int f.2.2.1), ("over", .int f.2.2.2.1), ("under", .int f.2.2.2.2)]
theorem right_of_B {f : Five} (h : rightB (fiveV f) = true) : Right f := by
  obtain ⟨u, l, m, a, b⟩ := f
  have er : rightB (fiveV (u, l, m, a, b)) = (decide (0 < l) && (inV (.int m) [.int (-1), .int 0, .int 1] && (decide (0 ≤ a) && decide (0 < b)))) := rfl
  rw [er] at h
  simp only [Bool.and_eq_true, decide_eq_true_eq] at h
  obtain ⟨h1, h2, h3, h4⟩ := h
  refine ⟨h1, ?_, h3, h4⟩
  simp [inV, eqV] at h2
  dsimp only
  omega
theorem B_of_right {f : Five} (h : Right f) : rightB (fiveV f) = true := by
  obtain ⟨u, l, m, a, b⟩ := f
  obtain ⟨h1, h2, h3, h4⟩ := h
  dsimp only at h1 h2 h3 h4
  have er : rightB (fiveV (u, l, m, a, b)) = (decide (0 < l) && (inV (.int m) [.int (-1), .int 0, .int 1] && (decide (0 ≤ a) && decide (0 < b)))) := rfl
  rw [er]
  simp only [Bool.and_eq_true, decide_eq_true_eq]
  refine ⟨h1, ?_, h3, h4⟩
  simp [inV, eqV]
  omega
theorem ints_of_B {vs : List V} (h : rightB vs = true) : ∃ f : Five, vs = fiveV f := by
  unfold rightB at h
  split at h
  · exact ⟨(_, _, _, _, _), rfl⟩
  · cases h
structure Wide (f : Five) : Prop where
  u : Wd 5200 f.1
  l : Wd 5200 f.2.1
  a : Wd 7000 f.2.2.2.1
  b : Wd 7000 f.2.2.2.2
theorem if_t {c : Bool} {A B : Prop} (hc : c = true) (h : A) : if c = true then A else B := by rw [if_pos hc]; exact h
theorem if_f {c : Bool} {A B : Prop} (hc : c = false) (h : B) : if c = true then A else B := by rw [hc, if_neg Bool.false_ne_true]; exact h
theorem dec_int {i j : Int} : decide (V.int i = V.int j) = decide (i = j) := decide_eq_decide.mpr ⟨fun z => V.int.inj z, fun z => by rw [z]⟩
theorem putF5 (a b c d e : V) : putF "under" e (putF "over" d (putF "sign" c (putF "bottom" b (putF "top" a [])))) = ([("top", a), ("bottom", b), ("sign", c), ("over", d), ("under", e)] : List (Str × V)) := by
  have h1 : ¬ ("top" : Str) = "bottom" := by decide +kernel
  have h2 : ¬ ("top" : Str) = "sign" := by decide +kernel
  have h3 : ¬ ("bottom" : Str) = "sign" := by decide +kernel
  have h4 : ¬ ("top" : Str) = "over" := by decide +kernel
  have h5 : ¬ ("bottom" : Str) = "over" := by decide +kernel
  have h6 : ¬ ("sign" : Str) = "over" := by decide +kernel
  have h7 : ¬ ("top" : Str) = "under" := by decide +kernel
  have h8 : ¬ ("bottom" : Str) = "under" := by decide +kernel
  have h9 : ¬ ("sign" : Str) = "under" := by decide +kernel
  have h10 : ¬ ("over" : Str) = "under" := by decide +kernel
  simp only [putF, if_neg h1, if_neg h2, if_neg h3, if_neg h4, if_neg h5, if_neg h6, if_neg h7, if_neg h8, if_neg h9, if_neg h10]
/-- Exact.__init__ -/
def spInit (C NX : Addr) : Sp := fun vs H Q E => ∃ (p dx : Addr) (xs : List V), vs = .ref p :: xs ∧ xs.length = 5 ∧ H p = some (.ins C dx []) ∧ (∀ v ∈ xs, Any C H v) ∧
  (rightB xs = false → ∀ H', Same H H' → E (.ref NX) none H') ∧
  ∀ f : Five, xs = fiveV f → Right f → Wide f ∧ ∀ H', H' p = some (.ins C dx (flds (form f))) → (∀ b o, H b = some o → b ≠ p → H' b = some o) → Q .non H'
structure TNo (P : Program) (K : PySem.W.Frag) (mg : Str → Option Value) (NX : Addr) (bm : List Value) : Prop where
  gP : mg "NoExact" = some (.ref NX)
  xP : PySem.W.excIn K NX [.type "ValueError", .type "Exception", .type "BaseException", .type "object"] "ValueError.__new__" = true
  kP : PySem.W.keepIn K (.ref NX) = true
  bP : PySem.W.subIn K (.ref NX) (.type "BaseException") = some true
  tP : PySem.W.typeIn K (.ref NX) = some (.type "type")
section
variable {P : Program} {w : World} {K : PySem.W.Frag} {mg : Str → Option Value} {base : Heap} {C NX : Addr}
theorem scInit : FnScope ["self", "top", "bottom", "sign", "over", "under", "parts"] ["self", "top", "bottom", "sign", "over", "under"] (defScope sInit) :=
  ⟨rfl, rfl, rfl, by decide +kernel, rfl, by decide +kernel, by decide +kernel⟩
structure Fns (K : PySem.W.Frag) (mg : Str → Option Value) (f : Addr) (fd : FuncData) (x : Str) (i : Nat) (ps : List Str) : Prop where
  F : Fun K x x (topS i) f fd
  b : Binds K fd ps []
  m : mg x = some (.ref f)
theorem ok_init {f fF fL fS : Addr} {fd fdF fdL fdS : FuncData} (F : FunD K "__init__" "Exact.__init__" (defArgs sInit) bInit (defScope sInit) [.int 1] [("sign", .int 0), ("over", .int 0), ("under", .int 1)] f fd)
    (T : TEx K mg C) (N : TNo P K mg NX []) (mI : mg "isqrt" = some (.builtin "math.isqrt"))
    (GF : FnOk P w K mg base CX0 2 fF fdF ["top", "bottom", "sign", "over", "under"] (spFields C)) (FF : Fns K mg fF fdF "are_fields" 13 ["top", "bottom", "sign", "over", "under"])
    (GL : FnOk P w K mg base CX0 1 fL fdL ["top", "bottom"] spLow) (FL : Fns K mg fL fdL "lowest_terms" 9 ["top", "bottom"])
    (GS : FnOk P w K mg base CX0 1 fS fdS ["number"] spSq) (FS : Fns K mg fS fdS "is_square" 10 ["number"]) :
    FnOk P w K mg base (L2.CX P w) 3 f fd ["self", "top", "bottom", "sign", "over", "under"] (spInit C NX) := by
  refine F.ok scInit ?_ ?_
  · rintro vs H Q E ⟨p, dx, xs, rfl, hl, _⟩
    show xs.length + 1 = 6
    omega
  intro cdv A outer s H vs Q E hr h
  have hr1 : Room 1 _ := hr.mono (by decide)
  obtain ⟨p, dx, xs, rfl, hl, hp, hv, kE, kQ⟩ := h
  match xs, hl with
  | [v1, v2, v3, v4, v5], _ =>
  refine ⟨_, pss_cut (ps_if (pt_not (pt_val (pe_call GF hr rfl FF.m FF.F.kp FF.b .nil pass0 (pa_cons (pv 1) (pa_cons (pv 2) (pa_cons (pv 3) (pa_cons (pv 4) (pa_cons (pv 5) pa_nil)))))))) (pss_one (ps_raise rfl (takes_of rfl rfl rfl rfl) (pmk_own PySem.F.excBase_ValueError N.xP N.gP N.kP (raises_own N.bP N.tP) rfl))) pss_nil)
    (pss_cut (ps_if (pt_cmpR op_eq (pv 3) pe_int (nomark _)) (pss_one (ps_asg (pe_tup (pa_cons pe_int (pa_cons pe_int pa_nil))) (pg_tup rfl (pgs_cons (pg_name (i := 4) scInit.nd rfl (Or.inl rfl)) (pgs_cons (pg_name (i := 5) scInit.nd rfl (Or.inl rfl)) pgs_nil))))) pss_nil)
    (pss_cut (ps_asg (pe_call GL hr1 rfl FL.m FL.F.kp FL.b .nil pass0 (pa_cons (pv 4) (pa_cons (pv 5) pa_nil))) (pg_tup rfl (pgs_cons (pg_name (i := 4) scInit.nd rfl (Or.inl rfl)) (pgs_cons (pg_name (i := 5) scInit.nd rfl (Or.inl rfl)) pgs_nil))))
    (pss_cut (ps_if (PW.pt (pw_and (pt_val (pe_call GS hr1 rfl FS.m FS.F.kp FS.b .nil pass0 (pa_cons (pv 4) pa_nil))) (pw_and1 (pt_val (pe_call GS hr1 rfl FS.m FS.F.kp FS.b .nil pass0 (pa_cons (pv 5) pa_nil))))))
        (pss_cons (ps_set (i := 6) scInit.nd rfl (Or.inl rfl) (pe_callBfun cr_isqrtW rfl mI (pa_cons (pv 5) pa_nil)))
        (pss_cons (ps_par (i := 1) (j := 2) rfl scInit.nd rfl rfl (by decide) rfl rfl (pa_cons (pe_op op_add (pe_op op_mulX (pv 1) (pv 6)) (pe_op op_mulX (pe_op op_mulX (pv 3) (pe_callBfun cr_isqrtW rfl mI (pa_cons (pv 4) pa_nil))) (pv 2))) (pa_cons (pe_op op_mulX (pv 2) (pv 6)) pa_nil)) (by rfl))
        (pss_one (ps_asg (pe_tup (pa_cons pe_int (pa_cons pe_int (pa_cons pe_int pa_nil)))) (pg_tup rfl (pgs_cons (pg_name (i := 3) scInit.nd rfl (Or.inl rfl)) (pgs_cons (pg_name (i := 4) scInit.nd rfl (Or.inl rfl)) (pgs_cons (pg_name (i := 5) scInit.nd rfl (Or.inl rfl)) pgs_nil)))))))) pss_nil)
    (pss_cons (ps_asg (pe_call GL hr1 rfl FL.m FL.F.kp FL.b .nil pass0 (pa_cons (pv 1) (pa_cons (pv 2) pa_nil))) (pg_tup rfl (pgs_cons (pg_fld (pv 0)) (pgs_cons (pg_fld (pv 0)) pgs_nil))))
    (pss_cons (ps_fld (pv 0) (pv 3) rfl) (pss_cons (ps_fld (pv 0) (pv 4) rfl) (pss_one (ps_fld (pv 0) (pv 5) rfl)))))))), ?_⟩
  -- if not are_fields(..): raise NoExact(..)
  refine ⟨fun σ' H' => ∃ f : Five, [v1, v2, v3, v4, v5] = fiveV f ∧ Right f ∧ σ' = [some (.ref p), some v1, some v2, some v3, some v4, some v5, none] ∧ Same H H', ?_, ?_⟩
  · refine ⟨_, rfl, _, rfl, _, rfl, _, rfl, _, rfl, ?_⟩
    dsimp only [tNil]
    refine ⟨rfl, hv, fun H1 s1 => ⟨_, rfl, ?_⟩⟩
    cases e : rightB [v1, v2, v3, v4, v5] with
    | false =>
      refine if_t (by show (!rightB [v1, v2, v3, v4, v5]) = true; rw [e]; rfl) ?_
      exact kE e _ s1
    | true =>
      refine if_f (by show (!rightB [v1, v2, v3, v4, v5]) = false; rw [e]; rfl) ?_
      obtain ⟨f, hf⟩ := ints_of_B e
      exact ⟨f, hf, right_of_B (by rw [← hf]; exact e), rfl, s1⟩
  rintro σ1 H1 ⟨f, hf, R, rfl, s1⟩
  obtain ⟨fits, kR⟩ := kQ f hf R
  obtain ⟨u, l, m, a, b⟩ := f
  have hf' : v1 = .int u ∧ v2 = .int l ∧ v3 = .int m ∧ v4 = .int a ∧ v5 = .int b := by
    unfold fiveV at hf
    simpa using hf
  obtain ⟨rfl, rfl, rfl, rfl, rfl⟩ := hf'
  obtain ⟨hl0, hm0, ha0, hb0⟩ := R
  obtain ⟨fu, fl, fa, fb⟩ := fits
  dsimp only at hl0 hm0 ha0 hb0 fu fl fa fb
  -- if sign == 0: over, under = 0, 1
  refine ⟨fun σ' H' => ∃ a' b' : Int, σ' = [some (.ref p), some (.int u), some (.int l), some (.int m), some (.int a'), some (.int b'), none] ∧ Same H H' ∧ 0 ≤ a' ∧ 0 < b' ∧ Wd 7000 a' ∧ Wd 7000 b' ∧ (m = 0 ∧ a' = 0 ∧ b' = 1 ∨ m ≠ 0 ∧ a' = a ∧ b' = b), ?_, ?_⟩
  · refine ⟨_, rfl, rfl, _, rfl, ?_⟩
    by_cases z : m = 0
    · refine if_t (by show decide (V.int m = V.int 0) = true; rw [dec_int]; exact decide_eq_true z) ?_
      refine ⟨(by show 2 ≤ sizeLine; decide), fun q hq => ⟨q, _, rfl, SqT.of upd_same, rfl, _, _, rfl, _, _, rfl, rfl, ?_⟩⟩
      exact ⟨0, 1, rfl, s1.trans (same_new hq), by omega, by omega, (Wd.one (.inr (.inl rfl))).mono (by decide), (Wd.one (.inr (.inr rfl))).mono (by decide), .inl ⟨z, rfl, rfl⟩⟩
    · refine if_f (by show decide (V.int m = V.int 0) = false; rw [dec_int]; exact decide_eq_false z) ?_
      exact ⟨a, b, rfl, s1, ha0, hb0, fa, fb, .inr ⟨z, rfl, rfl⟩⟩
  rintro σ2 H2 ⟨a', b', rfl, s2, ha1, hb1, fa1, fb1, hab⟩
  -- over, under = lowest_terms(over, under)
  refine ⟨fun σ' H' => σ' = [some (.ref p), some (.int u), some (.int l), some (.int m), some (.int (low a' b').1), some (.int (low a' b').2), none] ∧ Same H H', ?_, ?_⟩
  · refine ⟨_, rfl, _, rfl, ?_⟩
    dsimp only [tNil]
    refine ⟨a', b', rfl, hb1, fb1.mono (by decide), fun q hq => ?_⟩
    exact ⟨q, _, rfl, SqT.of upd_same, rfl, _, _, rfl, _, _, rfl, rfl, rfl, s2.trans (same_new hq)⟩
  rintro σ3 H3 ⟨rfl, s3⟩
  have n1 := low1_nonneg ha1 hb1
  have n2 := low2_pos (a := a') hb1
  have wa2 := fa1.low1 hb1
  have wb2 := fb1.low2 (a := a') hb1
  have wa2r := Wd.rt2 (k := 3500) n1 wa2
  have wb2r := Wd.rt2 (k := 3500) (Int.le_of_lt n2) wb2
  -- the root where it is a quotient
  refine ⟨fun σ' H' => Same H H' ∧ ∃ (t d x a2 b2 : Int) (v6 : Option V), σ' = [some (.ref p), some (.int t), some (.int d), some (.int x), some (.int a2), some (.int b2), v6] ∧ 0 < d ∧ Wd 8999 d ∧ ((low t d).1, (low t d).2, x, a2, b2) = form (u, l, m, a, b), ?_, ?_⟩
  · refine ⟨_, rfl, ?_⟩
    dsimp only [tNil]
    refine ⟨(low a' b').1, rfl, n1, wa2.mono (by decide), _, rfl, ?_⟩
    have keep : both (low a' b') = false → ∃ (t d x a2 b2 : Int) (v6 : Option V), [some (V.ref p), some (.int u), some (.int l), some (.int m), some (.int (low a' b').1), some (.int (low a' b').2), none] = [some (V.ref p), some (.int t), some (.int d), some (.int x), some (.int a2), some (.int b2), v6] ∧ 0 < d ∧ Wd 8999 d ∧ ((low t d).1, (low t d).2, x, a2, b2) = form (u, l, m, a, b) := by
      intro nb
      refine ⟨u, l, m, _, _, none, rfl, hl0, fl.mono (by decide), ?_⟩
      rcases hab with ⟨_, rfl, rfl⟩ | ⟨hm, rfl, rfl⟩
      · exfalso
        rw [low01] at nb
        unfold both at nb
        rw [isq0, isq1] at nb
        cases nb
      · unfold form
        dsimp only
        rw [if_neg (by rw [nb]; exact Bool.false_ne_true), if_neg hm]
    cases e1 : isq (low a' b').1 with
    | false =>
      refine if_f rfl ?_
      refine if_f rfl ?_
      exact ⟨s3, keep (by unfold both; rw [e1]; rfl)⟩
    | true =>
      refine if_t rfl ?_
      refine ⟨_, rfl, ?_⟩
      dsimp only [tNil]
      refine ⟨(low a' b').2, rfl, Int.le_of_lt n2, wb2.mono (by decide), _, rfl, ?_⟩
      cases e2 : isq (low a' b').2 with
      | false =>
        refine if_f rfl ?_
        exact ⟨s3, keep (by unfold both; rw [e1, e2]; rfl)⟩
      | true =>
        refine if_t rfl ?_
        have bb : both (low a' b') = true := by unfold both; rw [e1, e2]; rfl
        have q3 := rt_nonneg (low a' b').1
        have q4 := rt_nonneg (low a' b').2
        have hp2 := rt_pos n2 e2
        refine ⟨_, rfl, _, rfl, Int.le_of_lt n2, wb2.mono (by decide), ?_⟩
        refine ⟨_, rfl, _, rfl, _, _, rfl, rfl, fu.toMul wb2r (by decide), _, rfl, _, rfl, _, rfl, n1, wa2.mono (by decide), _, _, rfl, rfl, (Wd.one hm0).toMul wa2r (by decide), _, rfl, _, _, rfl, rfl, ((Wd.one hm0).mul wa2r).toMul fl (by decide), _, _, rfl, rfl, _, rfl, _, rfl, _, _, rfl, rfl, fl.toMul wb2r (by decide), _, _, rfl, ?_⟩
        have hd0 : 0 < l * rt (low a' b').2 := Int.mul_pos hl0 hp2
        refine ⟨(by show 3 ≤ sizeLine; decide), fun q hq => ⟨q, _, rfl, SqT.of upd_same, rfl, _, _, rfl, _, _, rfl, _, _, rfl, rfl, ?_⟩⟩
        refine ⟨s3.trans (same_new hq), u * rt (low a' b').2 + m * rt (low a' b').1 * l, l * rt (low a' b').2, 0, 0, 1, some (.int (rt (low a' b').2)), rfl, hd0, (fl.mul wb2r).mono (by decide), ?_⟩
        rcases hab with ⟨hm, rfl, rfl⟩ | ⟨hm, rfl, rfl⟩
        · subst hm
          rw [form_zero hl0 hb0, low01]
          dsimp only
          rw [rt1, rt0, Int.mul_one, Int.mul_one, Int.zero_mul, Int.zero_mul, Int.add_zero]
        · unfold form
          dsimp only
          rw [if_pos bb]
  rintro σ4 H4 ⟨s4, t, d, x, a2, b2, v6, rfl, hd, hd2, hform⟩
  have hp4 := s4 _ _ hp
  refine ⟨_, rfl, _, rfl, ?_⟩
  dsimp only [tNil]
  refine ⟨t, d, rfl, hd, hd2, fun q hq => ?_⟩
  have hpq : p ≠ q := ne_of_none hp4 hq
  refine ⟨q, _, rfl, SqT.of upd_same, rfl, _, _, rfl, _, rfl, p, C, dx, _, rfl, (by rw [upd_ne hpq]; exact hp4), T.cl, T.nT, (by show 0 < 1000; decide), ?_⟩
  refine ⟨_, _, rfl, _, rfl, p, C, dx, _, rfl, upd_same, T.cl, T.nB, (by show 1 < 1000; decide), rfl, ?_⟩
  refine ⟨_, rfl, _, rfl, p, C, dx, _, rfl, upd_same, T.cl, T.nS, (by show 2 < 1000; decide), ?_⟩
  refine ⟨_, rfl, _, rfl, p, C, dx, _, rfl, upd_same, T.cl, T.nO, (by show 3 < 1000; decide), ?_⟩
  refine ⟨_, rfl, _, rfl, p, C, dx, _, rfl, upd_same, T.cl, T.nU, (by show 4 < 1000; decide), ?_⟩
  refine kR _ ?_ ?_
  · rw [upd_same, ← hform, putF5]
    rfl
  · intro b' o e hb
    rw [upd_ne hb, upd_ne hb, upd_ne hb, upd_ne hb, upd_ne hb]
    exact same_new hq _ _ (s4 _ _ e)
end
end PH
namespace PH
open PySem PySem.Spec PyProof.Rows L2
open C8 (pss_cut tCut)
abbrev sMade : Stmt := topS 32
abbrev sFlds : Stmt := topS 33
abbrev sIs : Stmt := topS 34
section
variable {P : Program} {w : World} {K : PySem.W.Frag} {mg : Str → Option Value} {base : Heap} {C NX : Addr}
/-- a def that may raise, called where it doesn't -/
theorem passX0 {X : Cx} : Passes (L2.CX X.prog X.w) X E0 := by
  rintro pins σ H s e s' I ⟨a, B, H', cls, d, _, _, _, _, _, _, _, hE⟩
  exact hE.elim
/-! ### repr of five numbers, of a refusal's word -/
theorem small_log {i : Int} (h : Wd 1900 i) : i.natAbs.log2 < 1920 := Nat.lt_of_le_of_lt (log_le (k := 1899) h) (by decide)
theorem short_int {i : Int} (h : Wd 1900 i) : PyData.leavesShort 1921 (.int i) = true := by
  unfold PyData.leavesShort
  exact decide_eq_true (int_text_len_1921 (small_log h))
def fiveD (f : Five) : PyData := .tuple [.int f.1, .int f.2.1, .int f.2.2.1, .int f.2.2.2.1, .int f.2.2.2.2]
theorem dp_five {H : Hp} {p : Addr} {f : Five} (h : H p = some (.tup (fiveV f))) : Dp K H (.ref p) (fiveD f) :=
  .tup (SqT.of h) (.cons (.int _) (.cons (.int _) (.cons (.int _) (.cons (.int _) (.cons (.int _) .nil)))))
structure Tiny (f : Five) : Prop where
  u : Wd 1900 f.1
  l : Wd 1900 f.2.1
  m : Wd 1900 f.2.2.1
  a : Wd 1900 f.2.2.2.1
  b : Wd 1900 f.2.2.2.2
theorem five_shows {f : Five} (t : Tiny f) : (fiveD f).showable = true ∧ (fiveD f).hasDict = false ∧ (fiveD f).depth ≤ 60 ∧ (fiveD f).shown.length ≤ sizeLine := by
  obtain ⟨h1, h2, h3, h4, h5⟩ := t
  refine ⟨?_, rfl, by show 1 ≤ 60; decide, ?_⟩
  · simp only [fiveD, PyData.showable, PyData.showableAll, Bool.and_true, Bool.and_eq_true, decide_eq_true_eq]
    exact ⟨small_log h1, small_log h2, small_log h3, small_log h4, small_log h5⟩
  · have q := PyData.shown_le_bulk 1921 (by decide) (fiveD f) (by
      simp only [fiveD, PyData.leavesShort, PyData.leavesShortAll, Bool.and_true, Bool.and_eq_true]
      exact ⟨short_int h1, short_int h2, short_int h3, short_int h4, short_int h5⟩)
    have e : (fiveD f).bulk = 5 := rfl
    rw [e] at q
    exact Nat.le_trans q (by decide)
/-! ### _law_fields -/
def spFlds (C : Addr) : Sp := fun vs H Q _ => ∃ (x dx : Addr) (f : Five), vs = [.ref x] ∧ H x = some (.ins C dx (flds f)) ∧ ∀ p, H p = none → Q (.ref p) (upd H p (.tup (fiveV f)))
theorem scFlds : FnScope ["_law_number"] ["_law_number"] (defScope sFlds) := ⟨rfl, rfl, rfl, by decide +kernel, rfl, by decide +kernel, by decide +kernel⟩
theorem ok_flds {f : Addr} {fd : FuncData} (F : Fun K "_law_fields" "_law_fields" sFlds f fd) (T : TEx K mg C) :
    FnOk P w K mg base CX0 1 f fd ["_law_number"] (spFlds C) := by
  refine F.ok scFlds ?_ ?_
  · rintro vs H Q E ⟨x, dx, f, rfl, _⟩
    rfl
  intro cdv A outer s H vs Q E hr h
  obtain ⟨x, dx, f, rfl, hx, k⟩ := h
  refine ⟨_, pss_one (ps_ret (pe_tup (pa_cons (pe_fld (pv 0) rfl) (pa_cons (pe_fld (pv 0) rfl) (pa_cons (pe_fld (pv 0) rfl) (pa_cons (pe_fld (pv 0) rfl) (pa_cons (pe_fld (pv 0) rfl) pa_nil))))))), ?_⟩
  refine ⟨_, rfl, x, C, dx, _, _, rfl, hx, T.cl, T.nT, (by rfl), _, rfl, x, C, dx, _, _, rfl, hx, T.cl, T.nB, (by rfl), _, rfl, x, C, dx, _, _, rfl, hx, T.cl, T.nS, (by rfl), _, rfl, x, C, dx, _, _, rfl, hx, T.cl, T.nO, (by rfl), _, rfl, x, C, dx, _, _, rfl, hx, T.cl, T.nU, (by rfl), (by show 5 ≤ sizeLine; decide), ?_⟩
  exact k
/-! ### _law_is -/
def spIs (C : Addr) : Sp := fun vs H Q _ => ∃ (x dx q : Addr) (f : Five), vs = [.ref x, .ref q] ∧ H x = some (.ins C dx (flds f)) ∧ H q = some (.tup (fiveV f)) ∧ Tiny f ∧ ∀ H', Same H H' → Q (.bl true) H'
theorem scIs : FnScope ["_law_found", "_law_due"] ["_law_found", "_law_due"] (defScope sIs) := ⟨rfl, rfl, rfl, by decide +kernel, rfl, by decide +kernel, by decide +kernel⟩
theorem ok_is {f fF : Addr} {fd fdF : FuncData} (F : Fun K "_law_is" "_law_is" sIs f fd) (T : TEx K mg C) (I : TIs mg) (mR : mg "repr" = none) (FF : Fns K mg fF fdF "_law_fields" 33 ["_law_number"]) :
    FnG P w K mg base CX0 2 f fd ["_law_found", "_law_due"] (spIs C) := by
  have GF : FnOk P w K mg base CX0 1 fF fdF ["_law_number"] (spFlds C) := ok_flds FF.F T
  refine Fun.okG F scIs ?_ ?_
  · rintro vs H Q E ⟨x, dx, q, f, rfl, _⟩
    rfl
  intro cdv A outer s H vs Q E hg hr h
  obtain ⟨x, dx, q, f, rfl, hx, hq, ht, k⟩ := h
  refine ⟨_, pss_one (ps_ret (pe_and (pe_callB call_isi (by rfl) I.is (by decide +kernel) (pa_cons (pv 0) (pa_cons (pe_glob rfl T.mgC (show RelV (.ref C) (.ref C) from rfl)) pa_nil)))
    (pe_one (pe_cmpR op_eq (pe_callB (cr_repr hg hr) (by rfl) mR (by decide +kernel) (pa_cons (pe_call GF hr rfl FF.m FF.F.kp FF.b .nil pass0 (pa_cons (pv 0) pa_nil)) pa_nil)) (pe_callB (cr_repr hg hr) (by rfl) mR (by decide +kernel) (pa_cons (pv 1) pa_nil)) (nomark _))))), ?_⟩
  refine ⟨_, rfl, V.ref x, V.ref C, _, _, true, rfl, .own C, .base (.ins hx T.cl T.ha T.hn T.htk T.hm), T.kc, true, rfl, iteT ?_⟩
  obtain ⟨w1, w2, w3, w4⟩ := five_shows ht
  refine ⟨_, rfl, ?_⟩
  dsimp only [tNil, tC, tCons]
  refine ⟨x, dx, f, rfl, hx, fun p hp => ?_⟩
  have s1 := same_new (o := HO.tup (fiveV f)) hp
  refine ⟨p, _, rfl, dp_five upd_same, w1, w2, w3, w4, ?_⟩
  refine ⟨_, rfl, q, _, rfl, dp_five (s1 _ _ hq), w1, w2, w3, w4, rfl, ?_⟩
  have e : decide (V.str (fiveD f).shown = V.str (fiveD f).shown) = true := decide_eq_true rfl
  show Q (V.bl (decide (V.str (fiveD f).shown = V.str (fiveD f).shown))) _
  rw [e]
  exact k _ s1
end
end PH
namespace PH
open PySem PySem.Spec PyProof.Rows L2
open C8 (pss_cut tCut)
abbrev InitD (K : PySem.W.Frag) (f : Addr) (fd : FuncData) : Prop := FunD K "__init__" "Exact.__init__" (defArgs sInit) bInit (defScope sInit) [.int 1] [("sign", .int 0), ("over", .int 0), ("under", .int 1)] f fd
abbrev psI : List Str := ["self", "top", "bottom", "sign", "over", "under"]
section
variable {P : Program} {w : World} {K : PySem.W.Frag} {mg : Str → Option Value} {base : Heap} {C NX : Addr}
/-! ### how Exact's arguments bind -/
theorem kb_made {f : Addr} {fd : FuncData} (F : InitD K f fd) : ∃ its mv : List Value, KBn K fd psI 3 ["sign", "over", "under"] (fun us ws => us ++ ws) (fun vs zs => vs ++ zs) :=
  F.kbinds 3 ["sign", "over", "under"] [] (fun us _ _ ws => us ++ ws) (by simp) (by simp) (by simp) (fun r1 _ _ r4 => r1.append r4)
    fun T D doc pm an cdv ct us its mv ws h1 h2 h3 h4 => match us, its, mv, ws, h1, h2, h3, h4 with
      | [_, _, _], [_], [], [_, _, _], _, _, _, _ => ⟨_, rfl, rfl⟩
def pick {α : Type} (l : List α) (i : Nat) : List α := (l.drop i).take 1
theorem vals_pick {vs : List V} {us : List Value} (i : Nat) (r : Vals vs us) : Vals (pick vs i) (pick us i) := (r.drop i).take 1
theorem kb_one {f : Addr} {fd : FuncData} (F : InitD K f fd) : ∃ ds, Vals [.int 1, .int 0, .int 0, .int 1] ds ∧ Binds K fd psI ds :=
  F.binds 2 0 (by simp) rfl (fun T D doc pm an cdv ct us its ks h1 h2 h3 => match us, its, ks, h1, h2, h3 with
      | [_, _], [_], [_, _, _], _, _, _ => ⟨_, rfl, ⟨_, _, _, _, _, _, rfl, rfl, ⟨_, _, _, _, _, _, rfl, rfl, ⟨_, _, _, _, _, _, rfl, rfl, rfl⟩⟩⟩⟩) (by simp)
theorem kb_top {f : Addr} {fd : FuncData} (F : InitD K f fd) : ∃ its mv : List Value, KBn K fd psI 1 ["top"] (fun us ws => us ++ (ws ++ (its ++ mv))) (fun vs zs => vs ++ (zs ++ ([.int 1] ++ [.int 0, .int 0, .int 1]))) :=
  F.kbinds 1 ["top"] [("sign", .int 0), ("over", .int 0), ("under", .int 1)] (fun us its mv ws => us ++ (ws ++ (its ++ mv))) (by simp) (by simp) (by simp) (fun r1 r2 r3 r4 => r1.append (r4.append (r2.append r3)))
    fun T D doc pm an cdv ct us its mv ws h1 h2 h3 h4 => match us, its, mv, ws, h1, h2, h3, h4 with
      | [_], [_], [_, _, _], [_], _, _, _, _ => ⟨_, rfl, ⟨_, _, _, _, _, _, rfl, rfl, ⟨_, _, _, _, _, _, rfl, rfl, ⟨_, _, _, _, _, _, rfl, rfl, rfl⟩⟩⟩⟩
theorem kb_bottom {f : Addr} {fd : FuncData} (F : InitD K f fd) : ∃ its mv : List Value, KBn K fd psI 2 ["bottom"] (fun us ws => us ++ (ws ++ mv)) (fun vs zs => vs ++ (zs ++ [.int 0, .int 0, .int 1])) :=
  F.kbinds 2 ["bottom"] [("sign", .int 0), ("over", .int 0), ("under", .int 1)] (fun us _ mv ws => us ++ (ws ++ mv)) (by simp) (by simp) (by simp) (fun r1 r2 r3 r4 => r1.append (r4.append r3))
    fun T D doc pm an cdv ct us its mv ws h1 h2 h3 h4 => match us, its, mv, ws, h1, h2, h3, h4 with
      | [_, _], [_], [_, _, _], [_], _, _, _, _ => ⟨_, rfl, ⟨_, _, _, _, _, _, rfl, rfl, ⟨_, _, _, _, _, _, rfl, rfl, ⟨_, _, _, _, _, _, rfl, rfl, rfl⟩⟩⟩⟩
theorem kb_four {f : Addr} {fd : FuncData} (F : InitD K f fd) : ∃ its mv : List Value, KBn K fd psI 1 ["bottom", "over", "sign", "top"] (fun us ws => us ++ (pick ws 3 ++ (pick ws 0 ++ (pick ws 2 ++ (pick ws 1 ++ mv))))) (fun vs zs => vs ++ (pick zs 3 ++ (pick zs 0 ++ (pick zs 2 ++ (pick zs 1 ++ [.int 1]))))) :=
  F.kbinds 1 ["bottom", "over", "sign", "top"] [("under", .int 1)] (fun us _ mv ws => us ++ (pick ws 3 ++ (pick ws 0 ++ (pick ws 2 ++ (pick ws 1 ++ mv))))) (by simp) (by simp) (by simp) (fun r1 r2 r3 r4 => r1.append ((vals_pick 3 r4).append ((vals_pick 0 r4).append ((vals_pick 2 r4).append ((vals_pick 1 r4).append r3)))))
    fun T D doc pm an cdv ct us its mv ws h1 h2 h3 h4 => match us, its, mv, ws, h1, h2, h3, h4 with
      | [_], [_], [_], [_, _, _, _], _, _, _, _ => ⟨_, rfl, ⟨_, _, _, _, _, _, rfl, rfl, rfl⟩⟩
theorem kb_all {f : Addr} {fd : FuncData} (F : InitD K f fd) : ∃ its mv : List Value, KBn K fd psI 1 ["under", "sign", "bottom", "top", "over"] (fun us ws => us ++ (pick ws 3 ++ (pick ws 2 ++ (pick ws 1 ++ (pick ws 4 ++ pick ws 0))))) (fun vs zs => vs ++ (pick zs 3 ++ (pick zs 2 ++ (pick zs 1 ++ (pick zs 4 ++ pick zs 0))))) :=
  F.kbinds 1 ["under", "sign", "bottom", "top", "over"] [] (fun us _ _ ws => us ++ (pick ws 3 ++ (pick ws 2 ++ (pick ws 1 ++ (pick ws 4 ++ pick ws 0))))) (by simp) (by simp) (by simp) (fun r1 r2 r3 r4 => r1.append ((vals_pick 3 r4).append ((vals_pick 2 r4).append ((vals_pick 1 r4).append ((vals_pick 4 r4).append (vals_pick 0 r4))))))
    fun T D doc pm an cdv ct us its mv ws h1 h2 h3 h4 => match us, its, mv, ws, h1, h2, h3, h4 with
      | [_], [_], [], [_, _, _, _, _], _, _, _, _ => ⟨_, rfl, rfl⟩
/-! ### _law_made -/
/-- a number at x is the one of f -/
def NumAt (C : Addr) (H : Hp) (x : Addr) (f : Five) : Prop := ∃ dx, H x = some (.ins C dx (flds f))
def spMade (C NX : Addr) : Sp := fun vs H Q E => ∃ (p : Addr) (xs : List V), vs = [.ref p] ∧ H p = some (.tup xs) ∧ xs.length = 5 ∧ (∀ v ∈ xs, Any C H v) ∧
  (rightB xs = false → ∀ H', Same H H' → E (.ref NX) none H') ∧
  ∀ f : Five, xs = fiveV f → Right f → Wide f ∧ ∀ H' x, Same H H' → H x = none → NumAt C H' x (form f) → Q (.ref x) H'
theorem scMade : FnScope ["_law_five_here"] ["_law_five_here"] (defScope sMade) := ⟨rfl, rfl, rfl, by decide +kernel, rfl, by decide +kernel, by decide +kernel⟩
theorem made_same {H H' : Hp} {x dx : Addr} {o : HO} (nx : H x = none) (ndx : H dx = none) (k : ∀ b o', upd (upd H dx (.own x)) x o b = some o' → b ≠ x → H' b = some o') : Same H H' := fun b u e => by
  refine k b u ?_ (ne_of_none e nx)
  rw [upd_ne (ne_of_none e nx), upd_ne (ne_of_none e ndx)]
  exact e
theorem same_ins {H : Hp} {x dx : Addr} {o : HO} (nx : H x = none) (ndx : H dx = none) : Same H (upd (upd H dx (.own x)) x o) := fun b u e => by
  rw [upd_ne (ne_of_none e nx), upd_ne (ne_of_none e ndx)]
  exact e
/-- what a call of Exact asks and gives: for any way of writing it -/
theorem init_at {H : Hp} {x dx : Addr} {xs : List V} {Q : VK} {E : XK} (nx : H x = none) (ndx : H dx = none) (hl : xs.length = 5) (hv : ∀ v ∈ xs, Any C H v)
    (kE : rightB xs = false → ∀ H', Same H H' → E (.ref NX) none H')
    (kQ : ∀ f : Five, xs = fiveV f → Right f → Wide f ∧ ∀ H', Same H H' → H x = none → NumAt C H' x (form f) → Q (.ref x) H') :
    spInit C NX (.ref x :: xs) (upd (upd H dx (.own x)) x (.ins C dx [])) (fun v H3 => v = .non ∧ Q (.ref x) H3) E := by
  have s0 := same_ins (o := HO.ins C dx []) nx ndx
  refine ⟨x, dx, xs, rfl, hl, upd_same, fun v hm => (hv v hm).same s0, fun h H' s => kE h H' (s0.trans s), fun f hf R => ?_⟩
  obtain ⟨ft, q⟩ := kQ f hf R
  exact ⟨ft, fun H' hx hk => ⟨rfl, q H' (made_same nx ndx hk) nx ⟨dx, hx⟩⟩⟩
abbrev GInit (P : Program) (w : World) (K : PySem.W.Frag) (mg : Str → Option Value) (base : Heap) (C NX f : Addr) (fd : FuncData) : Prop := FnOk P w K mg base (L2.CX P w) 3 f fd psI (spInit C NX)
theorem ok_made {f fI : Addr} {fd fdI : FuncData} (F : Fun K "_law_made" "_law_made" sMade f fd) (T : TEx K mg C) (M : Mk K C fI) (FI : InitD K fI fdI) (GI : GInit P w K mg base C NX fI fdI) :
    FnOk P w K mg base (L2.CX P w) 5 f fd ["_law_five_here"] (spMade C NX) := by
  obtain ⟨its, mv, KB⟩ := kb_made FI
  refine F.okX scMade ?_ ?_
  · rintro vs H Q E ⟨p, xs, rfl, _⟩
    rfl
  intro cdv A outer s H vs Q E hr h
  obtain ⟨p, xs, rfl, hp, hl, hv, kE, kQ⟩ := h
  match xs, hl with
  | [v1, v2, v3, v4, v5], _ =>
  refine ⟨_, pss_one (ps_ret (pe_makeN M GI hr rfl T.mgC KB (passes_call (takes_of rfl rfl rfl rfl) (fun _ _ _ _ z => z))
    (pa_cons (pe_ix ix_tup (pv 0) pe_int (fun _ _ => rfl)) (pa_cons (pe_ix ix_tup (pv 0) pe_int (fun _ _ => rfl)) pa_nil))
    (pk_cons (pe_ix ix_tup (pv 0) pe_int (fun _ _ => rfl)) (pk_cons (pe_ix ix_tup (pv 0) pe_int (fun _ _ => rfl)) (pk_cons (pe_ix ix_tup (pv 0) pe_int (fun _ _ => rfl)) pk_nil))))), ?_⟩
  refine ⟨_, rfl, p, _, 0, _, rfl, rfl, SqT.of hp, rfl, _, rfl, p, _, 1, _, rfl, rfl, SqT.of hp, rfl, ?_⟩
  refine ⟨_, rfl, p, _, 2, _, rfl, rfl, SqT.of hp, rfl, _, rfl, p, _, 3, _, rfl, rfl, SqT.of hp, rfl, _, rfl, p, _, 4, _, rfl, rfl, SqT.of hp, rfl, rfl, rfl, fun x dx nx ndx _ => ?_⟩
  refine init_at (xs := [v1, v2, v3, v4, v5]) nx ndx rfl hv kE fun f hf R => ?_
  obtain ⟨ft, q⟩ := kQ f hf R
  exact ⟨ft, fun H' s n na => q H' x s n na⟩
end
end PH
namespace PH
open PySem PySem.Spec PyProof.Rows L2
abbrev sSign : Stmt := topS 8
abbrev sOnR : Stmt := topS 15
/-- where none comes -/
theorem ps_dead {X : Cx} {st : Stmt} : PS X st (fun _ _ _ => False) := ⟨fun _ _ _ _ _ _ h => h.elim⟩
section
variable {P : Program} {w : World} {K : PySem.W.Frag} {mg : Str → Option Value} {base : Heap} {C : Addr}
/-! ### sign_of_whole -/
def spSign : Sp := fun vs H Q _ => ∃ n : Int, vs = [.int n] ∧ Q (.int (sgI n)) H
theorem scSign : FnScope ["number"] ["number"] (defScope sSign) := ⟨rfl, rfl, rfl, by decide +kernel, rfl, by decide +kernel, by decide +kernel⟩
theorem ok_sign {f : Addr} {fd : FuncData} (F : Fun K "sign_of_whole" "sign_of_whole" sSign f fd) : FnOk P w K mg base CX0 1 f fd ["number"] spSign := by
  refine F.ok scSign ?_ ?_
  · rintro vs H Q E ⟨n, rfl, _⟩
    rfl
  intro cdv A outer s H vs Q E hr h
  obtain ⟨n, rfl, k⟩ := h
  refine ⟨_, pss_cons (ps_if (pt_cmpR op_gt (pv 0) pe_int (nomark _)) (pss_one (ps_ret pe_int)) pss_nil)
    (pss_cons (ps_if (pt_cmpR op_lt (pv 0) pe_int (nomark _)) (pss_one (ps_ret (pe_un un_neg pe_int))) pss_nil)
    (pss_one (ps_ret pe_int))), ?_⟩
  refine ⟨_, rfl, n, 0, rfl, rfl, _, rfl, ?_⟩
  unfold sgI at k
  by_cases h1 : 0 < n
  · rw [if_pos h1] at k
    exact if_t (decide_eq_true h1) k
  · rw [if_neg h1] at k
    refine if_f (decide_eq_false h1) ?_
    refine ⟨_, rfl, n, 0, rfl, rfl, _, rfl, ?_⟩
    by_cases h2 : n < 0
    · rw [if_pos h2] at k
      exact if_t (decide_eq_true h2) ⟨1, rfl, k⟩
    · rw [if_neg h2] at k
      exact if_f (decide_eq_false h2) k
/-! ### on_one_root -/
def rootsV (t : Roots) : List V := [.int t.1, .int t.2.1, .int t.2.2.1, .int t.2.2.2.1, .int t.2.2.2.2]
/-- a number of the class is kept at x -/
theorem NumAt.same {H H' : Hp} {x : Addr} {f : Five} (s : Same H H') (h : NumAt C H x f) : NumAt C H' x f := h.imp fun _ e => s _ _ e
def Wds (k : Nat) (f : Five) : Prop := Wd k f.1 ∧ Wd k f.2.1 ∧ Wd 2200 f.2.2.2.1 ∧ Wd 2200 f.2.2.2.2
theorem isq_of_both {p q : Int} (hq : 0 < q) (h : both (low p q) = true) : isq (p * q) = true := by
  unfold both at h
  rw [Bool.and_eq_true] at h
  have h1 := isq_eq h.1
  have h2 := isq_eq h.2
  have e : p * q = (g p q * rt (low p q).1 * rt (low p q).2) * (g p q * rt (low p q).1 * rt (low p q).2) := by
    have a1 := low1 p q
    have a2 := low2 p q
    rw [← h1] at a1
    rw [← h2] at a2
    conv => lhs; rw [← a1]; arg 2; rw [← a2]
    ac_rfl
  have n0 : 0 ≤ g p q * rt (low p q).1 * rt (low p q).2 := Int.mul_nonneg (Int.mul_nonneg (Int.le_of_lt (g_pos hq)) (rt_nonneg _)) (rt_nonneg _)
  rw [e]
  exact isq_sq n0
/-! ### go_together -/
abbrev sGoT : Stmt := topS 14
def spGoT (C : Addr) : Sp := fun vs H Q _ => ∃ (x y : Addr) (f f' : Five), vs = [.ref x, .ref y] ∧ NumAt C H x f ∧ NumAt C H y f' ∧ 0 ≤ f.2.2.2.1 ∧ 0 ≤ f.2.2.2.2 ∧ 0 ≤ f'.2.2.2.1 ∧ 0 ≤ f'.2.2.2.2 ∧ Wds 2500 f ∧ Wds 2500 f' ∧ Q (.bl (isq (f.2.2.2.1 * f.2.2.2.2 * f'.2.2.2.1 * f'.2.2.2.2))) H
theorem scGoT : FnScope ["one", "other"] ["one", "other"] (defScope sGoT) := ⟨rfl, rfl, rfl, by decide +kernel, rfl, by decide +kernel, by decide +kernel⟩
theorem ok_goT {f fS : Addr} {fd fdS : FuncData} (F : Fun K "go_together" "go_together" sGoT f fd) (T : TEx K mg C)
    (GS : FnOk P w K mg base CX0 1 fS fdS ["number"] spSq) (FS : Fns K mg fS fdS "is_square" 10 ["number"]) : FnOk P w K mg base CX0 2 f fd ["one", "other"] (spGoT C) := by
  refine F.ok scGoT ?_ ?_
  · rintro vs H Q E ⟨x, y, f, f', rfl, _⟩
    rfl
  intro cdv A outer s H vs Q E hr h
  obtain ⟨x, y, f, f', rfl, ⟨dx, hx⟩, ⟨dy, hy⟩, p1, p2, p3, p4, ⟨_, _, w1, w2⟩, ⟨_, _, w3, w4⟩, k⟩ := h
  refine ⟨_, pss_one (ps_ret (pe_call GS hr rfl FS.m FS.F.kp FS.b .nil pass0 (pa_cons (pe_op op_mulX (pe_op op_mulX (pe_op op_mulX (pe_fld (pv 0) rfl) (pe_fld (pv 0) rfl)) (pe_fld (pv 1) rfl)) (pe_fld (pv 1) rfl)) pa_nil))), ?_⟩
  refine ⟨_, rfl, x, C, dx, _, _, rfl, hx, T.cl, T.nO, (by rfl), _, rfl, x, C, dx, _, _, rfl, hx, T.cl, T.nU, (by rfl), _, _, rfl, rfl, w1.toMul w2 (by decide), ?_⟩
  refine ⟨_, rfl, y, C, dy, _, _, rfl, hy, T.cl, T.nO, (by rfl), _, _, rfl, rfl, (w1.mul w2).toMul w3 (by decide), _, rfl, y, C, dy, _, _, rfl, hy, T.cl, T.nU, (by rfl), _, _, rfl, rfl, ((w1.mul w2).mul w3).toMul w4 (by decide), ?_⟩
  dsimp only [tNil]
  exact ⟨_, rfl, Int.mul_nonneg (Int.mul_nonneg (Int.mul_nonneg p1 p2) p3) p4, (((w1.mul w2).mul w3).mul w4).mono (by decide), k⟩
/-! ### on_one_root -/
def spOnR (C : Addr) : Sp := fun vs H Q _ => ∃ (x y : Addr) (f f' : Five), vs = [.ref x, .ref y] ∧ NumAt C H x f ∧ NumAt C H y f' ∧ Canon f ∧ Canon f' ∧ Wds 2500 f ∧ Wds 2500 f' ∧ go f f' = true ∧
  ∀ H' p, Same H H' → H' p = some (.tup (rootsV (roots f f'))) → Q (.ref p) H'
abbrev nOnR : List Str := ["one", "other", "top", "bottom", "parts"]
theorem scOnR : FnScope nOnR ["one", "other"] (defScope sOnR) := ⟨rfl, rfl, rfl, by decide +kernel, rfl, by decide +kernel, by decide +kernel⟩
theorem ok_onR {f fL fS fG : Addr} {fd fdL fdS fdG : FuncData} (F : Fun K "on_one_root" "on_one_root" sOnR f fd) (T : TEx K mg C) (mI : mg "isqrt" = some (.builtin "math.isqrt"))
    (GL : FnOk P w K mg base CX0 1 fL fdL ["top", "bottom"] spLow) (FL : Fns K mg fL fdL "lowest_terms" 9 ["top", "bottom"])
    (GS : FnOk P w K mg base CX0 1 fS fdS ["number"] spSq) (FS : Fns K mg fS fdS "is_square" 10 ["number"]) (FG : Fns K mg fG fdG "go_together" 14 ["one", "other"]) :
    FnOk P w K mg base CX0 3 f fd ["one", "other"] (spOnR C) := by
  have GG : FnOk P w K mg base CX0 2 fG fdG ["one", "other"] (spGoT C) := ok_goT FG.F T GS FS
  refine F.ok scOnR ?_ ?_
  · rintro vs H Q E ⟨x, y, f, f', rfl, _⟩
    rfl
  intro cdv A outer s H vs Q E hr h
  obtain ⟨x, y, f, f', rfl, ⟨dx, hx⟩, ⟨dy, hy⟩, C1, C2, W1, W2, hgo, k⟩ := h
  refine ⟨_, pss_cons (ps_if (pt_cmpR op_eq (pe_fld (pv 0) rfl) pe_int (nomark _)) (pss_one (ps_ret (pe_tup (pa_cons (pe_fld (pv 1) rfl) (pa_cons (pe_fld (pv 1) rfl) (pa_cons pe_int (pa_cons pe_int (pa_cons (pe_fld (pv 1) rfl) pa_nil)))))))) pss_nil)
    (pss_cons (ps_if (pt_cmpR op_eq (pe_fld (pv 1) rfl) pe_int (nomark _)) (pss_one (ps_ret (pe_tup (pa_cons (pe_fld (pv 0) rfl) (pa_cons (pe_fld (pv 0) rfl) (pa_cons pe_int (pa_cons (pe_fld (pv 0) rfl) (pa_cons pe_int pa_nil)))))))) pss_nil)
    (pss_cons (ps_if (pt_not (pt_val (pe_call GG hr rfl FG.m FG.F.kp FG.b .nil pass0 (pa_cons (pv 0) (pa_cons (pv 1) pa_nil))))) (pss_one ps_dead) pss_nil)
    (pss_cons (ps_asg (pe_call GL (hr.mono (by decide)) rfl FL.m FL.F.kp FL.b .nil pass0 (pa_cons (pe_op op_mulX (pe_fld (pv 1) rfl) (pe_fld (pv 0) rfl)) (pa_cons (pe_op op_mulX (pe_fld (pv 1) rfl) (pe_fld (pv 0) rfl)) pa_nil))) (pg_tup rfl (pgs_cons (pg_name (i := 2) scOnR.nd rfl (Or.inl rfl)) (pgs_cons (pg_name (i := 3) scOnR.nd rfl (Or.inl rfl)) pgs_nil))))
    (pss_cons (ps_set (i := 4) scOnR.nd rfl (Or.inl rfl) (pe_callBfun cr_isqrtW rfl mI (pa_cons (pv 3) pa_nil)))
    (pss_one (ps_ret (pe_tup (pa_cons (pe_fld (pv 0) rfl) (pa_cons (pe_fld (pv 0) rfl) (pa_cons (pv 4) (pa_cons (pe_op op_mulX (pe_fld (pv 0) rfl) (pv 4)) (pa_cons (pe_op op_mulX (pe_fld (pv 1) rfl) (pe_callBfun cr_isqrtW rfl mI (pa_cons (pv 2) pa_nil))) pa_nil)))))))))))), ?_⟩
  have R1 := canon_right C1
  have R2 := canon_right C2
  have M1 := C1.m
  have W1k := W1
  have W2k := W2
  obtain ⟨u, l, t, a, b⟩ := f
  obtain ⟨u', l', t', a', b'⟩ := f'
  obtain ⟨_, _, wa, wb⟩ := W1
  obtain ⟨_, _, wa', wb'⟩ := W2
  have hb := R1.b
  have hb' := R2.b
  have ha := R1.a
  have ha' := R2.a
  have ht := R1.m
  have ht' := R2.m
  unfold go roots ratio at *
  dsimp only at wa wb wa' wb' hb hb' ha ha' ht ht' hgo k M1
  refine ⟨_, rfl, x, C, dx, _, _, rfl, hx, T.cl, T.nS, (by rfl), rfl, _, rfl, ?_⟩
  by_cases z : t = 0
  · refine if_t (by show decide (V.int t = V.int 0) = true; rw [dec_int]; exact decide_eq_true z) ?_
    rw [if_pos z] at k
    refine ⟨_, rfl, y, C, dy, _, _, rfl, hy, T.cl, T.nO, (by rfl), _, rfl, y, C, dy, _, _, rfl, hy, T.cl, T.nU, (by rfl), _, rfl, y, C, dy, _, _, rfl, hy, T.cl, T.nS, (by rfl), (by show 5 ≤ sizeLine; decide), fun p hp => ?_⟩
    exact k _ p (same_new hp) upd_same
  rw [if_neg z] at k
  refine if_f (by show decide (V.int t = V.int 0) = false; rw [dec_int]; exact decide_eq_false z) ?_
  refine ⟨_, rfl, y, C, dy, _, _, rfl, hy, T.cl, T.nS, (by rfl), rfl, _, rfl, ?_⟩
  by_cases z' : t' = 0
  · refine if_t (by show decide (V.int t' = V.int 0) = true; rw [dec_int]; exact decide_eq_true z') ?_
    rw [if_pos z'] at k
    refine ⟨_, rfl, x, C, dx, _, _, rfl, hx, T.cl, T.nO, (by rfl), _, rfl, x, C, dx, _, _, rfl, hx, T.cl, T.nU, (by rfl), _, rfl, x, C, dx, _, _, rfl, hx, T.cl, T.nS, (by rfl), (by show 5 ≤ sizeLine; decide), fun p hp => ?_⟩
    exact k _ p (same_new hp) upd_same
  rw [if_neg z'] at k
  refine if_f (by show decide (V.int t' = V.int 0) = false; rw [dec_int]; exact decide_eq_false z') ?_
  have ap : 0 < a := by
    rcases M1 with ⟨h0, _, _⟩ | ⟨_, _, _, h1, h2⟩
    · exact absurd h0 z
    · have := isq_zero_of h2 h1 hb
      omega
  have hp : 0 < b' * a := Int.mul_pos hb' ap
  have h0 : 0 ≤ a' * b := Int.mul_nonneg ha' (Int.le_of_lt hb)
  have w1 := wa'.mul wb
  have w2 := wb'.mul wa
  have n1 := low1_nonneg h0 hp
  have n2 := low2_pos (a := a' * b) hp
  have v1 := w1.low1 hp
  have v2 := w2.low2 (a := a' * b) hp
  have bb : both (low (a' * b) (b' * a)) = true := by
    have e1 : decide (t = 0) = false := decide_eq_false z
    have e2 : decide (t' = 0) = false := decide_eq_false z'
    rw [e1, e2] at hgo
    exact hgo
  have bb2 := bb
  unfold both at bb2
  rw [Bool.and_eq_true] at bb2
  obtain ⟨b1, b2⟩ := bb2
  have sqg : isq (a * b * a' * b') = true := by
    have := isq_of_both hp bb
    rw [← this]
    congr 1
    ac_rfl
  refine ⟨_, rfl, _, rfl, ?_⟩
  dsimp only [tNil]
  refine ⟨x, y, _, _, rfl, ⟨dx, hx⟩, ⟨dy, hy⟩, ha, Int.le_of_lt hb, ha', Int.le_of_lt hb', W1k, W2k, _, rfl, ?_⟩
  refine if_f (by show (!isq (a * b * a' * b')) = false; rw [sqg]; rfl) ?_
  refine ⟨_, rfl, y, C, dy, _, _, rfl, hy, T.cl, T.nO, (by rfl), _, rfl, x, C, dx, _, _, rfl, hx, T.cl, T.nU, (by rfl), a', b, rfl, rfl, wa'.toMul wb (by decide), _, rfl, y, C, dy, _, _, rfl, hy, T.cl, T.nU, (by rfl), _, rfl, x, C, dx, _, _, rfl, hx, T.cl, T.nO, (by rfl), b', a, rfl, rfl, wb'.toMul wa (by decide), ?_⟩
  dsimp only [tNil]
  refine ⟨a' * b, b' * a, rfl, hp, w2.mono (by decide), fun q hq => ?_⟩
  have hqx := ne_of_none hx hq
  have hqy := ne_of_none hy hq
  have s1 := same_new (o := HO.tup [.int (low (a' * b) (b' * a)).1, .int (low (a' * b) (b' * a)).2]) hq
  refine ⟨q, _, rfl, SqT.of upd_same, rfl, _, _, rfl, _, _, rfl, rfl, ?_⟩
  refine ⟨_, rfl, _, rfl, Int.le_of_lt n2, v2.mono (by decide), ?_⟩
  have r1 := Wd.rt n1 v1
  have r2 := Wd.rt (Int.le_of_lt n2) v2
  refine ⟨_, rfl, x, C, dx, _, _, rfl, s1 _ _ hx, T.cl, T.nO, (by rfl), _, rfl, x, C, dx, _, _, rfl, s1 _ _ hx, T.cl, T.nU, (by rfl), _, rfl, _, rfl, x, C, dx, _, _, rfl, s1 _ _ hx, T.cl, T.nS, (by rfl), _, rfl, t, _, rfl, rfl, (Wd.one ht).toMul r2 (by decide), ?_⟩
  refine ⟨_, rfl, y, C, dy, _, _, rfl, s1 _ _ hy, T.cl, T.nS, (by rfl), _, rfl, _, rfl, n1, v1.mono (by decide), t', _, rfl, rfl, (Wd.one ht').toMul r1 (by decide), (by show 5 ≤ sizeLine; decide), fun p hp' => ?_⟩
  exact k _ p (s1.trans (same_new hp')) upd_same
end
end PH
namespace PH
open PySem PySem.Spec PyProof.Rows L2
abbrev sWithR : Stmt := topS 16
abbrev sTurn : Stmt := topS 9999
abbrev sPlus : Stmt := inClass (topS 12) 4
section
variable {P : Program} {w : World} {K : PySem.W.Frag} {mg : Str → Option Value} {base : Heap} {C NX : Addr}
/-- what a new number is handed to -/
def NewNum (C : Addr) (H : Hp) (Q : VK) (f : Five) : Prop := ∀ H' x, Same H H' → H x = none → NumAt C H' x f → Q (.ref x) H'
/-- Exact of five right numbers -/
theorem init_right {H : Hp} {x dx : Addr} {f : Five} {Q : VK} {E : XK} (nx : H x = none) (ndx : H dx = none) (R : Right f) (W : Wide f) (q : NewNum C H Q (form f)) :
    spInit C NX (.ref x :: fiveV f) (upd (upd H dx (.own x)) x (.ins C dx [])) (fun v H3 => v = .non ∧ Q (.ref x) H3) E := by
  refine init_at nx ndx rfl ?_ ?_ fun f' e R' => ?_
  · intro v hv
    unfold fiveV at hv
    simp only [List.mem_cons, List.not_mem_nil, or_false] at hv
    rcases hv with rfl | rfl | rfl | rfl | rfl <;> exact .inl ⟨_, rfl⟩
  · intro e
    rw [B_of_right R] at e
    cases e
  · have : f = f' := by
      obtain ⟨u, l, s, a, b⟩ := f
      obtain ⟨u', l', s', a', b'⟩ := f'
      unfold fiveV at e
      simpa using e
    subst this
    exact ⟨W, fun H' s n na => q H' x s n na⟩
/-! ### with_root -/
def spWithR (C : Addr) : Sp := fun vs H Q _ => ∃ u l n d a b : Int, vs = [.int u, .int l, .int n, .int d, .int a, .int b] ∧ Right (parts u l n d a b) ∧ Wide (parts u l n d a b) ∧ Wd 7000 n ∧ Wd 7000 d ∧ Wd 7000 a ∧ Wd 7000 b ∧
  NewNum C H Q (form (parts u l n d a b))
abbrev psW : List Str := ["top", "bottom", "many", "parts", "over", "under"]
theorem scWithR : FnScope psW psW (defScope sWithR) := ⟨rfl, rfl, rfl, by decide +kernel, rfl, by decide +kernel, by decide +kernel⟩
theorem ok_withR {f fI fS : Addr} {fd fdI fdS : FuncData} (F : Fun K "with_root" "with_root" sWithR f fd) (T : TEx K mg C) (M : Mk K C fI) (FI : InitD K fI fdI) (GI : GInit P w K mg base C NX fI fdI)
    (FS : Fns K mg fS fdS "sign_of_whole" 8 ["number"]) : FnOk P w K mg base CX0 5 f fd psW (spWithR C) := by
  have GS : FnOk P w K mg base CX0 1 fS fdS ["number"] spSign := ok_sign FS.F
  obtain ⟨its, mv, KB⟩ := kb_made FI
  refine F.ok scWithR ?_ ?_
  · rintro vs H Q E ⟨u, l, n, d, a, b, rfl, _⟩
    rfl
  intro cdv A outer s H vs Q E hr h
  obtain ⟨u, l, n, d, a, b, rfl, R, W, wn, wd, wa, wb, k⟩ := h
  refine ⟨_, pss_one (ps_ret (pe_makeN M GI hr rfl T.mgC KB passX0 (pa_cons (pv 0) (pa_cons (pv 1) pa_nil))
    (pk_cons (pe_call GS (hr.mono (by decide)) rfl FS.m FS.F.kp FS.b .nil pass0 (pa_cons (pv 2) pa_nil)) (pk_cons (pe_op op_mulX (pe_op op_mulX (pv 2) (pv 2)) (pv 4)) (pk_cons (pe_op op_mulX (pe_op op_mulX (pv 3) (pv 3)) (pv 5)) pk_nil))))), ?_⟩
  refine ⟨_, rfl, _, rfl, _, rfl, n, rfl, _, rfl, _, rfl, n, n, rfl, rfl, wn.toMul wn (by decide), _, rfl, _, _, rfl, rfl, (wn.mul wn).toMul wa (by decide), ?_⟩
  refine ⟨_, rfl, _, rfl, d, d, rfl, rfl, wd.toMul wd (by decide), _, rfl, _, _, rfl, rfl, (wd.mul wd).toMul wb (by decide), rfl, rfl, fun x dx nx ndx _ => ?_⟩
  exact init_right (f := parts u l n d a b) nx ndx R W k
end
end PH
namespace PH
open PySem PySem.Spec PyProof.Rows L2
/-! ### how many bits -/
structure Bd (T a : Nat) (f : Five) : Prop where
  u : Wd T f.1
  l : Wd T f.2.1
  x : Wd (a + a) f.2.2.2.1
  y : Wd (a + a) f.2.2.2.2
theorem Bd.mono {T T' a a' : Nat} {f : Five} (h : Bd T a f) (h1 : T ≤ T') (h2 : a ≤ a') : Bd T' a' f := ⟨h.u.mono h1, h.l.mono h1, h.x.mono (by omega), h.y.mono (by omega)⟩
theorem Bd.neg {T a : Nat} {f : Five} (h : Bd T a f) : Bd T a (neg f) := ⟨h.u.neg0, h.l, h.x, h.y⟩
theorem Bd.about {T a : Nat} {f : Five} (h : Bd T a f) : Bd T a (about f) := ⟨h.u, h.l, h.x, h.y⟩
theorem wd_zero : Wd 1 0 := by unfold Wd; decide
theorem wd_one : Wd 1 1 := by unfold Wd; decide
theorem Bd.wide {T a : Nat} {f : Five} (h : Bd T a f) (h1 : T ≤ 5200) (h2 : a ≤ 3500) : Wide f := ⟨h.u.mono h1, h.l.mono h1, h.x.mono (by omega), h.y.mono (by omega)⟩
theorem Bd.wds {T a : Nat} {f : Five} (h : Bd T a f) (h1 : T ≤ 2500) (h2 : a ≤ 1100) : Wds 2500 f := ⟨h.u.mono h1, h.l.mono h1, h.x.mono (by omega), h.y.mono (by omega)⟩
theorem Bd.form {T a : Nat} {f : Five} (R : Right f) (h : Bd T a f) (h1 : 1 ≤ a) : Bd (T + a + 2) a (form f) := by
  obtain ⟨u, l, s, x, y⟩ := f
  obtain ⟨hu, hl, ha, hb⟩ := h
  have hl0 := R.l
  have hm := R.m
  have hx := R.a
  have hy := R.b
  dsimp only at hu hl ha hb hl0 hm hx hy
  have n1 := low1_nonneg hx hy
  have n2 := low2_pos (a := x) hy
  have w1 := ha.low1 hy
  have w2 := hb.low2 (a := x) hy
  have r1 := Wd.rt2 n1 w1
  have r2 := Wd.rt2 (Int.le_of_lt n2) w2
  unfold PH.form
  dsimp only
  by_cases c : both (low x y) = true
  · rw [if_pos c]
    have hs : isq (low x y).2 = true := by unfold both at c; rw [Bool.and_eq_true] at c; exact c.2
    have hp : 0 < l * rt (low x y).2 := Int.mul_pos hl0 (rt_pos n2 hs)
    have k1 : Wd (T + a + 1) (u * rt (low x y).2) := (hu.mul r2).mono (by omega)
    have k2 : Wd (T + a + 1) (s * rt (low x y).1 * l) := (((Wd.one hm).mul r1).mul hl).mono (by omega)
    exact ⟨(k1.add k2).low1 hp |>.mono (by omega), ((hl.mul r2).low2 (a := u * rt (low x y).2 + s * rt (low x y).1 * l) hp).mono (by omega), wd_zero.mono (by omega), wd_one.mono (by omega)⟩
  · rw [if_neg c]
    by_cases z : s = 0
    · rw [if_pos z]
      exact ⟨(hu.low1 hl0).mono (by omega), (hl.low2 (a := u) hl0).mono (by omega), wd_zero.mono (by omega), wd_one.mono (by omega)⟩
    · rw [if_neg z]
      exact ⟨(hu.low1 hl0).mono (by omega), (hl.low2 (a := u) hl0).mono (by omega), w1, w2⟩
/-- what on_one_root tells -/
structure RB (e M : Nat) (t : Roots) : Prop where
  a : Wd (M + M) t.1
  b : Wd (M + M) t.2.1
  d : Wd e t.2.2.1
  n : Wd (e + 1) t.2.2.2.1
  n' : Wd (e + 1) t.2.2.2.2
theorem canon_pos {f : Five} (C : Canon f) (h : f.2.2.1 ≠ 0) : 0 < f.2.2.2.1 ∧ 0 < f.2.2.2.2 := by
  rcases C.m with ⟨z, _⟩ | ⟨_, h1, h2, h3, h4⟩
  · exact absurd z h
  · have := isq_zero_of h4 h3 h2
    exact ⟨by omega, h2⟩
theorem ratio_bd {T T' a a' : Nat} {f f' : Five} (C : Canon f) (C' : Canon f') (h : Bd T a f) (h' : Bd T' a' f') (z : f.2.2.1 ≠ 0) (z' : f'.2.2.1 ≠ 0) : Wd (a + a') (rt (ratio f f').1) ∧ Wd (a + a') (rt (ratio f f').2) := by
  obtain ⟨p1, p2⟩ := canon_pos C z
  obtain ⟨p3, p4⟩ := canon_pos C' z'
  have hp : 0 < f'.2.2.2.2 * f.2.2.2.1 := Int.mul_pos p4 p1
  have w1 : Wd (a + a' + (a + a')) (f'.2.2.2.1 * f.2.2.2.2) := (h'.x.mul h.y).mono (by omega)
  have w2 : Wd (a + a' + (a + a')) (f'.2.2.2.2 * f.2.2.2.1) := (h'.y.mul h.x).mono (by omega)
  exact ⟨Wd.rt2 (low1_nonneg (Int.mul_nonneg (Int.le_of_lt p3) (Int.le_of_lt p2)) hp) (w1.low1 hp), Wd.rt2 (Int.le_of_lt (low2_pos hp)) (w2.low2 hp)⟩
theorem roots_bd {T T' a a' M : Nat} {f f' : Five} (C : Canon f) (C' : Canon f') (h : Bd T a f) (h' : Bd T' a' f') (h1 : a ≤ M) (h2 : a' ≤ M) (h3 : 1 ≤ a) : RB (a + a') M (roots f f') := by
  have m1 := (canon_right C).m
  have m2 := (canon_right C').m
  unfold roots
  by_cases z : f.2.2.1 = 0
  · rw [if_pos z]
    exact ⟨h'.x.mono (by omega), h'.y.mono (by omega), wd_one.mono (by omega), wd_zero.mono (by omega), (Wd.one m2).mono (by omega)⟩
  · rw [if_neg z]
    by_cases z' : f'.2.2.1 = 0
    · rw [if_pos z']
      exact ⟨h.x.mono (by omega), h.y.mono (by omega), wd_one.mono (by omega), (Wd.one m1).mono (by omega), wd_zero.mono (by omega)⟩
    · rw [if_neg z']
      obtain ⟨r1, r2⟩ := ratio_bd C C' h h' z z'
      exact ⟨h.x.mono (by omega), h.y.mono (by omega), r2, ((Wd.one m1).mul r2).mono (by omega), ((Wd.one m2).mul r1).mono (by omega)⟩
theorem sgI_wd (n : Int) : Wd 1 (sgI n) := Wd.one (sgI_or n)
theorem fsum_bd {T T' a a' M : Nat} {f f' : Five} (C : Canon f) (C' : Canon f') (h : Bd T a f) (h' : Bd T' a' f') (h1 : a ≤ M) (h2 : a' ≤ M) (h3 : 1 ≤ a) : Bd (T + T' + 1) (a + a' + 2 + M) (fsum f f') := by
  have B := roots_bd C C' h h' h1 h2 h3
  have n := B.n.add B.n'
  exact ⟨(h.u.mul h'.l).add ((h'.u.mul h.l).mono (by omega)), (h.l.mul h'.l).mono (by omega), ((n.mul n).mul B.a).mono (by omega), ((B.d.mul B.d).mul B.b).mono (by omega)⟩
theorem fprod_bd {T T' a a' M : Nat} {f f' : Five} (C : Canon f) (C' : Canon f') (h : Bd T a f) (h' : Bd T' a' f') (h1 : a ≤ M) (h2 : a' ≤ M) (h3 : 1 ≤ a) :
    Bd (T + T' + (a + a') + (a + a') + (M + M) + 3) (T + T' + (a + a') + 2 + M) (fprod f f') := by
  have B := roots_bd C C' h h' h1 h2 h3
  have sq := (B.d.mul B.d).mul B.b
  have bt := h.l.mul h'.l
  have k1 : Wd (T + T' + (a + a') + (a + a') + (M + M) + 2) (f.1 * f'.1 * ((roots f f').2.2.1 * (roots f f').2.2.1 * (roots f f').2.1)) := ((h.u.mul h'.u).mul sq).mono (by omega)
  have k2 : Wd (T + T' + (a + a') + (a + a') + (M + M) + 2) ((roots f f').2.2.2.1 * (roots f f').2.2.2.2 * (roots f f').1 * (f.2.1 * f'.2.1)) := (((B.n.mul B.n').mul B.a).mul bt).mono (by omega)
  have k3 : Wd (T + T' + (a + a') + 1) (f.1 * f'.2.1 * (roots f f').2.2.2.2) := ((h.u.mul h'.l).mul B.n').mono (by omega)
  have k4 : Wd (T + T' + (a + a') + 1) (f'.1 * f.2.1 * (roots f f').2.2.2.1) := ((h'.u.mul h.l).mul B.n).mono (by omega)
  have n := k3.add k4
  have d := bt.mul B.d
  exact ⟨k1.add k2, (bt.mul sq).mono (by omega), ((n.mul n).mul B.a).mono (by omega), ((d.mul d).mul B.b).mono (by omega)⟩
end PH
namespace PH
open PySem PySem.Spec PyProof.Rows L2
abbrev sTimes : Stmt := inClass (topS 12) 6
section
variable {P : Program} {w : World} {K : PySem.W.Frag} {mg : Str → Option Value} {base : Heap} {C NX : Addr}
abbrev GOnR (P : Program) (w : World) (K : PySem.W.Frag) (mg : Str → Option Value) (base : Heap) (C f : Addr) (fd : FuncData) : Prop := FnOk P w K mg base CX0 3 f fd ["one", "other"] (spOnR C)
abbrev GWithR (P : Program) (w : World) (K : PySem.W.Frag) (mg : Str → Option Value) (base : Heap) (C f : Addr) (fd : FuncData) : Prop := FnOk P w K mg base CX0 5 f fd psW (spWithR C)
abbrev FOnR (K : PySem.W.Frag) (mg : Str → Option Value) (f : Addr) (fd : FuncData) : Prop := Fns K mg f fd "on_one_root" 15 ["one", "other"]
abbrev FWithR (K : PySem.W.Frag) (mg : Str → Option Value) (f : Addr) (fd : FuncData) : Prop := Fns K mg f fd "with_root" 16 psW
/-! ### plus -/
def spPlus (C : Addr) : Sp := fun vs H Q _ => ∃ (x y : Addr) (f f' : Five), vs = [.ref x, .ref y] ∧ NumAt C H x f ∧ NumAt C H y f' ∧ Canon f ∧ Canon f' ∧ Bd 2000 900 f ∧ Bd 2000 900 f' ∧ go f f' = true ∧ NewNum C H Q (form (fsum f f'))
abbrev nPlus : List Str := ["self", "other", "over", "under", "parts", "mine", "theirs", "top"]
theorem scPlus : FnScope nPlus ["self", "other"] (defScope sPlus) := ⟨rfl, rfl, rfl, by decide +kernel, rfl, by decide +kernel, by decide +kernel⟩
theorem roots_pos {f f' : Five} (C : Canon f) (C' : Canon f') (h : go f f' = true) : 0 ≤ (roots f f').1 ∧ 0 < (roots f f').2.1 ∧ 0 < (roots f f').2.2.1 := by
  have R := canon_right C
  have R' := canon_right C'
  unfold roots
  unfold go at h
  by_cases z : f.2.2.1 = 0
  · rw [if_pos z]
    exact ⟨R'.a, R'.b, by show (0 : Int) < 1; decide⟩
  · rw [if_neg z]
    by_cases z' : f'.2.2.1 = 0
    · rw [if_pos z']
      exact ⟨R.a, R.b, by show (0 : Int) < 1; decide⟩
    · rw [if_neg z']
      rw [decide_eq_false z, decide_eq_false z'] at h
      have h2 : both (ratio f f') = true := h
      unfold both at h2
      rw [Bool.and_eq_true] at h2
      obtain ⟨p1, p2⟩ := canon_pos C z
      obtain ⟨p3, p4⟩ := canon_pos C' z'
      exact ⟨R.a, R.b, rt_pos (low2_pos (Int.mul_pos p4 p1)) h2.2⟩
theorem ok_plus {f fO fW : Addr} {fd fdO fdW : FuncData} (F : Fun K "plus" "Exact.plus" sPlus f fd) (T : TEx K mg C) (GO : GOnR P w K mg base C fO fdO) (FO : FOnR K mg fO fdO) (GW : GWithR P w K mg base C fW fdW) (FW : FWithR K mg fW fdW) :
    FnOk P w K mg base CX0 6 f fd ["self", "other"] (spPlus C) := by
  refine F.ok scPlus ?_ ?_
  · rintro vs H Q E ⟨x, y, f, f', rfl, _⟩
    rfl
  intro cdv A outer s H vs Q E hr h
  obtain ⟨x, y, f, f', rfl, ⟨dx, hx⟩, ⟨dy, hy⟩, C1, C2, B1, B2, hgo, k⟩ := h
  refine ⟨_, pss_cons (ps_asg (pe_call GO (hr.mono (by decide)) rfl FO.m FO.F.kp FO.b .nil pass0 (pa_cons (pv 0) (pa_cons (pv 1) pa_nil)))
      (pg_tup rfl (pgs_cons (pg_name (i := 2) scPlus.nd rfl (Or.inl rfl)) (pgs_cons (pg_name (i := 3) scPlus.nd rfl (Or.inl rfl)) (pgs_cons (pg_name (i := 4) scPlus.nd rfl (Or.inl rfl)) (pgs_cons (pg_name (i := 5) scPlus.nd rfl (Or.inl rfl)) (pgs_cons (pg_name (i := 6) scPlus.nd rfl (Or.inl rfl)) pgs_nil)))))))
    (pss_cons (ps_set (i := 7) scPlus.nd rfl (Or.inl rfl) (pe_op op_add (pe_op op_mulX (pe_fld (pv 0) rfl) (pe_fld (pv 1) rfl)) (pe_op op_mulX (pe_fld (pv 1) rfl) (pe_fld (pv 0) rfl))))
    (pss_one (ps_ret (pe_call GW hr rfl FW.m FW.F.kp FW.b .nil pass0 (pa_cons (pv 7) (pa_cons (pe_op op_mulX (pe_fld (pv 0) rfl) (pe_fld (pv 1) rfl)) (pa_cons (pe_op op_add (pv 5) (pv 6)) (pa_cons (pv 4) (pa_cons (pv 2) (pa_cons (pv 3) pa_nil)))))))))), ?_⟩
  refine ⟨_, rfl, _, rfl, ?_⟩
  dsimp only [tNil]
  refine ⟨x, y, f, f', rfl, ⟨dx, hx⟩, ⟨dy, hy⟩, C1, C2, B1.wds (by decide) (by decide), B2.wds (by decide) (by decide), hgo, fun H' p s1 hp => ?_⟩
  refine ⟨p, _, rfl, SqT.of hp, rfl, _, _, rfl, _, _, rfl, _, _, rfl, _, _, rfl, _, _, rfl, rfl, ?_⟩
  have RB := roots_bd C1 C2 B1 B2 (Nat.le_refl 900) (Nat.le_refl 900) (by decide)
  have FB := fsum_bd C1 C2 B1 B2 (Nat.le_refl 900) (Nat.le_refl 900) (by decide)
  obtain ⟨q1, q2, q3⟩ := roots_pos C1 C2 hgo
  refine ⟨_, rfl, x, C, dx, _, _, rfl, s1 _ _ hx, T.cl, T.nT, (by rfl), _, rfl, y, C, dy, _, _, rfl, s1 _ _ hy, T.cl, T.nB, (by rfl), _, _, rfl, rfl, B1.u.toMul B2.l (by decide), ?_⟩
  refine ⟨_, rfl, y, C, dy, _, _, rfl, s1 _ _ hy, T.cl, T.nT, (by rfl), _, rfl, x, C, dx, _, _, rfl, s1 _ _ hx, T.cl, T.nB, (by rfl), _, _, rfl, rfl, B2.u.toMul B1.l (by decide), _, _, rfl, rfl, ?_⟩
  refine ⟨_, rfl, _, rfl, x, C, dx, _, _, rfl, s1 _ _ hx, T.cl, T.nB, (by rfl), _, rfl, y, C, dy, _, _, rfl, s1 _ _ hy, T.cl, T.nB, (by rfl), _, _, rfl, rfl, B1.l.toMul B2.l (by decide), ?_⟩
  refine ⟨_, rfl, _, rfl, _, _, rfl, rfl, _, rfl, _, rfl, _, rfl, ?_⟩
  dsimp only [tNil]
  refine ⟨_, _, _, _, _, _, rfl, parts_right (Int.mul_pos C1.l C2.l) q3 q1 q2, FB.wide (by decide) (by decide), (RB.n.add RB.n').mono (by decide), RB.d.mono (by decide), RB.a.mono (by decide), RB.b.mono (by decide), fun H2 z s2 nz hz => ?_⟩
  exact k H2 z (s1.trans s2) (s1.free nz) hz
end
end PH
namespace PH
open PySem PySem.Spec PyProof.Rows L2
abbrev sSgn : Stmt := inClass (topS 12) 8
section
variable {P : Program} {w : World} {K : PySem.W.Frag} {mg : Str → Option Value} {base : Heap} {C NX : Addr}
/-! ### times -/
/-- neither is too great to be multiplied -/
structure Fit (T T' a a' M : Nat) (f f' : Five) : Prop where
  b : Bd T a f
  b' : Bd T' a' f'
  a1 : 1 ≤ a
  am : a ≤ M
  am' : a' ≤ M
  t : T ≤ 2500
  t' : T' ≤ 2500
  m : M ≤ 1100
  l : T + T' + (a + a') + (a + a') + (M + M) + 3 ≤ 5200
  r : T + T' + (a + a') + 2 + M ≤ 3500
def spTimes (C : Addr) : Sp := fun vs H Q _ => ∃ (x y : Addr) (f f' : Five) (T T' a a' M : Nat), vs = [.ref x, .ref y] ∧ NumAt C H x f ∧ NumAt C H y f' ∧ Canon f ∧ Canon f' ∧ Fit T T' a a' M f f' ∧ go f f' = true ∧ NewNum C H Q (form (fprod f f'))
abbrev nTimes : List Str := ["self", "other", "over", "under", "parts", "mine", "theirs", "bottom", "square", "top", "many"]
theorem scTimes : FnScope nTimes ["self", "other"] (defScope sTimes) := ⟨rfl, rfl, rfl, by decide +kernel, rfl, by decide +kernel, by decide +kernel⟩
theorem ok_times {f fO fW : Addr} {fd fdO fdW : FuncData} (F : Fun K "times" "Exact.times" sTimes f fd) (T : TEx K mg C) (GO : GOnR P w K mg base C fO fdO) (FO : FOnR K mg fO fdO) (GW : GWithR P w K mg base C fW fdW) (FW : FWithR K mg fW fdW) :
    FnOk P w K mg base CX0 6 f fd ["self", "other"] (spTimes C) := by
  refine F.ok scTimes ?_ ?_
  · rintro vs H Q E ⟨x, y, f, f', T, T', a, a', M, rfl, _⟩
    rfl
  intro cdv A outer s H vs Q E hr h
  obtain ⟨x, y, f, f', Tf, T', a, a', M, rfl, ⟨dx, hx⟩, ⟨dy, hy⟩, C1, C2, FT, hgo, k⟩ := h
  refine ⟨_, pss_cons (ps_asg (pe_call GO (hr.mono (by decide)) rfl FO.m FO.F.kp FO.b .nil pass0 (pa_cons (pv 0) (pa_cons (pv 1) pa_nil)))
      (pg_tup rfl (pgs_cons (pg_name (i := 2) scTimes.nd rfl (Or.inl rfl)) (pgs_cons (pg_name (i := 3) scTimes.nd rfl (Or.inl rfl)) (pgs_cons (pg_name (i := 4) scTimes.nd rfl (Or.inl rfl)) (pgs_cons (pg_name (i := 5) scTimes.nd rfl (Or.inl rfl)) (pgs_cons (pg_name (i := 6) scTimes.nd rfl (Or.inl rfl)) pgs_nil)))))))
    (pss_cons (ps_set (i := 7) scTimes.nd rfl (Or.inl rfl) (pe_op op_mulX (pe_fld (pv 0) rfl) (pe_fld (pv 1) rfl)))
    (pss_cons (ps_set (i := 8) scTimes.nd rfl (Or.inl rfl) (pe_op op_mulX (pe_op op_mulX (pv 4) (pv 4)) (pv 3)))
    (pss_cons (ps_set (i := 9) scTimes.nd rfl (Or.inl rfl) (pe_op op_add (pe_op op_mulX (pe_op op_mulX (pe_fld (pv 0) rfl) (pe_fld (pv 1) rfl)) (pv 8)) (pe_op op_mulX (pe_op op_mulX (pe_op op_mulX (pv 5) (pv 6)) (pv 2)) (pv 7))))
    (pss_cons (ps_set (i := 10) scTimes.nd rfl (Or.inl rfl) (pe_op op_add (pe_op op_mulX (pe_op op_mulX (pe_fld (pv 0) rfl) (pe_fld (pv 1) rfl)) (pv 6)) (pe_op op_mulX (pe_op op_mulX (pe_fld (pv 1) rfl) (pe_fld (pv 0) rfl)) (pv 5))))
    (pss_one (ps_ret (pe_call GW hr rfl FW.m FW.F.kp FW.b .nil pass0 (pa_cons (pv 9) (pa_cons (pe_op op_mulX (pv 7) (pv 8)) (pa_cons (pv 10) (pa_cons (pe_op op_mulX (pv 7) (pv 4)) (pa_cons (pv 2) (pa_cons (pv 3) pa_nil))))))))))))), ?_⟩
  obtain ⟨B1, B2, a1, am, am', t1, t2, mm, bl, br⟩ := FT
  refine ⟨_, rfl, _, rfl, ?_⟩
  dsimp only [tNil]
  refine ⟨x, y, f, f', rfl, ⟨dx, hx⟩, ⟨dy, hy⟩, C1, C2, B1.wds t1 (Nat.le_trans am mm), B2.wds t2 (Nat.le_trans am' mm), hgo, fun H' p s1 hp => ?_⟩
  refine ⟨p, _, rfl, SqT.of hp, rfl, _, _, rfl, _, _, rfl, _, _, rfl, _, _, rfl, _, _, rfl, rfl, ?_⟩
  have RB := roots_bd C1 C2 B1 B2 am am' a1
  have FB := fprod_bd C1 C2 B1 B2 am am' a1
  obtain ⟨q1, q2, q3⟩ := roots_pos C1 C2 hgo
  have X := s1 _ _ hx
  have Y := s1 _ _ hy
  have bt := B1.l.mul B2.l
  have sq := (RB.d.mul RB.d).mul RB.b
  have n1 : Wd (Tf + T' + (a + a') + 1) (f.1 * f'.2.1 * (roots f f').2.2.2.2) := ((B1.u.mul B2.l).mul RB.n').mono (by omega)
  have n2 : Wd (Tf + T' + (a + a') + 1) (f'.1 * f.2.1 * (roots f f').2.2.2.1) := ((B2.u.mul B1.l).mul RB.n).mono (by omega)
  refine ⟨_, rfl, x, C, dx, _, _, rfl, X, T.cl, T.nB, (by rfl), _, rfl, y, C, dy, _, _, rfl, Y, T.cl, T.nB, (by rfl), _, _, rfl, rfl, B1.l.toMul B2.l (by omega), ?_⟩
  refine ⟨_, rfl, _, rfl, _, _, rfl, rfl, RB.d.toMul RB.d (by omega), _, rfl, _, _, rfl, rfl, (RB.d.mul RB.d).toMul RB.b (by omega), ?_⟩
  refine ⟨_, rfl, x, C, dx, _, _, rfl, X, T.cl, T.nT, (by rfl), _, rfl, y, C, dy, _, _, rfl, Y, T.cl, T.nT, (by rfl), _, _, rfl, rfl, B1.u.toMul B2.u (by omega), _, rfl, _, _, rfl, rfl, (B1.u.mul B2.u).toMul sq (by omega), ?_⟩
  refine ⟨_, rfl, _, rfl, _, _, rfl, rfl, RB.n.toMul RB.n' (by omega), _, rfl, _, _, rfl, rfl, (RB.n.mul RB.n').toMul RB.a (by omega), _, rfl, _, _, rfl, rfl, ((RB.n.mul RB.n').mul RB.a).toMul bt (by omega), _, _, rfl, rfl, ?_⟩
  refine ⟨_, rfl, x, C, dx, _, _, rfl, X, T.cl, T.nT, (by rfl), _, rfl, y, C, dy, _, _, rfl, Y, T.cl, T.nB, (by rfl), _, _, rfl, rfl, B1.u.toMul B2.l (by omega), _, rfl, _, _, rfl, rfl, (B1.u.mul B2.l).toMul RB.n' (by omega), ?_⟩
  refine ⟨_, rfl, y, C, dy, _, _, rfl, Y, T.cl, T.nT, (by rfl), _, rfl, x, C, dx, _, _, rfl, X, T.cl, T.nB, (by rfl), _, _, rfl, rfl, B2.u.toMul B1.l (by omega), _, rfl, _, _, rfl, rfl, (B2.u.mul B1.l).toMul RB.n (by omega), _, _, rfl, rfl, ?_⟩
  refine ⟨_, rfl, _, rfl, _, rfl, _, _, rfl, rfl, bt.toMul sq (by omega), _, rfl, _, rfl, _, rfl, _, _, rfl, rfl, bt.toMul RB.d (by omega), _, rfl, _, rfl, ?_⟩
  dsimp only [tNil]
  refine ⟨_, _, _, _, _, _, rfl, parts_right (Int.mul_pos (Int.mul_pos C1.l C2.l) (Int.mul_pos (Int.mul_pos q3 q3) q2)) (Int.mul_pos (Int.mul_pos C1.l C2.l) q3) q1 q2, FB.wide bl br, (n1.add n2).mono (by omega), (bt.mul RB.d).mono (by omega), RB.a.mono (by omega), RB.b.mono (by omega), fun H2 z s2 nz hz => ?_⟩
  exact k H2 z (s1.trans s2) (s1.free nz) hz
/-! ### sign_of -/
def sgnF (f : Five) : Int := if f.2.2.2.1 * (f.2.1 * f.2.1) < f.1 * f.1 * f.2.2.2.2 then sgI f.1 else f.2.2.1
def spSgn (C : Addr) : Sp := fun vs H Q _ => ∃ (x : Addr) (f : Five), vs = [.ref x] ∧ NumAt C H x f ∧ Wds 2500 f ∧ Q (.int (sgnF f)) H
theorem scSgn : FnScope ["self"] ["self"] (defScope sSgn) := ⟨rfl, rfl, rfl, by decide +kernel, rfl, by decide +kernel, by decide +kernel⟩
theorem ok_sgn {f fS : Addr} {fd fdS : FuncData} (F : Fun K "sign_of" "Exact.sign_of" sSgn f fd) (T : TEx K mg C) (FS : Fns K mg fS fdS "sign_of_whole" 8 ["number"]) : FnOk P w K mg base CX0 2 f fd ["self"] (spSgn C) := by
  have GS : FnOk P w K mg base CX0 1 fS fdS ["number"] spSign := ok_sign FS.F
  refine F.ok scSgn ?_ ?_
  · rintro vs H Q E ⟨x, f, rfl, _⟩
    rfl
  intro cdv A outer s H vs Q E hr h
  obtain ⟨x, f, rfl, ⟨dx, hx⟩, ⟨w1, w2, w3, w4⟩, k⟩ := h
  refine ⟨_, pss_cons (ps_if (pt_cmpR op_gt (pe_op op_mulX (pe_op op_sqW (pe_fld (pv 0) rfl) pe_int) (pe_fld (pv 0) rfl)) (pe_op op_mulX (pe_fld (pv 0) rfl) (pe_op op_sqW (pe_fld (pv 0) rfl) pe_int)) (nomark _)) (pss_one (ps_ret (pe_call GS hr rfl FS.m FS.F.kp FS.b .nil pass0 (pa_cons (pe_fld (pv 0) rfl) pa_nil)))) pss_nil)
    (pss_one (ps_ret (pe_fld (pv 0) rfl))), ?_⟩
  refine ⟨_, rfl, x, C, dx, _, _, rfl, hx, T.cl, T.nT, (by rfl), _, _, rfl, rfl, ⟨rfl, w1.mono (by decide)⟩, _, rfl, x, C, dx, _, _, rfl, hx, T.cl, T.nU, (by rfl), _, _, rfl, rfl, (w1.mul w1).toMul w4 (by decide), ?_⟩
  refine ⟨_, rfl, x, C, dx, _, _, rfl, hx, T.cl, T.nO, (by rfl), _, rfl, x, C, dx, _, _, rfl, hx, T.cl, T.nB, (by rfl), _, _, rfl, rfl, ⟨rfl, w2.mono (by decide)⟩, _, _, rfl, rfl, w3.toMul (w2.mul w2) (by decide), _, _, rfl, rfl, _, rfl, ?_⟩
  unfold sgnF at k
  by_cases z : f.2.2.2.1 * (f.2.1 * f.2.1) < f.1 * f.1 * f.2.2.2.2
  · rw [if_pos z] at k
    refine if_t (decide_eq_true z) ?_
    refine ⟨_, rfl, x, C, dx, _, _, rfl, hx, T.cl, T.nT, (by rfl), ?_⟩
    dsimp only [tNil]
    exact ⟨_, rfl, k⟩
  · rw [if_neg z] at k
    refine if_f (decide_eq_false z) ?_
    exact ⟨_, rfl, x, C, dx, _, _, rfl, hx, T.cl, T.nS, (by rfl), k⟩
theorem sgnF_zero {f : Five} (c : Canon f) : sgnF f = 0 ↔ f.1 = 0 ∧ f.2.2.1 = 0 := by
  have hl := c.l
  have R := canon_right c
  unfold sgnF
  by_cases z : f.2.2.2.1 * (f.2.1 * f.2.1) < f.1 * f.1 * f.2.2.2.2
  · rw [if_pos z]
    have n : f.1 ≠ 0 := fun e => by
      rw [e, Int.zero_mul, Int.zero_mul] at z
      have := Int.mul_nonneg R.a (Int.mul_nonneg (Int.le_of_lt hl) (Int.le_of_lt hl))
      omega
    unfold sgI
    split
    · omega
    · split <;> omega
  · rw [if_neg z]
    constructor
    · intro s0
      refine ⟨?_, s0⟩
      rcases c.m with ⟨_, a0, b1⟩ | ⟨h, _⟩
      · rw [a0, b1, Int.zero_mul, Int.mul_one] at z
        rcases Int.lt_trichotomy f.1 0 with h | h | h
        · have := Int.mul_pos_of_neg_of_neg h h; omega
        · exact h
        · have := Int.mul_pos h h; omega
      · omega
    · exact fun h => h.2
end
end PH
namespace PH
open PySem PySem.Spec PyProof.Rows L2
abbrev sMinus : Stmt := inClass (topS 12) 5
abbrev sBy : Stmt := inClass (topS 12) 7
section
variable {P : Program} {w : World} {K : PySem.W.Frag} {mg : Str → Option Value} {base : Heap} {C NX NB : Addr}
/-- a method of Exact -/
structure Mth (K : PySem.W.Frag) (C f : Addr) (fd : FuncData) (x qual : Str) (i : Nat) (ps : List Str) : Prop where
  F : Fun K x qual (inClass (topS 12) i) f fd
  b : Binds K fd ps []
  m : Meth K C x f
theorem go_about {f f' : Five} : go f (about f') = go f f' := by
  unfold go about ratio
  dsimp only
  congr 2
  exact decide_eq_decide.mpr ⟨fun h => by omega, fun h => by omega⟩
theorem Go.go {r q m q' m' : Rat} {f f' : Five} (G : Go r f f' q m q' m') : PH.go f f' = true := (roots_on G.N G.C G.C' G.h G.h').1
theorem go_neg {f f' : Five} : go f (neg f') = go f f' := go_about
/-- the same, by what holds behind -/
theorem init_right2 {H : Hp} {x dx : Addr} {f : Five} {q : Hp → Prop} {E : XK} (nx : H x = none) (ndx : H dx = none) (R : Right f) (W : Wide f) (k : ∀ H', Same H H' → NumAt C H' x (form f) → q H') :
    spInit C NX (.ref x :: fiveV f) (upd (upd H dx (.own x)) x (.ins C dx [])) (fun v H3 => v = .non ∧ q H3) E := by
  refine init_at (Q := fun _ H3 => q H3) nx ndx rfl ?_ ?_ fun f' e R' => ?_
  · intro v hv
    unfold fiveV at hv
    simp only [List.mem_cons, List.not_mem_nil, or_false] at hv
    rcases hv with rfl | rfl | rfl | rfl | rfl <;> exact .inl ⟨_, rfl⟩
  · intro e
    rw [B_of_right R] at e
    cases e
  · have : f = f' := by
      obtain ⟨u, l, s, a, b⟩ := f
      obtain ⟨u', l', s', a', b'⟩ := f'
      unfold fiveV at e
      simpa using e
    subst this
    exact ⟨W, fun H' s _ na => k H' s na⟩
/-! ### minus -/
def spMinus (C : Addr) : Sp := fun vs H Q _ => ∃ (x y : Addr) (f f' : Five), vs = [.ref x, .ref y] ∧ NumAt C H x f ∧ NumAt C H y f' ∧ Canon f ∧ Canon f' ∧ Bd 2000 900 f ∧ Bd 2000 900 f' ∧ go f f' = true ∧ NewNum C H Q (form (fsum f (neg f')))
theorem scMinus : FnScope ["self", "other", "less"] ["self", "other"] (defScope sMinus) := ⟨rfl, rfl, rfl, by decide +kernel, rfl, by decide +kernel, by decide +kernel⟩
theorem ok_minus {f fI fP : Addr} {fd fdI fdP : FuncData} (F : Fun K "minus" "Exact.minus" sMinus f fd) (T : TEx K mg C) (M : Mk K C fI) (FI : InitD K fI fdI) (GI : GInit P w K mg base C NX fI fdI)
    (GP : FnOk P w K mg base CX0 6 fP fdP ["self", "other"] (spPlus C)) (FP : Mth K C fP fdP "plus" "Exact.plus" 4 ["self", "other"]) : FnOk P w K mg base CX0 7 f fd ["self", "other"] (spMinus C) := by
  obtain ⟨its, mv, KB⟩ := kb_made FI
  refine F.ok scMinus ?_ ?_
  · rintro vs H Q E ⟨x, y, f, f', rfl, _⟩
    rfl
  intro cdv A outer s H vs Q E hr h
  obtain ⟨x, y, f, f', rfl, ⟨dx, hx⟩, ⟨dy, hy⟩, C1, C2, B1, B2, hgo, k⟩ := h
  refine ⟨_, pss_cons (ps_set (i := 2) scMinus.nd rfl (Or.inl rfl) (pe_makeN M GI (hr.mono (by decide)) rfl T.mgC KB passX0 (pa_cons (pe_un un_neg (pe_fld (pv 1) rfl)) (pa_cons (pe_fld (pv 1) rfl) pa_nil))
      (pk_cons (pe_un un_neg (pe_fld (pv 1) rfl)) (pk_cons (pe_fld (pv 1) rfl) (pk_cons (pe_fld (pv 1) rfl) pk_nil)))))
    (pss_one (ps_ret (pe_meth (pv 0) T.cl FP.m GP hr FP.b .nil pass0 (pa_cons (pv 2) pa_nil)))), ?_⟩
  have en : neg f' = (-f'.1, f'.2.1, -f'.2.2.1, f'.2.2.2.1, f'.2.2.2.2) := by unfold neg; rw [Int.zero_sub, Int.zero_sub]
  have Cn := canon_neg C2
  have Bn := B2.neg
  have fn := form_canon Cn
  refine ⟨_, rfl, y, C, dy, _, _, rfl, hy, T.cl, T.nT, (by rfl), _, rfl, _, rfl, y, C, dy, _, _, rfl, hy, T.cl, T.nB, (by rfl), ?_⟩
  refine ⟨_, rfl, y, C, dy, _, _, rfl, hy, T.cl, T.nS, (by rfl), _, rfl, _, rfl, y, C, dy, _, _, rfl, hy, T.cl, T.nO, (by rfl), _, rfl, y, C, dy, _, _, rfl, hy, T.cl, T.nU, (by rfl), rfl, rfl, fun z dz nz ndz _ => ?_⟩
  refine init_right2 (f := (-f'.1, f'.2.1, -f'.2.2.1, f'.2.2.2.1, f'.2.2.2.2)) nz ndz (by rw [← en]; exact canon_right Cn) (by rw [← en]; exact Bn.wide (by decide) (by decide)) ?_
  rw [← en, fn]
  intro H1 s1 hz
  refine ⟨_, rfl, x, dx, _, rfl, s1 _ _ hx, rfl, _, rfl, ?_⟩
  dsimp only [tNil]
  refine ⟨x, z, f, neg f', rfl, ⟨dx, s1 _ _ hx⟩, hz, C1, Cn, B1, Bn, (by rw [go_neg]; exact hgo), fun H2 v s2 nv hv => ?_⟩
  exact k H2 v (s1.trans s2) (s1.free nv) hv
end
end PH
namespace PH
open PySem PySem.Spec PyProof.Rows L2
open C8 (pss_cut tCut)
abbrev sLowest : Stmt := topS 22
abbrev sSqrt : Stmt := topS 23
abbrev sRoot : Stmt := topS 24
abbrev sForm : Stmt := topS 25
section
variable {P : Program} {w : World} {K : PySem.W.Frag} {mg : Str → Option Value} {base : Heap} {C NX : Addr}
/-! ### the law's own lowest terms -/
def spLowest : Sp := fun vs H Q _ => ∃ a b : Int, vs = [.int a, .int b] ∧ 0 < b ∧ Wd 8999 b ∧
  ∀ H' p, Same H H' → H p = none → H' p = some (.tup [.int (low a b).1, .int (low a b).2]) → Q (.ref p) H'
theorem scLowest : FnScope ["_law_upper", "_law_lower", "_law_one", "_law_theirs"] ["_law_upper", "_law_lower"] (defScope sLowest) := ⟨rfl, rfl, rfl, by decide +kernel, rfl, by decide +kernel, by decide +kernel⟩
theorem g_step {x y : Int} (hx : 0 ≤ x) (hy : 0 < y) : g y (x % y) = g x y := by
  unfold g
  have e : (x % y).natAbs = x.natAbs % y.natAbs := by
    have h1 : ((x.natAbs : Nat) : Int) = x := by omega
    have h2 : ((y.natAbs : Nat) : Int) = y := by omega
    have h3 := Int.emod_nonneg x (show y ≠ 0 by omega)
    have h4 : ((x.natAbs % y.natAbs : Nat) : Int) = x % y := by rw [Int.natCast_emod, h1, h2]
    omega
  rw [e, Nat.gcd_comm y.natAbs, ← Nat.gcd_rec, Nat.gcd_comm]
theorem g_abs (a b : Int) : g (if a < 0 then -a else a) (if b < 0 then -b else b) = g a b := by
  unfold g
  have f : ∀ x : Int, (if x < 0 then -x else x).natAbs = x.natAbs := by intro x; split <;> omega
  rw [f, f]
theorem g_zero {x : Int} (hx : 0 ≤ x) : g x 0 = x := by
  unfold g
  rw [Int.natAbs_zero, Nat.gcd_zero_right]
  omega
theorem ok_lowest {f : Addr} {fd : FuncData} (F : Fun K "_law_lowest" "_law_lowest" sLowest f fd) (mA : mg "abs" = none) (mI : mg "int" = none) :
    FnOk P w K mg base CX0 1 f fd ["_law_upper", "_law_lower"] spLowest := by
  refine F.ok scLowest ?_ ?_
  · rintro vs H Q E ⟨a, b, rfl, _⟩
    rfl
  intro cdv A outer s H vs Q E hr h
  obtain ⟨a, b, rfl, hb, hb2, k⟩ := h
  refine ⟨_, pss_cons (ps_par (i := 2) (j := 3) rfl scLowest.nd rfl rfl (by decide) rfl rfl (pa_cons (pe_callB call_abs (by rfl) mA (by decide +kernel) (pa_cons (pv 0) pa_nil)) (pa_cons (pe_callB call_abs (by rfl) mA (by decide +kernel) (pa_cons (pv 1) pa_nil)) pa_nil)) (by rfl))
    (pss_cons (ps_while PassesOwn.never (pt_cmpR op_gt (pv 3) pe_int (nomark _)) (pss_one (ps_par (i := 2) (j := 3) rfl scLowest.nd rfl rfl (by decide) rfl rfl (pa_cons (pv 3) (pa_cons (pe_op op_mod (pv 2) (pv 3)) pa_nil)) (by rfl))))
    (pss_cons (ps_set (i := 2) scLowest.nd rfl (Or.inl rfl) (pe_ix ix_list (pe_lst (pa_cons (pv 2) (pa_cons (pe_op op_sub pe_int (pv 2)) pa_nil))) (pe_callTy call_int1 (by rfl) mI (by decide +kernel) (pa_cons (pe_cmpR op_lt (pv 1) pe_int (nomark _)) pa_nil)) (fun _ _ => rfl)))
    (pss_one (ps_ret (pe_tup (pa_cons (pe_op op_fdivW (pv 0) (pv 2)) (pa_cons (pe_op op_fdivW (pv 1) (pv 2)) pa_nil))))))), ?_⟩
  refine ⟨_, rfl, _, rfl, _, rfl, _, rfl, _, _, rfl, ?_⟩
  refine while_by (fun σ H' => H' = H ∧ ∃ x y : Int, σ = [some (.int a), some (.int b), some (.int x), some (.int y)] ∧ 0 ≤ x ∧ 0 ≤ y ∧ g x y = g a b)
    (fun σ _ => match σ with | [_, _, _, some (.int y)] => y.toNat | _ => 0) ?_ ?_ ?_
  · exact ⟨rfl, _, _, rfl, by split <;> omega, by split <;> omega, g_abs a b⟩
  · rintro σ H' ⟨rfl, x, y, rfl, hx, hy, hg⟩
    refine ⟨_, rfl, y, 0, rfl, rfl, _, rfl, ?_⟩
    by_cases z : 0 < y
    · refine if_t (decide_eq_true z) ?_
      refine ⟨_, rfl, _, rfl, _, rfl, x, y, rfl, rfl, z, _, _, rfl, ?_⟩
      refine ⟨⟨rfl, y, x % y, rfl, hy, Int.emod_nonneg _ (by omega), by rw [g_step hx z, hg]⟩, ?_⟩
      have := Int.emod_lt_of_pos x z
      have := Int.emod_nonneg x (show y ≠ 0 by omega)
      show (x % y).toNat < y.toNat
      omega
    · refine if_f (decide_eq_false z) ?_
      have y0 : y = 0 := by omega
      subst y0
      rw [g_zero hx] at hg
      subst hg
      refine ⟨_, rfl, _, rfl, _, _, rfl, rfl, (by show 2 ≤ sizeLine; decide), fun q hq => ?_⟩
      refine ⟨_, rfl, _, _, rfl, rfl, .inr ⟨_, rfl, q, _, _, V.int (g a b), rfl, rfl, SqL.of upd_same, ?_, ?_⟩⟩
      · rw [decide_eq_false (show ¬ b < 0 by omega)]
        rfl
      have s1 := same_new (o := HO.lst [V.int (g a b), V.int (0 - g a b)]) hq
      refine ⟨_, rfl, _, rfl, a, g a b, rfl, rfl, div_ok hb hb2, _, rfl, _, rfl, b, g a b, rfl, rfl, div_ok hb hb2, (by show 2 ≤ sizeLine; decide), fun p hp => ?_⟩
      exact k _ p (s1.trans (same_new hp)) (s1.free hp) upd_same
  · rintro σ H' R R' hq ⟨v, e1, i, j, e2, e3, c, e4, q⟩
    exact ⟨v, e1, i, j, e2, e3, c, e4, hq _ _ q⟩
end
end PH
namespace PH
open PySem PySem.Spec PyProof.Rows L2
open C8 (pss_cut tCut)
section
variable {P : Program} {w : World} {K : PySem.W.Frag} {mg : Str → Option Value} {base : Heap} {C NX : Addr}
/-! ### the law's own root -/
def spSqrt : Sp := fun vs H Q _ => ∃ n : Int, vs = [.int n] ∧ 0 ≤ n ∧ Wd 7000 n ∧ ∀ H', Same H H' → Q (.int (rt n)) H'
theorem scSqrt : FnScope ["_law_number", "_law_bit", "_law_found"] ["_law_number"] (defScope sSqrt) := ⟨rfl, rfl, rfl, by decide +kernel, rfl, by decide +kernel, by decide +kernel⟩
theorem pow_half (k : Nat) : (2 : Int) ^ (k + 1) / 2 = 2 ^ k := by
  rw [Int.pow_succ]
  exact Int.mul_ediv_cancel _ (by decide)
theorem pow_pos2 (k : Nat) : (0 : Int) < 2 ^ k := Int.pow_pos (by decide)
theorem le_sq {x : Int} (h : 0 ≤ x) : x ≤ x * x ∨ x = 0 := by
  by_cases z : x = 0
  · exact .inr z
  · left
    have := Int.mul_le_mul_of_nonneg_left (show 1 ≤ x by omega) h
    omega
theorem wd_two {n b : Int} (h : 0 ≤ n) (w : Wd 7000 n) (h0 : 0 ≤ b) (hb : b ≤ 2 * n + 1) : Wd 7002 b := by
  have w2 : Wd 7002 (n + n + 1) := (((w.add w).add ((Wd.one (.inr (.inr rfl))).mono (by decide)))).mono (by decide)
  exact w2.le h0 (by omega)
theorem wd_lit2 : Wd 2 2 := by unfold Wd; decide
theorem ok_sqrt {f : Addr} {fd : FuncData} (F : Fun K "_law_square_root" "_law_square_root" sSqrt f fd) :
    FnOk P w K mg base CX0 1 f fd ["_law_number"] spSqrt := by
  refine F.ok scSqrt ?_ ?_
  · rintro vs H Q E ⟨n, rfl, _⟩
    rfl
  intro cdv A outer s H vs Q E hr h
  obtain ⟨n, rfl, hn, hn2, k⟩ := h
  refine ⟨_, pss_cons (ps_asg (pe_tup (pa_cons pe_int (pa_cons pe_int pa_nil))) (pg_tup rfl (pgs_cons (pg_name (i := 1) scSqrt.nd rfl (Or.inl rfl)) (pgs_cons (pg_name (i := 2) scSqrt.nd rfl (Or.inl rfl)) pgs_nil))))
    (pss_cons (ps_while PassesOwn.never (pt_cmpR op_le (pe_op op_mulX (pv 1) (pv 1)) (pv 0) (nomark _)) (pss_one (ps_set (i := 1) scSqrt.nd rfl (Or.inl rfl) (pe_op op_mulX (pv 1) pe_int))))
    (pss_cons (ps_while PassesOwn.never (pt_cmpR op_gt (pv 1) pe_int (nomark _)) (pss_cut (ps_if (pt_cmpR op_le (pe_op op_mulX (pe_op op_add (pv 2) (pv 1)) (pe_op op_add (pv 2) (pv 1))) (pv 0) (nomark _)) (pss_one (ps_set (i := 2) scSqrt.nd rfl (Or.inl rfl) (pe_op op_add (pv 2) (pv 1)))) pss_nil)
      (pss_one (ps_set (i := 1) scSqrt.nd rfl (Or.inl rfl) (pe_op op_fdiv (pv 1) pe_int)))))
    (pss_one (ps_ret (pv 2))))), ?_⟩
  refine ⟨(by show 2 ≤ sizeLine; decide), fun q hq => ⟨q, _, rfl, SqT.of upd_same, rfl, _, _, rfl, _, _, rfl, rfl, ?_⟩⟩
  have sq := same_new (o := HO.tup [V.int 1, V.int 0]) hq
  refine while_by (fun σ H' => Same H H' ∧ ∃ (b : Int) (j : Nat), σ = [some (.int n), some (.int b), some (.int 0)] ∧ b = 2 ^ j ∧ b ≤ 2 * n + 1)
    (fun σ _ => match σ with | [_, some (.int b), _] => (n + 1 - b).toNat | _ => 0) ?_ ?_ ?_
  · exact ⟨sq, 1, 0, rfl, rfl, by omega⟩
  · rintro σ H' ⟨s1, b, j, rfl, hb, hb2⟩
    have hp := pow_pos2 j
    rw [← hb] at hp
    have wb := wd_two hn hn2 (Int.le_of_lt hp) hb2
    refine ⟨_, rfl, _, rfl, b, b, rfl, rfl, wb.toMul wb (by decide), _, rfl, _, _, rfl, rfl, _, rfl, ?_⟩
    by_cases z : b * b ≤ n
    · refine if_t (decide_eq_true z) ?_
      have hbn : b ≤ n := by
        rcases le_sq (Int.le_of_lt hp) with h | h <;> omega
      refine ⟨_, rfl, b, 2, rfl, rfl, wb.toMul wd_lit2 (by decide), ⟨s1, b * 2, j + 1, rfl, by rw [Int.pow_succ, hb], by omega⟩, ?_⟩
      show (n + 1 - b * 2).toNat < (n + 1 - b).toNat
      omega
    · refine if_f (decide_eq_false z) ?_
      refine while_by (fun σ H' => Same H H' ∧ ∃ (b r : Int), σ = [some (.int n), some (.int b), some (.int r)] ∧ 0 ≤ r ∧ r ≤ n ∧ r * r ≤ n ∧ b ≤ 2 * n + 1 ∧ ((∃ j : Nat, b = 2 ^ j ∧ n < (r + 2 * b) * (r + 2 * b)) ∨ (b = 0 ∧ n < (r + 1) * (r + 1))))
        (fun σ _ => match σ with | [_, some (.int b), _] => b.toNat | _ => 0) ?_ ?_ ?_
      · refine ⟨s1, b, 0, rfl, by omega, by omega, by omega, hb2, .inl ⟨j, hb, ?_⟩⟩
        have h4 : (0 + 2 * b) * (0 + 2 * b) = 4 * (b * b) := by
          rw [Int.zero_add, Int.mul_assoc, Int.mul_left_comm b 2 b, ← Int.mul_assoc]
          rfl
        have := Int.mul_pos hp hp
        omega
      · rintro σ H' ⟨s1, b, r, rfl, hr0, hrn, hrr, hb2, hcase⟩
        refine ⟨_, rfl, b, 0, rfl, rfl, _, rfl, ?_⟩
        rcases hcase with ⟨j, hb, hlt⟩ | ⟨rfl, hlt⟩
        · have hp := pow_pos2 j
          rw [← hb] at hp
          have wb := wd_two hn hn2 (Int.le_of_lt hp) hb2
          have wrb := ((hn2.le hr0 hrn).mono (by decide : 7000 ≤ 7002)).add wb
          refine if_t (decide_eq_true hp) ?_
          refine ⟨fun σ' H'' => H'' = H' ∧ ∃ r' : Int, σ' = [some (.int n), some (.int b), some (.int r')] ∧ 0 ≤ r' ∧ r' ≤ n ∧ r' * r' ≤ n ∧ n < (r' + b) * (r' + b), ?_, ?_⟩
          · refine ⟨_, rfl, _, rfl, r, b, rfl, rfl, _, rfl, _, rfl, r, b, rfl, rfl, _, _, rfl, rfl, wrb.toMul wrb (by decide), _, rfl, _, _, rfl, rfl, _, rfl, ?_⟩
            by_cases c : (r + b) * (r + b) ≤ n
            · refine if_t (decide_eq_true c) ?_
              refine ⟨_, rfl, _, rfl, r, b, rfl, rfl, rfl, r + b, rfl, by omega, ?_, c, ?_⟩
              · rcases le_sq (show 0 ≤ r + b by omega) with h | h <;> omega
              · have e : r + b + b = r + 2 * b := by omega
                rw [e]
                exact hlt
            · refine if_f (decide_eq_false c) ?_
              exact ⟨rfl, r, rfl, hr0, hrn, hrr, by omega⟩
          · rintro σ' H'' ⟨rfl, r', rfl, h1, h2, h3, h4⟩
            refine ⟨_, rfl, b, 2, rfl, rfl, ⟨by decide, by decide⟩, ⟨s1, b / 2, r', rfl, h1, h2, h3, by omega, ?_⟩, ?_⟩
            · cases j with
              | zero =>
                have b1 : b = 1 := hb
                subst b1
                exact .inr ⟨by decide, h4⟩
              | succ j =>
                refine .inl ⟨j, by rw [hb, pow_half], ?_⟩
                have e : 2 * (b / 2) = b := by
                  rw [hb, pow_half, Int.pow_succ, Int.mul_comm]
                rw [e]
                exact h4
            · show (b / 2).toNat < b.toNat
              omega
        · refine if_f (by decide) ?_
          refine ⟨_, rfl, ?_⟩
          have e := rt_uniq hr0 hrr hlt
          have z := k H' s1
          rw [e] at z
          exact z
      · rintro σ H' R R' hq ⟨v, e1, i, j, e2, e3, c, e4, q⟩
        exact ⟨v, e1, i, j, e2, e3, c, e4, hq _ _ q⟩
  · rintro σ H' R R' hq ⟨v1, e1, v2, e2, i, j, e3, e4, c, v3, e5, i2, j2, e6, e7, c2, e8, q⟩
    exact ⟨v1, e1, v2, e2, i, j, e3, e4, c, v3, e5, i2, j2, e6, e7, c2, e8, hq _ _ q⟩
end
end PH
namespace PH
open PySem PySem.Spec PyProof.Rows L2
open C8 (pss_cut tCut)
section
variable {P : Program} {w : World} {K : PySem.W.Frag} {mg : Str → Option Value} {base : Heap} {C NX : Addr}
def spRoot : Sp := fun vs H Q _ => ∃ (p : Addr) (a b : Int), vs = [.ref p] ∧ H p = some (.tup [.int a, .int b]) ∧ 0 ≤ a ∧ Wd 7000 a ∧ 0 ≤ b ∧ Wd 7000 b ∧
  (both (a, b) = true → ∀ H' q, Same H H' → H' q = some (.tup [.int (rt a), .int (rt b)]) → Q (.ref q) H') ∧ (both (a, b) = false → ∀ H', Same H H' → Q .non H')
abbrev nRoot : List Str := ["_law_pair", "_law_one", "_law_theirs", "_law_number"]
theorem scRoot : FnScope nRoot ["_law_pair"] (defScope sRoot) := ⟨rfl, rfl, rfl, by decide +kernel, rfl, by decide +kernel, by decide +kernel⟩
theorem dp_pair {H : Hp} {p : Addr} {a b : Int} (h : H p = some (.tup [.int a, .int b])) : Dp K H (.ref p) (.tuple [.int a, .int b]) :=
  .tup (SqT.of h) (.cons (.int a) (.cons (.int b) .nil))
theorem ok_root {f fS : Addr} {fd fdS : FuncData} (F : Fun K "_law_root" "_law_root" sRoot f fd)
    (FS : Fns K mg fS fdS "_law_square_root" 23 ["_law_number"]) : FnOk P w K mg base CX0 2 f fd ["_law_pair"] spRoot := by
  have GS : FnOk P w K mg base CX0 1 fS fdS ["_law_number"] spSqrt := ok_sqrt FS.F
  refine F.ok scRoot ?_ ?_
  · rintro vs H Q E ⟨p, a, b, rfl, _⟩
    rfl
  intro cdv A outer s H vs Q E hr h
  obtain ⟨p, a, b, rfl, hp, ha, ha2, hb, hb2, k1, k2⟩ := h
  refine ⟨_, pss_cons (ps_asg (pe_lc (own := [("_law_number", 3)]) (g := gName 3) (tt := tYes) rfl scRoot.nd (pi_tup (pv 0))
        (blkOk_by (own := [("_law_number", 3)]) (N := nRoot) (sc := defScope sRoot) (by decide +kernel)) (fun _ _ _ _ _ => pg_name (i := 3) scRoot.nd rfl (Or.inl rfl)) (fun _ _ _ _ _ => pts_nil)
        (fun _ _ _ _ _ => pe_call GS hr rfl FS.m FS.F.kp FS.b .nil pass0 (pa_cons (pv 3) pa_nil))) (pg_unl rfl (pgs_cons (pg_name (i := 1) scRoot.nd rfl (Or.inl rfl)) (pgs_cons (pg_name (i := 2) scRoot.nd rfl (Or.inl rfl)) pgs_nil))))
    (pss_one (ps_ret (pe_ifExp (pt_cmpR (op_eqD hr.units) (pe_tup (pa_cons (pe_op op_mulX (pv 1) (pv 1)) (pa_cons (pe_op op_mulX (pv 2) (pv 2)) pa_nil))) (pv 0) (nomark _)) (pe_tup (pa_cons (pv 1) (pa_cons (pv 2) pa_nil))) pe_non))), ?_⟩
  refine ⟨_, rfl, p, rfl, ⟨_, SqT.of hp⟩, fun D hD => ?_⟩
  refine lc_tup (K := K) (a := p) (xs := [.int a, .int b]) (fun i H' => Same H H' ∧ H' D = some (.lst (([a, b].take i).map fun n => V.int (rt n))))
    ⟨same_new hD, upd_same⟩ (fun i H' _ ⟨h, _⟩ => SqT.of (h _ _ hp)) ?_ ?_
  · rintro i x H' hx ⟨s1, hd⟩
    obtain ⟨n, hn, rfl, hn0, hn1⟩ : ∃ n, [a, b][i]? = some n ∧ x = V.int n ∧ 0 ≤ n ∧ Wd 7000 n := by
      match i, hx with
      | 0, hx => cases hx; exact ⟨a, rfl, rfl, ha, ha2⟩
      | 1, hx => cases hx; exact ⟨b, rfl, rfl, hb, hb2⟩
    refine ⟨rfl, yes_if ?_⟩
    refine ⟨_, rfl, ?_⟩
    dsimp only [tNil]
    refine ⟨n, rfl, hn0, hn1, fun H2 s2 => ⟨_, s2 _ _ hd, ?_, same_at (s1.trans s2) hD, ?_⟩⟩
    · rw [List.length_map, List.length_take]
      exact Nat.lt_of_le_of_lt (Nat.min_le_right _ _) (by show 2 < sizeLine; decide)
    · rw [upd_same, take_more hn, List.map_append]
      rfl
  · rintro H' ⟨s1, hd⟩
    refine ⟨D, [.int (rt a), .int (rt b)], rfl, SqL.of hd, rfl, _, _, rfl, _, _, rfl, rfl, ?_⟩
    have hra := Wd.rt ha ha2
    have hrb := Wd.rt hb hb2
    refine ⟨_, rfl, _, rfl, _, _, rfl, rfl, hra.toMul hra (by decide), _, rfl, _, rfl, _, _, rfl, rfl, hrb.toMul hrb (by decide), (by show 2 ≤ sizeLine; decide), fun q hq => ?_⟩
    have s2 := same_new (o := HO.tup [V.int (rt a * rt a), V.int (rt b * rt b)]) hq
    refine ⟨_, rfl, _, _, dp_pair upd_same, dp_pair (s2 _ _ (s1 _ _ hp)), rfl, rfl, _, rfl, ?_⟩
    have e : PyData.eqv (.tuple [.int (rt a * rt a), .int (rt b * rt b)]) (.tuple [.int a, .int b]) = both (a, b) := by
      simp only [PyData.eqv, PyData.eqvAll, Bool.and_true]
      rfl
    cases c : both (a, b) with
    | false => exact if_f (e.trans c) (k2 c _ (s1.trans s2))
    | true =>
      refine if_t (e.trans c) ?_
      refine ⟨_, rfl, _, rfl, (by show 2 ≤ sizeLine; decide), fun q2 hq2 => ?_⟩
      exact k1 c _ q2 ((s1.trans s2).trans (same_new hq2)) upd_same
/-! ### the law's own form -/
def spForm : Sp := fun vs H Q _ => ∃ f : Five, vs = fiveV f ∧ Right f ∧ Wide f ∧ ∀ H' q, Same H H' → H' q = some (.tup (fiveV (form f))) → Q (.ref q) H'
theorem scForm : FnScope ["_law_upper", "_law_lower", "_law_mark", "_law_aloft", "_law_beneath", "_law_radix", "_law_root_here"] ["_law_upper", "_law_lower", "_law_mark", "_law_aloft", "_law_beneath"] (defScope sForm) :=
  ⟨rfl, rfl, rfl, by decide +kernel, rfl, by decide +kernel, by decide +kernel⟩
theorem ok_form {f fL fR : Addr} {fd fdL fdR : FuncData} (F : Fun K "_law_form" "_law_form" sForm f fd)
    (GL : FnOk P w K mg base CX0 1 fL fdL ["_law_upper", "_law_lower"] spLowest) (FL : Fns K mg fL fdL "_law_lowest" 22 ["_law_upper", "_law_lower"])
    (GR : FnOk P w K mg base CX0 2 fR fdR ["_law_pair"] spRoot) (FR : Fns K mg fR fdR "_law_root" 24 ["_law_pair"]) :
    FnOk P w K mg base CX0 3 f fd ["_law_upper", "_law_lower", "_law_mark", "_law_aloft", "_law_beneath"] spForm := by
  refine F.ok scForm ?_ ?_
  · rintro vs H Q E ⟨f, rfl, _⟩
    rfl
  intro cdv A outer s H vs Q E hr h
  have hr1 : Room 1 _ := hr.mono (by decide)
  obtain ⟨⟨u, l, m, a, b⟩, rfl, ⟨hl0, hm0, ha0, hb0⟩, ⟨fu, fl, fa, fb⟩, k⟩ := h
  dsimp only at hl0 hm0 ha0 hb0 fu fl fa fb
  refine ⟨_, pss_cons (ps_set (i := 5) scForm.nd rfl (Or.inl rfl) (pe_call GL hr1 rfl FL.m FL.F.kp FL.b .nil pass0 (pa_cons (pv 3) (pa_cons (pv 4) pa_nil))))
    (pss_cons (ps_set (i := 6) scForm.nd rfl (Or.inl rfl) (pe_call GR hr rfl FR.m FR.F.kp FR.b .nil pass0 (pa_cons (pv 5) pa_nil)))
    (pss_cut (ps_if (pt_cmpR op_notN (pv 6) pe_non (nomark _))
      (pss_cons (ps_set (i := 0) scForm.nd rfl (Or.inl rfl) (pe_op op_add (pe_op op_mulX (pv 0) (pe_ix ix_tup (pv 6) pe_int (fun _ _ => rfl))) (pe_op op_mulX (pe_op op_mulX (pv 2) (pe_ix ix_tup (pv 6) pe_int (fun _ _ => rfl))) (pv 1))))
      (pss_one (ps_par (i := 1) (j := 2) rfl scForm.nd rfl rfl (by decide) rfl rfl (pa_cons (pe_op op_mulX (pv 1) (pe_ix ix_tup (pv 6) pe_int (fun _ _ => rfl))) (pa_cons pe_int pa_nil)) (by rfl)))) pss_nil)
    (pss_cut (ps_if (pt_cmpR op_eq (pv 2) pe_int (nomark _)) (pss_one (ps_set (i := 5) scForm.nd rfl (Or.inl rfl) (pe_tup (pa_cons pe_int (pa_cons pe_int pa_nil))))) pss_nil)
    (pss_one (ps_ret (pe_op op_catT (pe_op op_catT (pe_call GL hr1 rfl FL.m FL.F.kp FL.b .nil pass0 (pa_cons (pv 0) (pa_cons (pv 1) pa_nil))) (pe_tup (pa_cons (pv 2) pa_nil))) (pv 5))))))), ?_⟩
  -- radix = lowest(..)
  refine ⟨_, rfl, _, rfl, ?_⟩
  dsimp only [tNil]
  refine ⟨a, b, rfl, hb0, fb.mono (by decide), fun H1 p s1 _ h1 => ?_⟩
  have n1 := low1_nonneg ha0 hb0
  have n2 := low2_pos (a := a) hb0
  have wa2 := fa.low1 hb0
  have wb2 := fb.low2 (a := a) hb0
  have wa2r := Wd.rt2 (k := 3500) n1 wa2
  have wb2r := Wd.rt2 (k := 3500) (Int.le_of_lt n2) wb2
  have fin : ∀ (H3 : Hp) (t d x : Int) (v6 : V), Same H1 H3 → 0 < d → Wd 8999 d →
      form (u, l, m, a, b) = (if x = 0 then ((low t d).1, (low t d).2, 0, 0, 1) else ((low t d).1, (low t d).2, x, (low a b).1, (low a b).2)) →
      (fun σ' H' => ∃ (t d x : Int) (v6 : V), σ' = [some (.int t), some (.int d), some (.int x), some (.int a), some (.int b), some (.ref p), some v6] ∧ Same H1 H' ∧ 0 < d ∧ Wd 8999 d ∧
        form (u, l, m, a, b) = (if x = 0 then ((low t d).1, (low t d).2, 0, 0, 1) else ((low t d).1, (low t d).2, x, (low a b).1, (low a b).2)))
        [some (.int t), some (.int d), some (.int x), some (.int a), some (.int b), some (.ref p), some v6] H3 :=
    fun H3 t d x v6 s3 hd hd2 hf => ⟨t, d, x, v6, rfl, s3, hd, hd2, hf⟩
  -- root_here = root(radix); the sketch of what comes of it
  refine ⟨_, rfl, ?_⟩
  dsimp only [tNil]
  refine ⟨p, (low a b).1, (low a b).2, rfl, h1, n1, wa2, Int.le_of_lt n2, wb2, fun bb H2 q s2 h2 => ?_, fun nb H2 s2 => ?_⟩
  all_goals refine ⟨fun σ' H' => ∃ (t d x : Int) (v6 : V), σ' = [some (.int t), some (.int d), some (.int x), some (.int a), some (.int b), some (.ref p), some v6] ∧ Same H1 H' ∧ 0 < d ∧ Wd 8999 d ∧
        form (u, l, m, a, b) = (if x = 0 then ((low t d).1, (low t d).2, 0, 0, 1) else ((low t d).1, (low t d).2, x, (low a b).1, (low a b).2)), ?_, ?_⟩
  rotate_left 1
  rotate_left 1
  · refine ⟨_, rfl, rfl, _, rfl, ?_⟩
    refine if_f (by rfl) ?_
    refine fin H2 u l m .non s2 hl0 (fl.mono (by decide)) ?_
    unfold form
    dsimp only
    rw [if_neg (by rw [show both (low a b) = false from nb]; exact Bool.false_ne_true)]
  rotate_left 1
  · refine ⟨_, rfl, rfl, _, rfl, ?_⟩
    refine if_t (by rfl) ?_
    have e1 : isq (low a b).1 = true := by unfold both at bb; rw [Bool.and_eq_true] at bb; exact bb.1
    have e2 : isq (low a b).2 = true := by unfold both at bb; rw [Bool.and_eq_true] at bb; exact bb.2
    have hd0 : 0 < l * rt (low a b).2 := Int.mul_pos hl0 (rt_pos n2 e2)
    refine ⟨_, rfl, _, rfl, q, _, 1, _, rfl, rfl, SqT.of h2, rfl, _, _, rfl, rfl, fu.toMul wb2r (by decide), ?_⟩
    refine ⟨_, rfl, _, rfl, q, _, 0, _, rfl, rfl, SqT.of h2, rfl, _, _, rfl, rfl, (Wd.one hm0).toMul wa2r (by decide), _, rfl, _, _, rfl, rfl, ((Wd.one hm0).mul wa2r).toMul fl (by decide), _, _, rfl, rfl, ?_⟩
    refine ⟨_, rfl, _, rfl, q, _, 1, _, rfl, rfl, SqT.of h2, rfl, _, _, rfl, rfl, fl.toMul wb2r (by decide), _, _, rfl, ?_⟩
    refine fin H2 (u * rt (low a b).2 + m * rt (low a b).1 * l) (l * rt (low a b).2) 0 (.ref q) s2 hd0 ((fl.mul wb2r).mono (by decide)) ?_
    unfold form
    dsimp only
    rw [if_pos (show both (low a b) = true from bb), if_pos rfl]
  all_goals
    rintro σ3 H3 ⟨t, d, x, v6, rfl, s3, hd, hd2, hf⟩
    refine ⟨fun σ' H' => ∃ (r : Addr) (a2 b2 : Int), σ' = [some (.int t), some (.int d), some (.int x), some (.int a), some (.int b), some (.ref r), some v6] ∧ Same H1 H' ∧ H' r = some (.tup [.int a2, .int b2]) ∧
      form (u, l, m, a, b) = ((low t d).1, (low t d).2, x, a2, b2), ?_, ?_⟩
    · refine ⟨_, rfl, rfl, _, rfl, ?_⟩
      by_cases z : x = 0
      · refine if_t (by show decide (V.int x = V.int 0) = true; rw [dec_int]; exact decide_eq_true z) ?_
        refine ⟨(by show 2 ≤ sizeLine; decide), fun r hr => ⟨r, 0, 1, rfl, s3.trans (same_new hr), upd_same, ?_⟩⟩
        rw [hf, if_pos z, z]
      · refine if_f (by show decide (V.int x = V.int 0) = false; rw [dec_int]; exact decide_eq_false z) ?_
        refine ⟨p, _, _, rfl, s3, s3 _ _ h1, ?_⟩
        rw [hf, if_neg z]
    · rintro σ4 H4 ⟨r, a2, b2, rfl, s4, hr4, hf4⟩
      refine ⟨_, rfl, _, rfl, ?_⟩
      dsimp only [tNil]
      refine ⟨t, d, rfl, hd, hd2, fun H5 q5 s5 _ h5 => ?_⟩
      refine ⟨_, rfl, (by show 1 ≤ sizeLine; decide), fun q6 hq6 => ?_⟩
      have s6 := same_new (o := HO.tup [V.int x]) hq6
      refine ⟨q5, q6, _, _, rfl, rfl, SqT.of (s6 _ _ h5), SqT.of upd_same, (by simp), (by show 3 ≤ sizeLine; decide), (fun z => by cases z), fun _ q7 hq7 => ?_⟩
      have s7 := same_new (o := HO.tup [V.int (low t d).1, V.int (low t d).2, V.int x]) hq7
      refine ⟨_, rfl, q7, r, _, _, rfl, rfl, SqT.of upd_same, SqT.of (s7 _ _ (s6 _ _ (s5 _ _ hr4))), (by simp), (by show 5 ≤ sizeLine; decide), (fun z => by cases z), fun _ q8 hq8 => ?_⟩
      refine k _ q8 (((((s1.trans s4).trans s5).trans s6).trans s7).trans (same_new hq8)) ?_
      rw [hf4]
      exact upd_same
end
end PH
namespace PH
open PySem PySem.Spec PyProof.Rows L2
open C8 (pss_cut tCut)
abbrev sDeck : Stmt := topS 20
abbrev sDraw : Stmt := topS 21
/-- the deck: its list at d, the cells' list at c -/
def Deck (H : Hp) (d c : Addr) : Prop := ∃ (ms : List Int) (n1 n2 : Int), H d = some (.lst [.ref c, .int n1, .int n2]) ∧ H c = some (.lst (ms.map V.int)) ∧ d ≠ c ∧ ms.length ≤ 100 ∧ 0 ≤ n1 ∧ n1 < 2 ^ 40
/-- all but the deck is as it was -/
def Kept (d c : Addr) (H H' : Hp) : Prop := ∀ b o, H b = some o → b ≠ d → b ≠ c → H' b = some o
theorem Kept.refl {d c : Addr} {H : Hp} : Kept d c H H := fun _ _ e _ _ => e
theorem Kept.trans {d c : Addr} {H H1 H2 : Hp} (a : Kept d c H H1) (b : Kept d c H1 H2) : Kept d c H H2 := fun x o e h1 h2 => b x o (a x o e h1 h2) h1 h2
theorem Kept.of {d c : Addr} {H H' : Hp} (s : Same H H') : Kept d c H H' := fun b o e _ _ => s b o e
theorem Deck.same {d c : Addr} {H H' : Hp} (s : Same H H') (D : Deck H d c) : Deck H' d c := by
  obtain ⟨ms, n1, n2, h1, h2, h3, h4, h5, h6⟩ := D
  exact ⟨ms, n1, n2, s _ _ h1, s _ _ h2, h3, h4, h5, h6⟩
theorem Kept.upd_d {d c : Addr} {H H' : Hp} {o : HO} (k : Kept d c H H') : Kept d c H (upd H' d o) := fun b u e h1 h2 => by rw [upd_ne h1]; exact k b u e h1 h2
theorem Kept.upd_c {d c : Addr} {H H' : Hp} {o : HO} (k : Kept d c H H') : Kept d c H (upd H' c o) := fun b u e h1 h2 => by rw [upd_ne h2]; exact k b u e h1 h2
section
variable {P : Program} {w : World} {K : PySem.W.Frag} {mg : Str → Option Value} {base : Heap} {C NX : Addr}
def spDeck (K : PySem.W.Frag) : Sp := fun vs H Q _ => ∃ (a : Addr) (ns : List Int), vs = [.ref a] ∧ SqL K H a (ns.map V.int) ∧ ns.length ≤ 63 ∧ ∀ H' d c, Same H H' → H d = none → H c = none → Deck H' d c → Q (.ref d) H'
theorem scDeck : FnScope ["_law_script", "_law_cells"] ["_law_script"] (defScope sDeck) := ⟨rfl, rfl, rfl, by decide +kernel, rfl, by decide +kernel, by decide +kernel⟩
theorem cut_map (ns : List Int) (lo hi : Option Int) : ∃ ms : List Int, cutV (ns.map V.int) lo hi = ms.map V.int ∧ ms.length ≤ ns.length := by
  unfold cutV
  rw [← List.map_drop, ← List.map_take]
  refine ⟨_, rfl, ?_⟩
  rw [List.length_take, List.length_drop]
  omega
theorem ok_deck {f : Addr} {fd : FuncData} (F : Fun K "_law_deck" "_law_deck" sDeck f fd) (mL : mg "list" = none) (mS : mg "sum" = none) :
    FnOk P w K mg base CX0 1 f fd ["_law_script"] (spDeck K) := by
  refine F.ok scDeck ?_ ?_
  · rintro vs H Q E ⟨a, ns, rfl, _⟩
    rfl
  intro cdv A outer s H vs Q E hr h
  obtain ⟨a, ns, rfl, hs, hlen, k⟩ := h
  refine ⟨_, pss_cons (ps_set (i := 1) scDeck.nd rfl (Or.inl rfl) (pe_callTy call_list_of (by rfl) mL (by decide +kernel) (pa_cons (pe_slice sl_list (pv 0) po_none (po_some pe_int)) pa_nil)))
    (pss_one (ps_ret (pe_lst (pa_cons (pv 1) (pa_cons (pe_op op_add pe_int (pe_op op_mod (pe_callB (cr_sum rfl) (by rfl) mS (by decide +kernel) (pa_cons (pv 1) pa_nil)) pe_int)) (pa_cons pe_int pa_nil)))))), ?_⟩
  refine ⟨_, rfl, _, rfl, a, _, rfl, hs, fun p hp => ?_⟩
  obtain ⟨ms, em, hm⟩ := cut_map ns none (some 63)
  rw [em]
  refine ⟨p, _, rfl, .inl (SqL.of upd_same), fun l hl => ?_⟩
  have s1 := same_new (o := HO.lst (ms.map V.int)) hp
  have s2 := same_new (o := HO.lst (ms.map V.int)) hl
  refine ⟨_, rfl, _, rfl, l, ms, rfl, SqL.of upd_same, _, _, rfl, rfl, (by show (0 : Int) < 2147483579; decide), _, _, rfl, rfl, (by show 3 ≤ sizeLine; decide), fun q hq => ?_⟩
  have h0 := Int.emod_nonneg ms.sum (show (2147483579 : Int) ≠ 0 by decide)
  have h1 := Int.emod_lt_of_pos ms.sum (show (0 : Int) < 2147483579 by decide)
  have hql : q ≠ l := fun e => by rw [e, upd_same] at hq; cases hq
  refine k _ q l ((s1.trans s2).trans (same_new hq)) ((s1.trans s2).free hq) (s1.free hl) ⟨ms, _, _, upd_same, ?_, hql, by omega, ?_, ?_⟩
  · rw [upd_ne hql.symm]; exact upd_same
  · show (0 : Int) ≤ 130043 + ms.sum % 2147483579
    omega
  · show 130043 + ms.sum % 2147483579 < (2 : Int) ^ 40
    omega
end
end PH
namespace PH
open PySem PySem.Spec PyProof.Rows L2
open C8 (pss_cut tCut)
section
variable {P : Program} {w : World} {K : PySem.W.Frag} {mg : Str → Option Value} {base : Heap} {C NX : Addr}
def spDraw : Sp := fun vs H Q _ => ∃ (d c : Addr) (n : Int), vs = [.ref d, .int n] ∧ Deck H d c ∧ 0 < n ∧ n < 2 ^ 29 ∧ ∀ H' r, Deck H' d c → Kept d c H H' → 0 ≤ r → r < n → Q (.int r) H'
theorem scDraw : FnScope ["_law_deck_here", "_law_many", "_law_cells", "_law_cell", "_law_number"] ["_law_deck_here", "_law_many"] (defScope sDraw) := ⟨rfl, rfl, rfl, by decide +kernel, rfl, by decide +kernel, by decide +kernel⟩
theorem dp_ints (H : Hp) : ∀ ms : List Int, DpAll K H (ms.map V.int) (ms.map PyData.int)
  | [] => .nil
  | m :: ms => .cons (.int m) (dp_ints H ms)
theorem can_ints : ∀ ms : List Int, PyData.canLayAll0 (ms.map PyData.int) = true
  | [] => rfl
  | m :: ms => by
    show (PyData.canLay0 (.int m) && PyData.canLayAll0 (ms.map PyData.int)) = true
    rw [can_ints ms]
    rfl
theorem depth_ints : ∀ ms : List Int, PyData.depthAll (ms.map PyData.int) = 0
  | [] => rfl
  | m :: ms => by
    show max (PyData.depth (.int m)) (PyData.depthAll (ms.map PyData.int)) = 0
    rw [depth_ints ms]
    rfl
theorem shaped_ints (ms : List Int) : SeqAt.shaped (.list (ms.map PyData.int)) = true := by
  unfold SeqAt.shaped
  rw [Bool.and_eq_true]
  refine ⟨can_ints ms, decide_eq_true ?_⟩
  show PyData.depthAll (ms.map PyData.int) + 1 ≤ 64
  rw [depth_ints]
  decide
theorem eqv_nil (m : Int) (ms : List Int) : PyData.eqv (.list ((m :: ms).map PyData.int)) (.list []) = false := by
  simp only [PyData.eqv, List.map_cons, PyData.eqvAll]
theorem seq0 (m : Int) (ms : List Int) : seqIndex? 0 ((m :: ms).map V.int).length = some 0 := by
  have h : atI ((m :: ms).map V.int) ((0 : Nat) : Int) = some (V.int m) := atI_nat rfl
  obtain ⟨j, h1, h2, h3, _, _⟩ := atI_get h
  have e : ((0 : Nat) : Int) = 0 := rfl
  rw [e] at h1
  rw [h1]
  unfold seqIndex? at h1
  simp at h1
  rw [h1]
theorem ok_draw {f : Addr} {fd : FuncData} (F : Fun K "_law_draw" "_law_draw" sDraw f fd) :
    FnOk P w K mg base CX0 1 f fd ["_law_deck_here", "_law_many"] spDraw := by
  refine F.ok scDraw ?_ ?_
  · rintro vs H Q E ⟨d, c, n, rfl, _⟩
    rfl
  intro cdv A outer s H vs Q E hr h
  obtain ⟨d, c, n, rfl, ⟨ms, n1, n2, hd, hc, hdc, hlen, hn0, hn1⟩, hp, hp2, k⟩ := h
  refine ⟨_, pss_cons (ps_asg (pe_op op_add (pe_ix ix_list (pv 0) pe_int (fun _ _ => rfl)) pe_int) (pg_sub (pv 0) pe_int set_list))
    (pss_cons (ps_set (i := 2) scDraw.nd rfl (Or.inl rfl) (pe_ix ix_list (pv 0) pe_int (fun _ _ => rfl)))
    (pss_cons (ps_set (i := 3) scDraw.nd rfl (Or.inl rfl) (pe_ix ix_list (pv 0) pe_int (fun _ _ => rfl)))
    (pss_cut (ps_if (pt_cmpR (op_neD hr.units) (pv 2) (pe_lst pa_nil) (nomark _))
      (pss_cons (ps_set (i := 3) scDraw.nd rfl (Or.inl rfl) (pe_bm PySem.F.plainAttrs_list PySem.F.slot_list_pop PySem.F.type_list_pop mt_popAt (pv 2) (pa_cons pe_int pa_nil)))
      (pss_cons (ps_if (pt_cmpR op_ge (pv 3) (pe_op op_pow pe_int pe_int) (nomark _))
        (pss_cons (ps_expr (pe_bm PySem.F.plainAttrs_list PySem.F.slot_list_insert PySem.F.type_list_insert mt_insert (pv 2) (pa_cons pe_int (pa_cons (pe_op op_fdivN (pv 3) (pv 1)) pa_nil))))
        (pss_one (ps_ret (pe_op op_mod (pv 3) (pv 1))))) pss_nil)
      (pss_one (ps_set (i := 3) scDraw.nd rfl (Or.inl rfl) (pe_op op_add (pv 3) (pe_ix ix_list (pv 0) pe_int (fun _ _ => rfl))))))) pss_nil)
    (pss_cons (ps_set (i := 4) scDraw.nd rfl (Or.inl rfl) (pe_op op_mod (pe_op op_add (pe_op op_add (pe_op op_mul (pe_op op_mod (pv 3) pe_int) pe_int) (pe_op op_mul pe_int (pe_ix ix_list (pv 0) pe_int (fun _ _ => rfl)))) pe_int) pe_int))
    (pss_cons (ps_set (i := 4) scDraw.nd rfl (Or.inl rfl) (pe_op op_mod (pe_op op_add (pe_op op_add (pe_op op_mul (pv 4) (pv 4)) (pe_op op_mul pe_int (pv 4))) (pe_ix ix_list (pv 0) pe_int (fun _ _ => rfl))) pe_int))
    (pss_cons (ps_asg (pv 4) (pg_sub (pv 0) pe_int set_list))
    (pss_one (ps_ret (pe_op op_mod (pe_op op_fdiv (pe_op op_mod (pe_op op_mul (pv 4) (pe_op op_add (pv 4) pe_int)) pe_int) pe_int) (pv 1)))))))))), ?_⟩
  -- deck[2] = deck[2] + 1; cells, cell
  refine ⟨_, rfl, d, _, 2, _, rfl, rfl, SqL.of hd, rfl, _, _, rfl, rfl, _, rfl, d, _, 2, 2, rfl, rfl, hd, rfl, ?_⟩
  have e2 : ([V.ref c, V.int n1, V.int n2].set 2 (V.int (n2 + 1))) = [V.ref c, V.int n1, V.int (n2 + 1)] := rfl
  rw [e2]
  have hd1 : upd H d (.lst [.ref c, .int n1, .int (n2 + 1)]) d = some (.lst [.ref c, .int n1, .int (n2 + 1)]) := upd_same
  have hc1 : upd H d (.lst [.ref c, .int n1, .int (n2 + 1)]) c = some (.lst (ms.map V.int)) := by rw [upd_ne hdc.symm]; exact hc
  have k1 : Kept d c H (upd H d (.lst [.ref c, .int n1, .int (n2 + 1)])) := Kept.refl.upd_d
  generalize upd H d (.lst [.ref c, .int n1, .int (n2 + 1)]) = H1 at *
  refine ⟨_, rfl, d, _, 0, _, rfl, rfl, SqL.of hd1, rfl, ?_⟩
  refine ⟨_, rfl, d, _, 1, _, rfl, rfl, SqL.of hd1, rfl, ?_⟩
  -- the cell
  refine ⟨fun σ' H' => ∃ (x : Int) (ms' : List Int), σ' = [some (.ref d), some (.int n), some (.ref c), some (.int x), none] ∧ H' d = some (.lst [.ref c, .int n1, .int (n2 + 1)]) ∧ H' c = some (.lst (ms'.map V.int)) ∧ ms'.length ≤ 100 ∧ Kept d c H H', ?_, ?_⟩
  · refine ⟨_, rfl, (by show 0 ≤ sizeLine; decide), fun q hq => ?_⟩
    have s2 := same_new (o := HO.lst []) hq
    refine ⟨_, _, .lst (SqL.of (s2 _ _ hc1)) (dp_ints _ ms), .lst (SqL.of upd_same) .nil, shaped_ints ms, rfl, _, rfl, ?_⟩
    have hd2 := s2 _ _ hd1
    have hc2 := s2 _ _ hc1
    have k2 := k1.trans (Kept.of s2)
    generalize upd H1 q (.lst []) = H2 at *
    match ms, hc2, hlen with
    | [], hc2, hlen => 
      refine if_f (by rfl) ?_
      exact ⟨n1, [], rfl, hd2, hc2, by show 0 ≤ 100; decide, k2⟩
    | m :: ms, hc2, hlen =>
      refine if_t (by rw [eqv_nil]; rfl) ?_
      refine ⟨_, rfl, .inl ⟨rfl, _, SqL.of hc2⟩, c, _, 0, 0, .int m, rfl, rfl, hc2, by decide, by decide, seq0 _ _, rfl, ?_⟩
      have hd3 : upd H2 c (.lst (ms.map V.int)) d = some (.lst [.ref c, .int n1, .int (n2 + 1)]) := by rw [upd_ne hdc]; exact hd2
      have hc3 : upd H2 c (.lst (ms.map V.int)) c = some (.lst (ms.map V.int)) := upd_same
      have k3 : Kept d c H (upd H2 c (.lst (ms.map V.int))) := k2.upd_c
      show _
      have el : ((m :: ms).map V.int).eraseIdx 0 = ms.map V.int := rfl
      rw [el]
      generalize upd H2 c (.lst (ms.map V.int)) = H3 at *
      have hl2 : ms.length + 1 ≤ 100 := hlen
      refine ⟨_, rfl, _, _, rfl, rfl, ⟨by decide, by decide, by decide⟩, _, _, rfl, rfl, _, rfl, ?_⟩
      by_cases z : (10 : Int) ^ (Int.toNat 18) ≤ m
      · refine if_t (decide_eq_true z) ?_
        refine ⟨_, rfl, .inl ⟨rfl, _, SqL.of hc3⟩, _, rfl, _, rfl, _, _, rfl, rfl, ⟨by omega, by omega⟩, c, _, 0, _, rfl, rfl, hc3, by rw [List.length_map]; exact Nat.lt_of_le_of_lt (by omega : ms.length ≤ 100) (by decide), by decide, by decide, ?_⟩
        refine ⟨_, rfl, _, rfl, m, n, rfl, rfl, hp, ?_⟩
        refine k _ _ ⟨m.fdiv n :: ms, n1, n2 + 1, ?_, ?_, hdc, hl2, hn0, hn1⟩ k3.upd_c (Int.emod_nonneg _ (by omega)) (Int.emod_lt_of_pos _ hp)
        · rw [upd_ne hdc]; exact hd3
        · rw [upd_same]; rfl
      · refine if_f (decide_eq_false z) ?_
        refine ⟨_, rfl, _, rfl, d, _, 1, _, rfl, rfl, SqL.of hd3, rfl, _, _, rfl, rfl, ?_⟩
        exact ⟨m + n1, ms, rfl, hd3, hc3, by omega, k3⟩
  rintro σ2 H2 ⟨x, ms', rfl, hd2, hc2, hl2, k2⟩
  refine ⟨_, rfl, _, _, rfl, rfl, (by show (0 : Int) < 2147483629; decide), _, _, rfl, rfl, Or.inr (by decide), _, rfl, d, _, 2, _, rfl, rfl, SqL.of hd2, rfl, _, _, rfl, rfl, Or.inl (by decide), _, _, rfl, rfl, _, _, rfl, rfl, _, _, rfl, rfl, (by show (0 : Int) < 2147483647; decide), ?_⟩
  refine ⟨_, rfl, _, rfl, _, _, rfl, rfl, Or.inl (by omega), _, rfl, _, _, rfl, rfl, Or.inl (by decide), _, _, rfl, rfl, _, rfl, d, _, 2, _, rfl, rfl, SqL.of hd2, rfl, _, _, rfl, rfl, _, _, rfl, rfl, (by show (0 : Int) < 2147483587; decide), ?_⟩
  refine ⟨_, rfl, _, rfl, d, _, 1, 1, rfl, rfl, hd2, rfl, ?_⟩
  refine ⟨_, rfl, _, rfl, _, _, rfl, rfl, _, _, rfl, rfl, Or.inl (by omega), _, _, rfl, rfl, (by show (0 : Int) < 2147483563; decide), _, _, rfl, rfl, ⟨by decide, by decide⟩, _, rfl, _, _, rfl, rfl, hp, ?_⟩
  refine k _ _ ⟨ms', _, n2 + 1, upd_same, by rw [upd_ne hdc.symm]; exact hc2, hdc, hl2, ?_, ?_⟩ k2.upd_d (Int.emod_nonneg _ (by omega)) (Int.emod_lt_of_pos _ hp)
  · omega
  · omega
end
end PH
namespace PH
open PySem PySem.Spec PyProof.Rows L2
open C8 (pss_cut tCut)
abbrev sWholeL : Stmt := topS 29
abbrev sFive : Stmt := topS 30
section
variable {P : Program} {w : World} {K : PySem.W.Frag} {mg : Str → Option Value} {base : Heap} {C NX : Addr}
theorem Deck.off_t {H : Hp} {d c t : Addr} {xs : List V} (D : Deck H d c) (h : H t = some (.tup xs)) : t ≠ d ∧ t ≠ c := by
  obtain ⟨ms, n1, n2, h1, h2, _⟩ := D
  exact ⟨ne_of h h1 (by intro z; cases z), ne_of h h2 (by intro z; cases z)⟩
theorem Deck.off_n {H : Hp} {d c t : Addr} (D : Deck H d c) (h : H t = none) : t ≠ d ∧ t ≠ c := by
  obtain ⟨ms, n1, n2, h1, h2, _⟩ := D
  exact ⟨(ne_of_none h1 h).symm, (ne_of_none h2 h).symm⟩
theorem Deck.off_i {H : Hp} {d c t C dx : Addr} {fs : List (Str × V)} (D : Deck H d c) (h : H t = some (.ins C dx fs)) : t ≠ d ∧ t ≠ c := by
  obtain ⟨ms, n1, n2, h1, h2, _⟩ := D
  exact ⟨ne_of h h1 (by intro z; cases z), ne_of h h2 (by intro z; cases z)⟩
theorem Kept.tup {H H' : Hp} {d c t : Addr} {xs : List V} (k : Kept d c H H') (D : Deck H d c) (h : H t = some (.tup xs)) : H' t = some (.tup xs) :=
  k _ _ h (D.off_t h).1 (D.off_t h).2
theorem Kept.free {H H' : Hp} {d c p : Addr} (k : Kept d c H H') (D : Deck H d c) (D' : Deck H' d c) (h : H' p = none) : H p = none := by
  cases e : H p with
  | none => rfl
  | some o =>
    have z := k p o e (D'.off_n h).1 (D'.off_n h).2
    rw [h] at z
    cases z
theorem atI_mem {xs : List V} {i : Int} (h0 : 0 ≤ i) (h1 : i < xs.length) : ∃ v, atI xs i = some v ∧ v ∈ xs := by
  obtain ⟨j, rfl⟩ : ∃ j : Nat, i = (j : Int) := ⟨i.toNat, by omega⟩
  have hj : j < xs.length := by omega
  exact ⟨xs[j], atI_nat (List.getElem?_eq_getElem hj), List.getElem_mem hj⟩
def spWholeL : Sp := fun vs H Q _ => ∃ (d c : Addr), vs = [.ref d] ∧ Deck H d c ∧ ∀ H' r, Deck H' d c → Kept d c H H' → 0 ≤ r → r ≤ 8999 → Q (.int r) H'
theorem scWholeL : FnScope ["_law_deck_here", "_law_some"] ["_law_deck_here"] (defScope sWholeL) := ⟨rfl, rfl, rfl, by decide +kernel, rfl, by decide +kernel, by decide +kernel⟩
abbrev GDraw (P : Program) (w : World) (K : PySem.W.Frag) (mg : Str → Option Value) (base : Heap) (f : Addr) (fd : FuncData) : Prop := FnOk P w K mg base CX0 1 f fd ["_law_deck_here", "_law_many"] spDraw
abbrev FDraw (K : PySem.W.Frag) (mg : Str → Option Value) (f : Addr) (fd : FuncData) : Prop := Fns K mg f fd "_law_draw" 21 ["_law_deck_here", "_law_many"]
theorem ok_wholeL {f fD : Addr} {fd fdD : FuncData} (F : Fun K "_law_whole" "_law_whole" sWholeL f fd) (GD : GDraw P w K mg base fD fdD) (FD : FDraw K mg fD fdD) :
    FnOk P w K mg base CX0 2 f fd ["_law_deck_here"] spWholeL := by
  refine F.ok scWholeL ?_ ?_
  · rintro vs H Q E ⟨d, c, rfl, _⟩
    rfl
  intro cdv A outer s H vs Q E hr h
  obtain ⟨d, c, rfl, D, k⟩ := h
  refine ⟨_, pss_cons (ps_set (i := 1) scWholeL.nd rfl (Or.inl rfl) (pe_lst (pa_cons pe_int (pa_cons pe_int (pa_cons pe_int (pa_cons pe_int (pa_cons pe_int (pa_cons pe_int (pa_cons pe_int (pa_cons pe_int (pa_cons pe_int (pa_cons pe_int
      (pa_cons (pe_call GD hr rfl FD.m FD.F.kp FD.b .nil pass0 (pa_cons (pv 0) (pa_cons pe_int pa_nil))) (pa_cons (pe_call GD hr rfl FD.m FD.F.kp FD.b .nil pass0 (pa_cons (pv 0) (pa_cons pe_int pa_nil))) pa_nil))))))))))))))
    (pss_one (ps_ret (pe_ix ix_list (pv 1) (pe_call GD hr rfl FD.m FD.F.kp FD.b .nil pass0 (pa_cons (pv 0) (pa_cons pe_int pa_nil))) (fun _ _ => rfl)))), ?_⟩
  refine ⟨_, rfl, ?_⟩
  dsimp only [tNil, tC, tCons]
  refine ⟨d, c, 9000, rfl, D, by decide, by decide, fun H1 r1 D1 k1 a1 b1 => ?_⟩
  refine ⟨_, rfl, ?_⟩
  dsimp only [tNil, tC, tCons]
  refine ⟨d, c, 30, rfl, D1, by decide, by decide, fun H2 r2 D2 k2 a2 b2 => ?_⟩
  refine ⟨(by show 12 ≤ sizeLine; decide), fun p hp => ?_⟩
  have s3 := same_new (o := HO.lst [V.int 0, .int 1, .int 2, .int 3, .int 9, .int 10, .int 99, .int 100, .int 999, .int 8999, .int r1, .int r2]) hp
  have off := D2.off_n hp
  refine ⟨_, rfl, _, rfl, ?_⟩
  dsimp only [tNil, tC, tCons]
  refine ⟨d, c, 12, rfl, D2.same s3, by decide, by decide, fun H4 r4 D4 k4 a4 b4 => ?_⟩
  obtain ⟨v, hv, hm⟩ := atI_mem (xs := [V.int 0, .int 1, .int 2, .int 3, .int 9, .int 10, .int 99, .int 100, .int 999, .int 8999, .int r1, .int r2]) a4 b4
  refine ⟨p, _, r4, v, rfl, rfl, SqL.of (k4 _ _ upd_same off.1 off.2), hv, ?_⟩
  have hx : ∃ x : Int, v = V.int x ∧ 0 ≤ x ∧ x ≤ 8999 := by
    simp only [List.mem_cons, List.not_mem_nil, or_false] at hm
    rcases hm with rfl | rfl | rfl | rfl | rfl | rfl | rfl | rfl | rfl | rfl | rfl | rfl
    all_goals exact ⟨_, rfl, by omega, by omega⟩
  obtain ⟨x, rfl, x0, x1⟩ := hx
  exact k H4 x D4 ((k1.trans k2).trans ((Kept.of s3).trans k4)) x0 x1
/-! ### five numbers, drawn -/
def spFive : Sp := fun vs H Q _ => ∃ (d c : Addr), vs = [.ref d] ∧ Deck H d c ∧ ∀ H' p f, Deck H' d c → Kept d c H H' → H' p = some (.tup (fiveV f)) → Right f → Small f → Q (.ref p) H'
abbrev nFive : List Str := ["_law_deck_here", "_law_way", "_law_upper", "_law_lower", "_law_mark", "_law_many", "_law_by", "_law_free", "_law_some", "_law_aloft", "_law_beneath"]
theorem scFive : FnScope nFive ["_law_deck_here"] (defScope sFive) := ⟨rfl, rfl, rfl, by decide +kernel, rfl, by decide +kernel, by decide +kernel⟩
/-- a pair that may stand for a root -/
def PairAt (H : Hp) (v : V) : Prop := ∃ t a b, v = .ref t ∧ H t = some (.tup [.int a, .int b]) ∧ 0 ≤ a ∧ 0 < b ∧ b ≤ 999999
theorem PairAt.same {H H' : Hp} {v : V} (s : Same H H') (h : PairAt H v) : PairAt H' v := by
  obtain ⟨t, a, b, e, h1, h2⟩ := h
  exact ⟨t, a, b, e, s _ _ h1, h2⟩
theorem PairAt.kept {H H' : Hp} {d c : Addr} {v : V} (k : Kept d c H H') (D : Deck H d c) (h : PairAt H v) : PairAt H' v := by
  obtain ⟨t, a, b, e, h1, h2⟩ := h
  exact ⟨t, a, b, e, k.tup D h1, h2⟩
theorem ok_five {f fD fW : Addr} {fd fdD fdW : FuncData} (F : Fun K "_law_five" "_law_five" sFive f fd) (GD : GDraw P w K mg base fD fdD) (FD : FDraw K mg fD fdD)
    (GW : FnOk P w K mg base CX0 2 fW fdW ["_law_deck_here"] spWholeL) (FW : Fns K mg fW fdW "_law_whole" 29 ["_law_deck_here"]) (mM : mg "min" = none) :
    FnOk P w K mg base CX0 3 f fd ["_law_deck_here"] spFive := by
  refine F.ok scFive ?_ ?_
  · rintro vs H Q E ⟨d, c, rfl, _⟩
    rfl
  intro cdv A outer s H vs Q E hr h
  have hr1 : Room 1 _ := hr.mono (by decide)
  obtain ⟨d, c, rfl, D, k⟩ := h
  refine ⟨_, pss_cons (ps_set (i := 1) scFive.nd rfl (Or.inl rfl) (pe_call GD hr1 rfl FD.m FD.F.kp FD.b .nil pass0 (pa_cons (pv 0) (pa_cons pe_int pa_nil))))
    (pss_cons (ps_set (i := 2) scFive.nd rfl (Or.inl rfl) (pe_op op_mul (pe_call GW hr rfl FW.m FW.F.kp FW.b .nil pass0 (pa_cons (pv 0) pa_nil))
      (pe_ix ix_list (pe_lst (pa_cons pe_int (pa_cons (pe_un un_neg pe_int) pa_nil))) (pe_call GD hr1 rfl FD.m FD.F.kp FD.b .nil pass0 (pa_cons (pv 0) (pa_cons pe_int pa_nil))) (fun _ _ => rfl))))
    (pss_cons (ps_set (i := 3) scFive.nd rfl (Or.inl rfl) (pe_op op_add pe_int (pe_call GD hr1 rfl FD.m FD.F.kp FD.b .nil pass0 (pa_cons (pv 0) (pa_cons
      (pe_ix ix_list (pe_lst (pa_cons pe_int (pa_cons pe_int (pa_cons pe_int pa_nil)))) (pe_call GD hr1 rfl FD.m FD.F.kp FD.b .nil pass0 (pa_cons (pv 0) (pa_cons pe_int pa_nil))) (fun _ _ => rfl)) pa_nil)))))
    (pss_cons (ps_set (i := 4) scFive.nd rfl (Or.inl rfl) (pe_ix ix_list (pe_lst (pa_cons (pe_un un_neg pe_int) (pa_cons pe_int (pa_cons pe_int pa_nil)))) (pe_op op_fdiv (pe_call GD hr1 rfl FD.m FD.F.kp FD.b .nil pass0 (pa_cons (pv 0) (pa_cons pe_int pa_nil))) pe_int) (fun _ _ => rfl)))
    (pss_cons (ps_par (i := 5) (j := 6) rfl scFive.nd rfl rfl (by decide) rfl rfl (pa_cons (pe_op op_add pe_int (pe_call GD hr1 rfl FD.m FD.F.kp FD.b .nil pass0 (pa_cons (pv 0) (pa_cons pe_int pa_nil)))) (pa_cons (pe_op op_add pe_int (pe_call GD hr1 rfl FD.m FD.F.kp FD.b .nil pass0 (pa_cons (pv 0) (pa_cons pe_int pa_nil)))) pa_nil)) (by rfl))
    (pss_cons (ps_set (i := 7) scFive.nd rfl (Or.inl rfl) (pe_ix ix_list (pe_lst (pa_cons pe_int (pa_cons pe_int (pa_cons pe_int (pa_cons pe_int (pa_cons pe_int (pa_cons pe_int (pa_cons pe_int (pa_cons pe_int pa_nil)))))))))
      (pe_call GD hr1 rfl FD.m FD.F.kp FD.b .nil pass0 (pa_cons (pv 0) (pa_cons pe_int pa_nil))) (fun _ _ => rfl)))
    (pss_cons (ps_set (i := 8) scFive.nd rfl (Or.inl rfl) (pe_lst (pa_cons (pe_tup (pa_cons (pv 7) (pa_cons pe_int pa_nil))) (pa_cons (pe_tup (pa_cons (pe_op op_mul (pv 5) (pv 5)) (pa_cons (pe_op op_mul (pv 6) (pv 6)) pa_nil)))
      (pa_cons (pe_tup (pa_cons (pe_op op_mul (pe_op op_mul (pv 7) (pv 6)) (pv 6)) (pa_cons (pe_op op_mul (pv 5) (pv 5)) pa_nil))) pa_nil)))))
    (pss_cons (ps_set (i := 8) scFive.nd rfl (Or.inl rfl) (pe_op op_cat (pv 8) (pe_lst (pa_cons (pe_tup (pa_cons (pe_call GW hr rfl FW.m FW.F.kp FW.b .nil pass0 (pa_cons (pv 0) pa_nil)) (pa_cons (pv 6) pa_nil))) (pa_cons (pe_tup (pa_cons pe_int (pa_cons (pv 6) pa_nil)))
      (pa_cons (pe_tup (pa_cons (pe_op op_mul (pv 5) (pv 7)) (pa_cons (pe_op op_mul (pv 6) (pv 7)) pa_nil))) pa_nil))))))
    (pss_cons (ps_asg (pe_ix ix_list (pv 8) (pv 1) (fun _ _ => rfl)) (pg_tup rfl (pgs_cons (pg_name (i := 9) scFive.nd rfl (Or.inl rfl)) (pgs_cons (pg_name (i := 10) scFive.nd rfl (Or.inl rfl)) pgs_nil))))
    (pss_one (ps_ret (pe_tup (pa_cons (pv 2) (pa_cons (pv 3) (pa_cons (pv 4) (pa_cons (pe_callB (call_min2 rfl) (by rfl) mM (by decide +kernel) (pa_cons (pv 9) (pa_cons pe_int pa_nil))) (pa_cons (pv 10) pa_nil)))))))))))))))), ?_⟩
  -- way
  refine ⟨_, rfl, ?_⟩
  dsimp only [tNil, tC, tCons]
  refine ⟨d, c, 6, rfl, D, by decide, by decide, fun H1 way D1 k1 way0 way1 => ?_⟩
  -- upper
  refine ⟨_, rfl, ?_⟩
  dsimp only [tNil, tC, tCons]
  refine ⟨d, c, rfl, D1, fun H2 u D2 k2 u0 u1 => ?_⟩
  refine ⟨1, rfl, (by show 2 ≤ sizeLine; decide), fun p3 hp3 => ?_⟩
  have s3 := same_new (o := HO.lst [V.int 1, V.int (-1)]) hp3
  have off3 := D2.off_n hp3
  refine ⟨_, rfl, ?_⟩
  dsimp only [tNil, tC, tCons]
  refine ⟨d, c, 2, rfl, D2.same s3, by decide, by decide, fun H4 r4 D4 k4 a4 b4 => ?_⟩
  obtain ⟨v4, hv4, hm4⟩ := atI_mem (xs := [V.int 1, .int (-1)]) a4 b4
  obtain ⟨x4, rfl, hx4⟩ : ∃ x : Int, v4 = V.int x ∧ (x = 1 ∨ x = -1) := by
    simp only [List.mem_cons, List.not_mem_nil, or_false] at hm4
    rcases hm4 with rfl | rfl
    · exact ⟨_, rfl, .inl rfl⟩
    · exact ⟨_, rfl, .inr rfl⟩
  refine ⟨p3, _, r4, _, rfl, rfl, SqL.of (k4 _ _ upd_same off3.1 off3.2), hv4, _, _, rfl, rfl, Or.inl (by omega), ?_⟩
  have hup : (u * x4).natAbs ≤ 999999 := by
    rcases hx4 with rfl | rfl <;> omega
  try dsimp only
  generalize u * x4 = upper at *
  have K4 : Kept d c H H4 := (k1.trans k2).trans ((Kept.of s3).trans k4)
  clear hx4 hv4 hm4
  -- lower
  refine ⟨_, rfl, (by show 3 ≤ sizeLine; decide), fun p5 hp5 => ?_⟩
  have s5 := same_new (o := HO.lst [V.int 1, V.int 12, V.int 8999]) hp5
  have off5 := D4.off_n hp5
  refine ⟨_, rfl, ?_⟩
  dsimp only [tNil, tC, tCons]
  refine ⟨d, c, 3, rfl, D4.same s5, by decide, by decide, fun H6 r6 D6 k6 a6 b6 => ?_⟩
  obtain ⟨v6, hv6, hm6⟩ := atI_mem (xs := [V.int 1, .int 12, .int 8999]) a6 b6
  obtain ⟨x6, rfl, hx6, hy6⟩ : ∃ x : Int, v6 = V.int x ∧ 0 < x ∧ x ≤ 8999 := by
    simp only [List.mem_cons, List.not_mem_nil, or_false] at hm6
    rcases hm6 with rfl | rfl | rfl
    all_goals exact ⟨_, rfl, by omega, by omega⟩
  refine ⟨p5, _, r6, _, rfl, rfl, SqL.of (k6 _ _ upd_same off5.1 off5.2), hv6, ?_⟩
  refine ⟨d, c, x6, rfl, D6, hx6, by omega, fun H7 l7 D7 k7 a7 b7 => ?_⟩
  refine ⟨1, l7, rfl, rfl, ?_⟩
  have K7 : Kept d c H H7 := (K4.trans (Kept.of s5)).trans (k6.trans k7)
  have hlo : 0 < 1 + l7 ∧ 1 + l7 ≤ 999999 := by omega
  try dsimp only
  generalize 1 + l7 = lower at *
  clear hv6 hm6 hx6 hy6 a7 b7
  -- mark
  refine ⟨1, rfl, (by show 3 ≤ sizeLine; decide), fun p8 hp8 => ?_⟩
  have s8 := same_new (o := HO.lst [V.int (-1), V.int 1, V.int 0]) hp8
  have off8 := D7.off_n hp8
  refine ⟨_, rfl, ?_⟩
  dsimp only [tNil, tC, tCons]
  refine ⟨d, c, 7, rfl, D7.same s8, by decide, by decide, fun H9 r9 D9 k9 a9 b9 => ?_⟩
  refine ⟨r9, 3, rfl, rfl, ⟨by decide, by decide⟩, ?_⟩
  obtain ⟨v9, hv9, hm9⟩ := atI_mem (xs := [V.int (-1), .int 1, .int 0]) (i := r9 / 3) (by omega) (by show r9 / 3 < 3; omega)
  obtain ⟨mark, rfl, hmark⟩ : ∃ x : Int, v9 = V.int x ∧ (x = -1 ∨ x = 0 ∨ x = 1) := by
    simp only [List.mem_cons, List.not_mem_nil, or_false] at hm9
    rcases hm9 with rfl | rfl | rfl
    all_goals exact ⟨_, rfl, by omega⟩
  refine ⟨p8, _, r9 / 3, _, rfl, rfl, SqL.of (k9 _ _ upd_same off8.1 off8.2), hv9, ?_⟩
  have K9 : Kept d c H H9 := (K7.trans (Kept.of s8)).trans k9
  clear hv9 hm9
  -- many, by
  refine ⟨_, rfl, ?_⟩
  dsimp only [tNil, tC, tCons]
  refine ⟨d, c, 30, rfl, D9, by decide, by decide, fun Ha ra Da ka aa ba => ?_⟩
  refine ⟨1, ra, rfl, rfl, _, rfl, ?_⟩
  dsimp only [tNil, tC, tCons]
  refine ⟨d, c, 12, rfl, Da, by decide, by decide, fun Hb rb Db kb ab bb => ?_⟩
  refine ⟨1, rb, rfl, rfl, _, _, rfl, ?_⟩
  have Kb : Kept d c H Hb := K9.trans (ka.trans kb)
  have hma : 0 < 1 + ra ∧ 1 + ra ≤ 30 := by omega
  have hby : 0 < 1 + rb ∧ 1 + rb ≤ 12 := by omega
  try dsimp only
  generalize 1 + ra = many at *
  generalize 1 + rb = bY at *
  clear aa ba ab bb
  -- free
  refine ⟨(by show 8 ≤ sizeLine; decide), fun pc hpc => ?_⟩
  have sc := same_new (o := HO.lst [V.int 2, .int 3, .int 5, .int 6, .int 7, .int 10, .int 30, .int 8999]) hpc
  have offc := Db.off_n hpc
  refine ⟨_, rfl, ?_⟩
  dsimp only [tNil, tC, tCons]
  refine ⟨d, c, 8, rfl, Db.same sc, by decide, by decide, fun Hd rd Dd kd ad bd => ?_⟩
  obtain ⟨vd, hvd, hmd⟩ := atI_mem (xs := [V.int 2, .int 3, .int 5, .int 6, .int 7, .int 10, .int 30, .int 8999]) ad bd
  obtain ⟨free, rfl, hf0, hf1⟩ : ∃ x : Int, vd = V.int x ∧ 0 < x ∧ x ≤ 8999 := by
    simp only [List.mem_cons, List.not_mem_nil, or_false] at hmd
    rcases hmd with rfl | rfl | rfl | rfl | rfl | rfl | rfl | rfl
    all_goals exact ⟨_, rfl, by omega, by omega⟩
  refine ⟨pc, _, rd, _, rfl, rfl, SqL.of (kd _ _ upd_same offc.1 offc.2), hvd, ?_⟩
  have Kd : Kept d c H Hd := (Kb.trans (Kept.of sc)).trans kd
  clear hvd hmd
  have mm : 0 < many * many ∧ many * many ≤ 30 * 30 := ⟨Int.mul_pos hma.1 hma.1, Int.mul_le_mul hma.2 hma.2 (by omega) (by decide)⟩
  have bb : 0 < bY * bY ∧ bY * bY ≤ 12 * 12 := ⟨Int.mul_pos hby.1 hby.1, Int.mul_le_mul hby.2 hby.2 (by omega) (by decide)⟩
  have fb : 0 < free * bY ∧ free * bY ≤ 8999 * 12 := ⟨Int.mul_pos hf0 hby.1, Int.mul_le_mul hf1 hby.2 (by omega) (by decide)⟩
  have fbb : 0 < free * bY * bY := Int.mul_pos fb.1 hby.1
  have mf : 0 < many * free := Int.mul_pos hma.1 hf0
  have bf : 0 < bY * free ∧ bY * free ≤ 12 * 8999 := ⟨Int.mul_pos hby.1 hf0, Int.mul_le_mul hby.2 hf1 (by omega) (by decide)⟩
  -- the first three pairs
  refine ⟨_, rfl, (by show 2 ≤ sizeLine; decide), fun t1 ht1 => ?_⟩
  have q1 := same_new (o := HO.tup [V.int free, V.int 1]) ht1
  refine ⟨_, rfl, _, rfl, _, _, rfl, rfl, Or.inl (by omega), _, rfl, _, rfl, _, _, rfl, rfl, Or.inl (by omega), (by show 2 ≤ sizeLine; decide), fun t2 ht2 => ?_⟩
  have q2 := same_new (o := HO.tup [V.int (many * many), V.int (bY * bY)]) ht2
  refine ⟨_, rfl, _, rfl, _, _, rfl, rfl, Or.inl (by omega), _, rfl, _, _, rfl, rfl, Or.inr (by omega), _, rfl, _, rfl, _, _, rfl, rfl, Or.inl (by omega), (by show 2 ≤ sizeLine; decide), fun t3 ht3 => ?_⟩
  have q3 := same_new (o := HO.tup [V.int (free * bY * bY), V.int (many * many)]) ht3
  refine ⟨(by show 3 ≤ sizeLine; decide), fun pe hpe => ?_⟩
  have qe := same_new (o := HO.lst [V.ref t1, V.ref t2, V.ref t3]) hpe
  have P1 : PairAt _ (V.ref t1) := ⟨t1, free, 1, rfl, qe _ _ (q3 _ _ (q2 _ _ upd_same)), by omega, by omega, by omega⟩
  have P2 : PairAt _ (V.ref t2) := ⟨t2, many * many, bY * bY, rfl, qe _ _ (q3 _ _ upd_same), by omega, by omega, by omega⟩
  have P3 : PairAt _ (V.ref t3) := ⟨t3, free * bY * bY, many * many, rfl, qe _ _ upd_same, by omega, by omega, by omega⟩
  have De := (((Dd.same q1).same q2).same q3).same qe
  have Ke : Kept d c H _ := Kd.trans (Kept.of (((q1.trans q2).trans q3).trans qe))
  have offe := (((Dd.same q1).same q2).same q3).off_n hpe
  have hse := @upd_same (upd (upd (upd Hd t1 (HO.tup [V.int free, V.int 1])) t2 (HO.tup [V.int (many * many), V.int (bY * bY)])) t3 (HO.tup [V.int (free * bY * bY), V.int (many * many)])) pe (HO.lst [V.ref t1, V.ref t2, V.ref t3])
  generalize upd (upd (upd (upd Hd t1 (HO.tup [V.int free, V.int 1])) t2 (HO.tup [V.int (many * many), V.int (bY * bY)])) t3 (HO.tup [V.int (free * bY * bY), V.int (many * many)])) pe (HO.lst [V.ref t1, V.ref t2, V.ref t3]) = He at *
  clear q1 q2 q3 qe ht1 ht2 ht3 hpe
  -- the other three
  refine ⟨_, rfl, ?_⟩
  dsimp only [tNil, tC, tCons]
  refine ⟨_, rfl, ?_⟩
  dsimp only [tNil, tC, tCons]
  refine ⟨d, c, rfl, De, fun Hf rf Df kf af bf' => ?_⟩
  have P1f := P1.kept kf De
  have P2f := P2.kept kf De
  have P3f := P3.kept kf De
  have hsf := kf _ _ hse offe.1 offe.2
  have Kf : Kept d c H Hf := Ke.trans kf
  refine ⟨_, rfl, (by show 2 ≤ sizeLine; decide), fun t4 ht4 => ?_⟩
  have q4 := same_new (o := HO.tup [V.int rf, V.int bY]) ht4
  refine ⟨_, rfl, (by show 2 ≤ sizeLine; decide), fun t5 ht5 => ?_⟩
  have q5 := same_new (o := HO.tup [V.int 0, V.int bY]) ht5
  refine ⟨_, rfl, _, rfl, _, _, rfl, rfl, Or.inl (by omega), _, rfl, _, rfl, _, _, rfl, rfl, Or.inl (by omega), (by show 2 ≤ sizeLine; decide), fun t6 ht6 => ?_⟩
  have q6 := same_new (o := HO.tup [V.int (many * free), V.int (bY * free)]) ht6
  refine ⟨(by show 3 ≤ sizeLine; decide), fun pg hpg => ?_⟩
  have qg := same_new (o := HO.lst [V.ref t4, V.ref t5, V.ref t6]) hpg
  have sfg := (((q4.trans q5).trans q6).trans qg)
  have P4 : PairAt _ (V.ref t4) := ⟨t4, rf, bY, rfl, qg _ _ (q6 _ _ (q5 _ _ upd_same)), by omega, by omega, by omega⟩
  have P5 : PairAt _ (V.ref t5) := ⟨t5, 0, bY, rfl, qg _ _ (q6 _ _ upd_same), by omega, by omega, by omega⟩
  have P6 : PairAt _ (V.ref t6) := ⟨t6, many * free, bY * free, rfl, qg _ _ upd_same, by omega, by omega, by omega⟩
  have Dg := Df.same sfg
  have Kg : Kept d c H _ := Kf.trans (Kept.of sfg)
  refine ⟨pe, pg, _, _, rfl, rfl, sfg _ _ hsf, upd_same, (by show 6 ≤ sizeLine; decide), fun ph hph => ?_⟩
  have qh := same_new (o := HO.lst ([V.ref t1, V.ref t2, V.ref t3] ++ [V.ref t4, V.ref t5, V.ref t6])) hph
  -- aloft, beneath
  obtain ⟨v, hv, hm⟩ := atI_mem (xs := [V.ref t1, V.ref t2, V.ref t3] ++ [V.ref t4, V.ref t5, V.ref t6]) way0 way1
  have PV : PairAt (upd (upd (upd (upd (upd Hf t4 (HO.tup [V.int rf, V.int bY])) t5 (HO.tup [V.int 0, V.int bY])) t6 (HO.tup [V.int (many * free), V.int (bY * free)])) pg (HO.lst [V.ref t4, V.ref t5, V.ref t6])) ph (HO.lst ([V.ref t1, V.ref t2, V.ref t3] ++ [V.ref t4, V.ref t5, V.ref t6]))) v := by
    simp only [List.cons_append, List.nil_append, List.mem_cons, List.not_mem_nil, or_false] at hm
    rcases hm with rfl | rfl | rfl | rfl | rfl | rfl
    · exact (P1f.same sfg).same qh
    · exact (P2f.same sfg).same qh
    · exact (P3f.same sfg).same qh
    · exact P4.same qh
    · exact P5.same qh
    · exact P6.same qh
  obtain ⟨tv, a, b, rfl, htv, ha, hb, hb2⟩ := PV
  refine ⟨_, rfl, _, rfl, ph, _, way, _, rfl, rfl, SqL.of upd_same, hv, tv, _, rfl, SqT.of htv, rfl, _, _, rfl, _, _, rfl, rfl, ?_⟩
  refine ⟨_, rfl, _, rfl, _, rfl, _, rfl, _, _, rfl, _, rfl, (by show 5 ≤ sizeLine; decide), fun pz hpz => ?_⟩
  refine k _ pz (upper, lower, mark, (if (999999 : Int) < a then 999999 else a), b) ((Dg.same qh).same (same_new hpz)) (Kg.trans (Kept.of (qh.trans (same_new hpz)))) upd_same ⟨hlo.1, hmark, ?_, hb⟩ ⟨hup, hlo.2, ?_, hb2⟩
  · dsimp only; split <;> omega
  · dsimp only; split <;> omega
end
end PH
namespace PH
open PySem PySem.Spec PyProof.Rows L2
open C8 (pss_cut tCut)
abbrev sRatio : Stmt := topS 26
abbrev sOfP : Stmt := topS 27
section
variable {P : Program} {w : World} {K : PySem.W.Frag} {mg : Str → Option Value} {base : Heap} {C NX : Addr}
/-! ### _law_ratio -/
def spRatio : Sp := fun vs H Q _ => ∃ (p q : Addr) (f f' : Five), vs = [.ref p, .ref q] ∧ H p = some (.tup (fiveV f)) ∧ H q = some (.tup (fiveV f')) ∧ Canon f ∧ Canon f' ∧ Wds 2500 f ∧ Wds 2500 f' ∧ go f f' = true ∧
  ∀ H' r, Same H H' → H' r = some (.tup [.int (lratio f f').1, .int (lratio f f').2]) → Q (.ref r) H'
theorem scRatio : FnScope ["_law_one", "_law_theirs"] ["_law_one", "_law_theirs"] (defScope sRatio) := ⟨rfl, rfl, rfl, by decide +kernel, rfl, by decide +kernel, by decide +kernel⟩
theorem ok_ratio {f fL fR : Addr} {fd fdL fdR : FuncData} (F : Fun K "_law_ratio" "_law_ratio" sRatio f fd)
    (GL : FnOk P w K mg base CX0 1 fL fdL ["_law_upper", "_law_lower"] spLowest) (FL : Fns K mg fL fdL "_law_lowest" 22 ["_law_upper", "_law_lower"])
    (GR : FnOk P w K mg base CX0 2 fR fdR ["_law_pair"] spRoot) (FR : Fns K mg fR fdR "_law_root" 24 ["_law_pair"]) :
    FnOk P w K mg base CX0 3 f fd ["_law_one", "_law_theirs"] spRatio := by
  refine F.ok scRatio ?_ ?_
  · rintro vs H Q E ⟨p, q, f, f', rfl, _⟩
    rfl
  intro cdv A outer s H vs Q E hr h
  have hr1 : Room 1 _ := hr.mono (by decide)
  obtain ⟨p, q, ⟨u, l, t, a, b⟩, ⟨u', l', t', a', b'⟩, rfl, hp, hq, C1, C2, ⟨_, _, wa, wb⟩, ⟨_, _, wa', wb'⟩, hgo, k⟩ := h
  refine ⟨_, pss_cons (ps_if (PW.pt (pw_or (pt_cmpR op_eq (pe_ix ix_tup (pv 0) pe_int (fun _ _ => rfl)) pe_int (nomark _)) (pw_or1 (pt_cmpR op_eq (pe_ix ix_tup (pv 1) pe_int (fun _ _ => rfl)) pe_int (nomark _)))))
      (pss_one (ps_ret (pe_tup (pa_cons pe_int (pa_cons pe_int pa_nil))))) pss_nil)
    (pss_one (ps_ret (pe_call GR hr rfl FR.m FR.F.kp FR.b .nil pass0 (pa_cons (pe_call GL hr1 rfl FL.m FL.F.kp FL.b .nil pass0
      (pa_cons (pe_op op_mulX (pe_ix ix_tup (pv 1) pe_int (fun _ _ => rfl)) (pe_ix ix_tup (pv 0) pe_int (fun _ _ => rfl))) (pa_cons (pe_op op_mulX (pe_ix ix_tup (pv 1) pe_int (fun _ _ => rfl)) (pe_ix ix_tup (pv 0) pe_int (fun _ _ => rfl))) pa_nil))) pa_nil)))), ?_⟩
  have P1 := canon_pos C1
  have P2 := canon_pos C2
  unfold lratio at k
  unfold go at hgo
  unfold ratio at *
  dsimp only at wa wb wa' wb' k hgo P1 P2
  refine ⟨_, rfl, p, _, 2, _, rfl, rfl, SqT.of hp, rfl, rfl, _, rfl, ?_⟩
  by_cases z : t = 0
  · refine if_t (by show decide (V.int t = V.int 0) = true; rw [dec_int]; exact decide_eq_true z) ?_
    rw [if_pos (.inl z)] at k
    refine if_t rfl ⟨(by show 2 ≤ sizeLine; decide), fun r hr => k _ r (same_new hr) upd_same⟩
  refine if_f (by show decide (V.int t = V.int 0) = false; rw [dec_int]; exact decide_eq_false z) ?_
  refine ⟨_, rfl, q, _, 2, _, rfl, rfl, SqT.of hq, rfl, rfl, _, rfl, ?_⟩
  by_cases z' : t' = 0
  · refine if_t (by show decide (V.int t' = V.int 0) = true; rw [dec_int]; exact decide_eq_true z') ?_
    rw [if_pos (.inr z')] at k
    exact ⟨(by show 2 ≤ sizeLine; decide), fun r hr => k _ r (same_new hr) upd_same⟩
  refine if_f (by show decide (V.int t' = V.int 0) = false; rw [dec_int]; exact decide_eq_false z') ?_
  rw [if_neg (by omega)] at k
  obtain ⟨p1, p2⟩ := P1 z
  obtain ⟨p3, p4⟩ := P2 z'
  have hd : 0 < b' * a := Int.mul_pos p4 p1
  have w1 := wa'.mul wb
  have w2 := wb'.mul wa
  have bb : both (low (a' * b) (b' * a)) = true := by
    rw [decide_eq_false z, decide_eq_false z'] at hgo
    exact hgo
  refine ⟨_, rfl, q, _, 3, _, rfl, rfl, SqT.of hq, rfl, _, rfl, p, _, 4, _, rfl, rfl, SqT.of hp, rfl, _, _, rfl, rfl, wa'.toMul wb (by decide), ?_⟩
  refine ⟨_, rfl, q, _, 4, _, rfl, rfl, SqT.of hq, rfl, _, rfl, p, _, 3, _, rfl, rfl, SqT.of hp, rfl, _, _, rfl, rfl, wb'.toMul wa (by decide), ?_⟩
  dsimp only [tNil]
  refine ⟨_, _, rfl, hd, w2.mono (by decide), fun H1 r s1 _ hr1 => ?_⟩
  refine ⟨r, _, _, rfl, hr1, low1_nonneg (Int.mul_nonneg (Int.le_of_lt p3) (Int.le_of_lt p2)) hd, (w1.low1 hd).mono (by decide), Int.le_of_lt (low2_pos hd), (w2.low2 hd).mono (by decide), fun _ H2 r2 s2 hr2 => ?_, fun e => ?_⟩
  · exact k H2 r2 (s1.trans s2) hr2
  · rw [show both ((low (a' * b) (b' * a)).1, (low (a' * b) (b' * a)).2) = true from bb] at e
    cases e
/-! ### _law_of_parts -/
def spOfP : Sp := fun vs H Q _ => ∃ (p q r : Addr) (u l n d a b : Int), vs = [.ref p, .ref q, .ref r] ∧ H p = some (.tup [.int u, .int l]) ∧ H q = some (.tup [.int n, .int d]) ∧ H r = some (.tup [.int a, .int b]) ∧
  Right (parts u l n d a b) ∧ Wide (parts u l n d a b) ∧ Wd 7000 n ∧ Wd 7000 d ∧ Wd 7000 a ∧ Wd 7000 b ∧ ∀ H' t, Same H H' → H' t = some (.tup (fiveV (form (parts u l n d a b)))) → Q (.ref t) H'
abbrev nOfP : List Str := ["_law_part", "_law_many", "_law_radix", "_law_mark", "_law_aloft", "_law_beneath"]
theorem scOfP : FnScope nOfP ["_law_part", "_law_many", "_law_radix"] (defScope sOfP) := ⟨rfl, rfl, rfl, by decide +kernel, rfl, by decide +kernel, by decide +kernel⟩
theorem ok_ofP {f fF : Addr} {fd fdF : FuncData} (F : Fun K "_law_of_parts" "_law_of_parts" sOfP f fd) (mI : mg "int" = none)
    (GF : FnOk P w K mg base CX0 3 fF fdF ["_law_upper", "_law_lower", "_law_mark", "_law_aloft", "_law_beneath"] spForm) (FF : Fns K mg fF fdF "_law_form" 25 ["_law_upper", "_law_lower", "_law_mark", "_law_aloft", "_law_beneath"]) :
    FnOk P w K mg base CX0 4 f fd ["_law_part", "_law_many", "_law_radix"] spOfP := by
  refine F.ok scOfP ?_ ?_
  · rintro vs H Q E ⟨p, q, r, u, l, n, d, a, b, rfl, _⟩
    rfl
  intro cdv A outer s H vs Q E hr h
  obtain ⟨p, q, r, u, l, n, d, a, b, rfl, hp, hq, hr3, R, W, wn, wd, wa, wb, k⟩ := h
  refine ⟨_, pss_cons (ps_set (i := 3) scOfP.nd rfl (Or.inl rfl) (pe_ix ix_list (pe_lst (pa_cons (pe_callTy call_int1 (by rfl) mI (by decide +kernel) (pa_cons (pe_cmpR op_gt (pe_ix ix_tup (pv 1) pe_int (fun _ _ => rfl)) pe_int (nomark _)) pa_nil)) (pa_cons (pe_un un_neg pe_int) pa_nil)))
      (pe_callTy call_int1 (by rfl) mI (by decide +kernel) (pa_cons (pe_cmpR op_lt (pe_ix ix_tup (pv 1) pe_int (fun _ _ => rfl)) pe_int (nomark _)) pa_nil)) (fun _ _ => rfl)))
    (pss_cons (ps_par (i := 4) (j := 5) rfl scOfP.nd rfl rfl (by decide) rfl rfl (pa_cons (pe_op op_mulX (pe_op op_mulX (pe_ix ix_tup (pv 1) pe_int (fun _ _ => rfl)) (pe_ix ix_tup (pv 1) pe_int (fun _ _ => rfl))) (pe_ix ix_tup (pv 2) pe_int (fun _ _ => rfl)))
      (pa_cons (pe_op op_mulX (pe_op op_mulX (pe_ix ix_tup (pv 1) pe_int (fun _ _ => rfl)) (pe_ix ix_tup (pv 1) pe_int (fun _ _ => rfl))) (pe_ix ix_tup (pv 2) pe_int (fun _ _ => rfl))) pa_nil)) (by rfl))
    (pss_one (ps_ret (pe_call GF hr rfl FF.m FF.F.kp FF.b .nil pass0 (pa_cons (pe_ix ix_tup (pv 0) pe_int (fun _ _ => rfl)) (pa_cons (pe_ix ix_tup (pv 0) pe_int (fun _ _ => rfl)) (pa_cons (pv 3) (pa_cons (pv 4) (pa_cons (pv 5) pa_nil))))))))), ?_⟩
  refine ⟨_, rfl, q, _, 0, _, rfl, rfl, SqT.of hq, rfl, _, _, rfl, rfl, .inr ⟨_, rfl, 1, rfl, (by show 2 ≤ sizeLine; decide), fun z hz => ?_⟩⟩
  refine ⟨_, rfl, q, _, 0, _, rfl, rfl, SqT.of (same_new hz _ _ hq), rfl, _, _, rfl, rfl, .inr ⟨_, rfl, z, _, _, V.int (sgI n), rfl, rfl, SqL.of upd_same, ?_, ?_⟩⟩
  · unfold sgI
    by_cases h1 : 0 < n
    · rw [if_pos h1, decide_eq_true h1, decide_eq_false (show ¬ n < 0 by omega)]
      rfl
    · rw [if_neg h1, decide_eq_false h1]
      by_cases h2 : n < 0
      · rw [if_pos h2, decide_eq_true h2]
        rfl
      · rw [if_neg h2, decide_eq_false h2]
        rfl
  have s1 := same_new (o := HO.lst [V.int (b2i (decide (0 < n))), V.int (-1)]) hz
  have P := s1 _ _ hp
  have Q' := s1 _ _ hq
  have R3 := s1 _ _ hr3
  refine ⟨_, rfl, q, _, 0, _, rfl, rfl, SqT.of Q', rfl, _, rfl, q, _, 0, _, rfl, rfl, SqT.of Q', rfl, _, _, rfl, rfl, wn.toMul wn (by decide), _, rfl, r, _, 0, _, rfl, rfl, SqT.of R3, rfl, _, _, rfl, rfl, (wn.mul wn).toMul wa (by decide), ?_⟩
  refine ⟨_, rfl, q, _, 1, _, rfl, rfl, SqT.of Q', rfl, _, rfl, q, _, 1, _, rfl, rfl, SqT.of Q', rfl, _, _, rfl, rfl, wd.toMul wd (by decide), _, rfl, r, _, 1, _, rfl, rfl, SqT.of R3, rfl, _, _, rfl, rfl, (wd.mul wd).toMul wb (by decide), _, _, rfl, ?_⟩
  refine ⟨_, rfl, p, _, 0, _, rfl, rfl, SqT.of P, rfl, _, rfl, p, _, 1, _, rfl, rfl, SqT.of P, rfl, _, rfl, _, rfl, _, rfl, ?_⟩
  dsimp only [tNil]
  exact ⟨parts u l n d a b, rfl, R, W, fun H2 t s2 ht => k H2 t (s1.trans s2) ht⟩
end
end PH
namespace PH
open PySem PySem.Spec PyProof.Rows L2
open C8 (pss_cut tCut)
abbrev sAdded : Stmt := topS 28
abbrev sTurned : Stmt := topS 9999
section
variable {P : Program} {w : World} {K : PySem.W.Frag} {mg : Str → Option Value} {base : Heap} {C NX : Addr}
abbrev GRatio (P : Program) (w : World) (K : PySem.W.Frag) (mg : Str → Option Value) (base : Heap) (f : Addr) (fd : FuncData) : Prop := FnOk P w K mg base CX0 3 f fd ["_law_one", "_law_theirs"] spRatio
abbrev FRatio (K : PySem.W.Frag) (mg : Str → Option Value) (f : Addr) (fd : FuncData) : Prop := Fns K mg f fd "_law_ratio" 26 ["_law_one", "_law_theirs"]
abbrev GOfP (P : Program) (w : World) (K : PySem.W.Frag) (mg : Str → Option Value) (base : Heap) (f : Addr) (fd : FuncData) : Prop := FnOk P w K mg base CX0 4 f fd ["_law_part", "_law_many", "_law_radix"] spOfP
abbrev FOfP (K : PySem.W.Frag) (mg : Str → Option Value) (f : Addr) (fd : FuncData) : Prop := Fns K mg f fd "_law_of_parts" 27 ["_law_part", "_law_many", "_law_radix"]
theorem ne0 {t : Int} : (!decide (V.int t = V.int 0)) = decide (t ≠ 0) := by
  rw [dec_int]
  by_cases z : t = 0
  · rw [decide_eq_true z, decide_eq_false (fun e => e z)]; rfl
  · rw [decide_eq_false z, decide_eq_true z]; rfl
theorem cut3 : ¬ (HT.sIx 5 0 (some 3) = 0 ∧ HT.sIx 5 5 none = 5) := by decide
/-! ### _law_added -/
def spAdded : Sp := fun vs H Q _ => ∃ (p q : Addr) (f f' : Five), vs = [.ref p, .ref q] ∧ H p = some (.tup (fiveV f)) ∧ H q = some (.tup (fiveV f')) ∧ Canon f ∧ Canon f' ∧ Bd 2000 900 f ∧ Bd 2000 900 f' ∧ go f f' = true ∧
  ∀ H' t, Same H H' → H' t = some (.tup (fiveV (form (lsum f f')))) → Q (.ref t) H'
abbrev nAdded : List Str := ["_law_one", "_law_theirs", "_law_radix", "_law_upper", "_law_lower", "_law_part"]
theorem scAdded : FnScope nAdded ["_law_one", "_law_theirs"] (defScope sAdded) := ⟨rfl, rfl, rfl, by decide +kernel, rfl, by decide +kernel, by decide +kernel⟩
theorem lroots_bd {T T' a a' M : Nat} {f f' : Five} (C : Canon f) (C' : Canon f') (h : Bd T a f) (h' : Bd T' a' f') (h1 : a ≤ M) (h2 : a' ≤ M) (h3 : 1 ≤ a) :
    Wd (M + M) (lradix f f').1 ∧ Wd (M + M) (lradix f f').2 ∧ Wd (a + a') (lratio f f').1 ∧ Wd (a + a') (lratio f f').2 := by
  unfold lradix lratio
  by_cases z : f.2.2.1 = 0
  · rw [if_pos z, if_pos (.inl z)]
    exact ⟨h'.x.mono (by omega), h'.y.mono (by omega), wd_one.mono (by omega), wd_one.mono (by omega)⟩
  · rw [if_neg z]
    by_cases z' : f'.2.2.1 = 0
    · rw [if_pos (.inr z')]
      exact ⟨h.x.mono (by omega), h.y.mono (by omega), wd_one.mono (by omega), wd_one.mono (by omega)⟩
    · rw [if_neg (by omega)]
      obtain ⟨r1, r2⟩ := ratio_bd C C' h h' z z'
      exact ⟨h.x.mono (by omega), h.y.mono (by omega), r1, r2⟩
theorem lroots_pos {f f' : Five} (C : Canon f) (C' : Canon f') (h : go f f' = true) : 0 ≤ (lradix f f').1 ∧ 0 < (lradix f f').2 ∧ 0 < (lratio f f').2 := by
  have R := canon_right C
  have R' := canon_right C'
  have q := roots_pos C C' h
  unfold roots at q
  unfold lradix lratio
  by_cases z : f.2.2.1 = 0
  · rw [if_pos z] at q
    rw [if_pos z, if_pos (.inl z)]
    exact q
  · rw [if_neg z] at q
    rw [if_neg z]
    by_cases z' : f'.2.2.1 = 0
    · rw [if_pos z'] at q
      rw [if_pos (.inr z')]
      exact q
    · rw [if_neg z'] at q
      rw [if_neg (by omega)]
      exact q
theorem ok_added {f fR fP : Addr} {fd fdR fdP : FuncData} (F : Fun K "_law_added" "_law_added" sAdded f fd) (GR : GRatio P w K mg base fR fdR) (FR : FRatio K mg fR fdR) (GP : GOfP P w K mg base fP fdP) (FP : FOfP K mg fP fdP) :
    FnOk P w K mg base CX0 5 f fd ["_law_one", "_law_theirs"] spAdded := by
  refine F.ok scAdded ?_ ?_
  · rintro vs H Q E ⟨p, q, f, f', rfl, _⟩
    rfl
  intro cdv A outer s H vs Q E hr h
  obtain ⟨p, q, f, f', rfl, hp, hq, C1, C2, B1, B2, hgo, k⟩ := h
  refine ⟨_, pss_cut (ps_set (i := 2) scAdded.nd rfl (Or.inl rfl) (pe_ifExp (pt_cmpR op_ne (pe_ix ix_tup (pv 0) pe_int (fun _ _ => rfl)) pe_int (nomark _)) (pe_slice sl_tup (pv 0) (po_some pe_int) po_none) (pe_slice sl_tup (pv 1) (po_some pe_int) po_none)))
    (pss_cons (ps_asg (pe_call GR (hr.mono (by decide)) rfl FR.m FR.F.kp FR.b .nil pass0 (pa_cons (pv 0) (pa_cons (pv 1) pa_nil))) (pg_tup rfl (pgs_cons (pg_name (i := 3) scAdded.nd rfl (Or.inl rfl)) (pgs_cons (pg_name (i := 4) scAdded.nd rfl (Or.inl rfl)) pgs_nil))))
    (pss_cons (ps_set (i := 5) scAdded.nd rfl (Or.inl rfl) (pe_tup (pa_cons (pe_op op_add (pe_op op_mulX (pe_ix ix_tup (pv 0) pe_int (fun _ _ => rfl)) (pe_ix ix_tup (pv 1) pe_int (fun _ _ => rfl))) (pe_op op_mulX (pe_ix ix_tup (pv 1) pe_int (fun _ _ => rfl)) (pe_ix ix_tup (pv 0) pe_int (fun _ _ => rfl))))
      (pa_cons (pe_op op_mulX (pe_ix ix_tup (pv 0) pe_int (fun _ _ => rfl)) (pe_ix ix_tup (pv 1) pe_int (fun _ _ => rfl))) pa_nil))))
    (pss_one (ps_ret (pe_call GP hr rfl FP.m FP.F.kp FP.b .nil pass0 (pa_cons (pv 5) (pa_cons (pe_tup (pa_cons (pe_op op_add (pe_op op_mulX (pe_ix ix_tup (pv 0) pe_int (fun _ _ => rfl)) (pv 4)) (pe_op op_mulX (pe_ix ix_tup (pv 1) pe_int (fun _ _ => rfl)) (pv 3))) (pa_cons (pv 4) pa_nil))) (pa_cons (pv 2) pa_nil)))))))), ?_⟩
  have R1 := canon_right C1
  have R2 := canon_right C2
  refine ⟨fun σ' H' => ∃ r : Addr, σ' = [some (.ref p), some (.ref q), some (.ref r), none, none, none] ∧ Same H H' ∧ H' r = some (.tup [.int (lradix f f').1, .int (lradix f f').2]), ?_, ?_⟩
  · refine ⟨_, rfl, p, _, 2, _, rfl, rfl, SqT.of hp, rfl, rfl, _, rfl, ?_⟩
    unfold lradix
    by_cases z : f.2.2.1 = 0
    · refine if_f (by rw [ne0]; exact decide_eq_false (fun e => e z)) ?_
      rw [if_pos z]
      exact ⟨_, rfl, 3, rfl, q, _, rfl, SqT.of hq, cut3, fun r hr => ⟨r, rfl, same_new hr, upd_same⟩⟩
    · refine if_t (by rw [ne0]; exact decide_eq_true z) ?_
      rw [if_neg z]
      exact ⟨_, rfl, 3, rfl, p, _, rfl, SqT.of hp, cut3, fun r hr => ⟨r, rfl, same_new hr, upd_same⟩⟩
  rintro σ1 H1 ⟨r, rfl, s1, hr1⟩
  refine ⟨_, rfl, _, rfl, ?_⟩
  dsimp only [tNil]
  refine ⟨p, q, f, f', rfl, s1 _ _ hp, s1 _ _ hq, C1, C2, B1.wds (by decide) (by decide), B2.wds (by decide) (by decide), hgo, fun H2 t s2 ht => ?_⟩
  refine ⟨t, _, rfl, SqT.of ht, rfl, _, _, rfl, _, _, rfl, rfl, ?_⟩
  obtain ⟨w1, w2, w3, w4⟩ := lroots_bd C1 C2 B1 B2 (Nat.le_refl 900) (Nat.le_refl 900) (by decide)
  obtain ⟨q1, q2, q3⟩ := lroots_pos C1 C2 hgo
  have s12 := s1.trans s2
  have Hp' := s12 _ _ hp
  have Hq' := s12 _ _ hq
  refine ⟨_, rfl, p, _, 0, _, rfl, rfl, SqT.of Hp', rfl, _, rfl, q, _, 1, _, rfl, rfl, SqT.of Hq', rfl, _, _, rfl, rfl, B1.u.toMul B2.l (by decide), _, rfl, q, _, 0, _, rfl, rfl, SqT.of Hq', rfl, _, rfl, p, _, 1, _, rfl, rfl, SqT.of Hp', rfl, _, _, rfl, rfl, B2.u.toMul B1.l (by decide), _, _, rfl, rfl, ?_⟩
  refine ⟨_, rfl, p, _, 1, _, rfl, rfl, SqT.of Hp', rfl, _, rfl, q, _, 1, _, rfl, rfl, SqT.of Hq', rfl, _, _, rfl, rfl, B1.l.toMul B2.l (by decide), (by show 2 ≤ sizeLine; decide), fun v hv => ?_⟩
  have s3 := same_new (o := HO.tup [V.int (f.1 * f'.2.1 + f'.1 * f.2.1), V.int (f.2.1 * f'.2.1)]) hv
  refine ⟨_, rfl, _, rfl, p, _, 2, _, rfl, rfl, SqT.of (s3 _ _ Hp'), rfl, _, rfl, _, _, rfl, rfl, (Wd.one R1.m).toMul w4 (by decide), _, rfl, q, _, 2, _, rfl, rfl, SqT.of (s3 _ _ Hq'), rfl, _, rfl, _, _, rfl, rfl, (Wd.one R2.m).toMul w3 (by decide), _, _, rfl, rfl, _, rfl, (by show 2 ≤ sizeLine; decide), fun x hx => ?_⟩
  have s4 := same_new (o := HO.tup [V.int (f.2.2.1 * (lratio f f').2 + f'.2.2.1 * (lratio f f').1), V.int (lratio f f').2]) hx
  refine ⟨_, rfl, ?_⟩
  dsimp only [tNil]
  have n := ((Wd.one R1.m).mul w4).add ((Wd.one R2.m).mul w3)
  have Rp : Right (lsum f f') := parts_right (Int.mul_pos C1.l C2.l) q3 q1 q2
  have W : Wide (lsum f f') := ⟨((B1.u.mul B2.l).add (B2.u.mul B1.l)).mono (by decide), (B1.l.mul B2.l).mono (by decide), ((n.mul n).mul w1).mono (by decide), ((w4.mul w4).mul w2).mono (by decide)⟩
  refine ⟨v, x, r, _, _, _, _, _, _, rfl, s4 _ _ upd_same, upd_same, s4 _ _ (s3 _ _ (s2 _ _ hr1)), Rp, W, n.mono (by decide), w4.mono (by decide), w1.mono (by decide), w2.mono (by decide), fun H5 y s5 hy => ?_⟩
  exact k H5 y (((s12.trans s3).trans s4).trans s5) hy
end
end PH
namespace PH
open PySem PySem.Spec PyProof.Rows L2
abbrev sEq : Stmt := inClass (topS 12) 1
section
variable {P : Program} {w : World} {K : PySem.W.Frag} {mg : Str → Option Value} {base : Heap} {C NX : Addr}
/-! ### ==, of numbers that are alike -/
def SameNum (C : Addr) : Addr → Addr → Hp → Prop := fun x y H => ∃ f : Five, NumAt C H x f ∧ NumAt C H y f
theorem scEq : FnScope ["self", "other"] ["self", "other"] (defScope sEq) := ⟨rfl, rfl, rfl, by decide +kernel, rfl, by decide +kernel, by decide +kernel⟩
theorem ok_eqN {f : Addr} {fd : FuncData} (F : Fun K "__eq__" "Exact.__eq__" sEq f fd) (T : TEx K mg C) (I : TIs mg) : FnOk P w K mg base CX0 1 f fd ["self", "other"] (spEq (SameNum C)) := by
  refine F.ok scEq ?_ ?_
  · rintro vs H Q E ⟨x, y, rfl, _⟩
    rfl
  intro cdv A outer s H vs Q E hr h
  obtain ⟨x, y, rfl, ⟨f, ⟨dx, hx⟩, ⟨dy, hy⟩⟩, kk⟩ := h
  have k := kk H Ext.rfl'
  refine ⟨_, pss_one (ps_ret (pe_and (pe_callB call_isi (by rfl) I.is (by decide +kernel) (pa_cons (pv 1) (pa_cons (pe_glob rfl T.mgC (show RelV (.ref C) (.ref C) from rfl)) pa_nil)))
    (pe_and (pe_cmpR op_eq (pe_fld (pv 0) rfl) (pe_fld (pv 1) rfl) (nomark _)) (pe_and (pe_cmpR op_eq (pe_fld (pv 0) rfl) (pe_fld (pv 1) rfl) (nomark _)) (pe_and (pe_cmpR op_eq (pe_fld (pv 0) rfl) (pe_fld (pv 1) rfl) (nomark _))
    (pe_and (pe_cmpR op_eq (pe_fld (pv 0) rfl) (pe_fld (pv 1) rfl) (nomark _)) (pe_one (pe_cmpR op_eq (pe_fld (pv 0) rfl) (pe_fld (pv 1) rfl) (nomark _))))))))), ?_⟩
  refine ⟨_, rfl, V.ref y, V.ref C, _, _, true, rfl, .own C, .base (.ins hy T.cl T.ha T.hn T.htk T.hm), T.kc, true, rfl, iteT ?_⟩
  have e : ∀ i : Int, decide (V.int i = V.int i) = true := fun i => decide_eq_true rfl
  refine ⟨_, rfl, x, C, dx, _, _, rfl, hx, T.cl, T.nT, (by rfl), _, rfl, y, C, dy, _, _, rfl, hy, T.cl, T.nT, (by rfl), rfl, true, congrArg V.bl (e _), iteT ?_⟩
  refine ⟨_, rfl, x, C, dx, _, _, rfl, hx, T.cl, T.nB, (by rfl), _, rfl, y, C, dy, _, _, rfl, hy, T.cl, T.nB, (by rfl), rfl, true, congrArg V.bl (e _), iteT ?_⟩
  refine ⟨_, rfl, x, C, dx, _, _, rfl, hx, T.cl, T.nS, (by rfl), _, rfl, y, C, dy, _, _, rfl, hy, T.cl, T.nS, (by rfl), rfl, true, congrArg V.bl (e _), iteT ?_⟩
  refine ⟨_, rfl, x, C, dx, _, _, rfl, hx, T.cl, T.nO, (by rfl), _, rfl, y, C, dy, _, _, rfl, hy, T.cl, T.nO, (by rfl), rfl, true, congrArg V.bl (e _), iteT ?_⟩
  refine ⟨_, rfl, x, C, dx, _, _, rfl, hx, T.cl, T.nU, (by rfl), _, rfl, y, C, dy, _, _, rfl, hy, T.cl, T.nU, (by rfl), rfl, ?_⟩
  show Q (V.bl (decide (V.int f.2.2.2.2 = V.int f.2.2.2.2))) H
  rw [e]
  exact k
end
end PH
namespace PH
open PySem PySem.Spec PyProof.Rows L2
open C8 (pss_cut tCut)
abbrev sLike : Stmt := topS 31
section
variable {P : Program} {w : World} {K : PySem.W.Frag} {mg : Str → Option Value} {base : Heap} {C NX : Addr}
/-! ### _law_like -/
structure Like (f g : Five) : Prop where
  R : Right g
  u : g.1.natAbs ≤ 999999
  l : g.2.1 ≤ 999999
  x : g.2.2.2.1 ≤ 999999
  y : g.2.2.2.2 ≤ 80999919
  e : ∃ a b : Int, 0 < a ∧ 0 < b ∧ g.2.2.2.1 = f.2.2.2.1 * a * a ∧ g.2.2.2.2 = f.2.2.2.2 * b * b
  z : f.2.2.1 = 0 → g.2.2.1 = 0
def spLike : Sp := fun vs H Q _ => ∃ (d c p : Addr) (f : Five), vs = [.ref d, .ref p] ∧ Deck H d c ∧ H p = some (.tup (fiveV f)) ∧ Right f ∧ Small f ∧
  ∀ H' t g, Deck H' d c → Kept d c H H' → H' t = some (.tup (fiveV g)) → Like (form f) g → Q (.ref t) H'
abbrev nLike : List Str := ["_law_deck_here", "_law_five_here", "_law_upper", "_law_lower", "_law_mark", "_law_aloft", "_law_beneath", "_law_many", "_law_by", "_law_first"]
theorem scLike : FnScope nLike ["_law_deck_here", "_law_five_here"] (defScope sLike) := ⟨rfl, rfl, rfl, by decide +kernel, rfl, by decide +kernel, by decide +kernel⟩
theorem fits_bd {f : Five} (R : Right f) (h : Fits f) : Bd 32 10 f := by
  have h1 := h.u
  have h2 := h.l
  have h3 := h.a
  have h4 := h.b
  have r1 := R.l
  have r2 := R.a
  have r3 := R.b
  exact ⟨by unfold Wd; omega, by unfold Wd; omega, by unfold Wd; omega, by unfold Wd; omega⟩
theorem small_wide {f : Five} (R : Right f) (h : Small f) : Wide f := by
  have h1 := h.u
  have h2 := h.l
  have h3 := h.a
  have h4 := h.b
  have r1 := R.l
  have r2 := R.a
  have r3 := R.b
  have b : Bd 32 10 f := ⟨by unfold Wd; omega, by unfold Wd; omega, by unfold Wd; omega, by unfold Wd; omega⟩
  exact b.wide (by decide) (by decide)
theorem wd_of {x : Int} (h : x.natAbs < 1073741824) : Wd 30 x := h
theorem ok_like {f fD fV fF : Addr} {fd fdD fdV fdF : FuncData} (F : Fun K "_law_like" "_law_like" sLike f fd) (mI : mg "int" = none) (GD : GDraw P w K mg base fD fdD) (FD : Fns K mg fD fdD "_law_draw" 21 ["_law_deck_here", "_law_many"])
    (GV : FnOk P w K mg base CX0 3 fV fdV ["_law_deck_here"] spFive) (FV : Fns K mg fV fdV "_law_five" 30 ["_law_deck_here"])
    (GF : FnOk P w K mg base CX0 3 fF fdF ["_law_upper", "_law_lower", "_law_mark", "_law_aloft", "_law_beneath"] spForm) (FF : Fns K mg fF fdF "_law_form" 25 ["_law_upper", "_law_lower", "_law_mark", "_law_aloft", "_law_beneath"]) :
    FnOk P w K mg base CX0 4 f fd ["_law_deck_here", "_law_five_here"] spLike := by
  refine F.ok scLike ?_ ?_
  · rintro vs H Q E ⟨d, c, p, f, rfl, _⟩
    rfl
  intro cdv A outer s H vs Q E hr h
  obtain ⟨d, c, p, f, rfl, D, hp, R, S, k⟩ := h
  have hr1 : Room 1 _ := hr.mono (by decide)
  refine ⟨_, pss_cons (ps_asg (pe_call GV hr rfl FV.m FV.F.kp FV.b .nil pass0 (pa_cons (pv 0) pa_nil)) (pg_tup rfl (pgs_cons (pg_name (i := 2) scLike.nd rfl (Or.inl rfl)) (pgs_cons (pg_name (i := 3) scLike.nd rfl (Or.inl rfl)) (pgs_cons (pg_name (i := 4) scLike.nd rfl (Or.inl rfl)) (pgs_cons (pg_name (i := 5) scLike.nd rfl (Or.inl rfl)) (pgs_cons (pg_name (i := 6) scLike.nd rfl (Or.inl rfl)) pgs_nil)))))))
    (pss_cons (ps_par (i := 7) (j := 8) rfl scLike.nd rfl rfl (by decide) rfl rfl (pa_cons (pe_op op_add pe_int (pe_call GD hr1 rfl FD.m FD.F.kp FD.b .nil pass0 (pa_cons (pv 0) (pa_cons pe_int pa_nil)))) (pa_cons (pe_op op_add pe_int (pe_call GD hr1 rfl FD.m FD.F.kp FD.b .nil pass0 (pa_cons (pv 0) (pa_cons pe_int pa_nil)))) pa_nil)) (by rfl))
    (pss_cons (ps_set (i := 9) scLike.nd rfl (Or.inl rfl) (pe_call GF hr rfl FF.m FF.F.kp FF.b .nil pass0 (pa_cons (pe_ix ix_tup (pv 1) pe_int (fun _ _ => rfl)) (pa_cons (pe_ix ix_tup (pv 1) pe_int (fun _ _ => rfl)) (pa_cons (pe_ix ix_tup (pv 1) pe_int (fun _ _ => rfl)) (pa_cons (pe_ix ix_tup (pv 1) pe_int (fun _ _ => rfl)) (pa_cons (pe_ix ix_tup (pv 1) pe_int (fun _ _ => rfl)) pa_nil)))))))
    (pss_cut (ps_if (pt_cmpR op_gt (pe_op op_mulX (pe_op op_mulX (pe_ix ix_tup (pv 9) pe_int (fun _ _ => rfl)) (pv 7)) (pv 7)) pe_int (nomark _)) (pss_one (ps_set (i := 7) scLike.nd rfl (Or.inl rfl) pe_int)) pss_nil)
    (pss_cons (ps_set (i := 4) scLike.nd rfl (Or.inl rfl) (pe_ix ix_list (pe_lst (pa_cons (pv 4) (pa_cons pe_int pa_nil))) (pe_callTy call_int1 (by rfl) mI (by decide +kernel) (pa_cons (pe_cmpR op_eq (pe_ix ix_tup (pv 9) pe_int (fun _ _ => rfl)) pe_int (nomark _)) pa_nil)) (fun _ _ => rfl)))
    (pss_one (ps_ret (pe_tup (pa_cons (pv 2) (pa_cons (pv 3) (pa_cons (pv 4) (pa_cons (pe_op op_mulX (pe_op op_mulX (pe_ix ix_tup (pv 9) pe_int (fun _ _ => rfl)) (pv 7)) (pv 7)) (pa_cons (pe_op op_mulX (pe_op op_mulX (pe_ix ix_tup (pv 9) pe_int (fun _ _ => rfl)) (pv 8)) (pv 8)) pa_nil)))))))))))), ?_⟩
  have Cf := canon_form R
  have Ff := form_fits R S
  have Rf := canon_right Cf
  refine ⟨_, rfl, ?_⟩
  dsimp only [tNil, tC, tCons]
  refine ⟨d, c, rfl, D, fun H1 t1 g D1 k1 ht1 Rg Sg => ?_⟩
  refine ⟨t1, _, rfl, SqT.of ht1, rfl, _, _, rfl, _, _, rfl, _, _, rfl, _, _, rfl, _, _, rfl, rfl, ?_⟩
  refine ⟨_, rfl, ?_⟩
  dsimp only [tNil, tC, tCons]
  refine ⟨d, c, 9, rfl, D1, by decide, by decide, fun H2 m D2 k2 m0 m1 => ?_⟩
  refine ⟨_, _, rfl, rfl, _, rfl, ?_⟩
  dsimp only [tNil, tC, tCons]
  refine ⟨d, c, 9, rfl, D2, by decide, by decide, fun H3 b D3 k3 b0 b1 => ?_⟩
  have K3 := (k1.trans k2).trans k3
  have hp3 := K3.tup D hp
  refine ⟨_, _, rfl, rfl, _, _, rfl, ?_⟩
  refine ⟨_, rfl, p, _, 0, _, rfl, rfl, SqT.of hp3, rfl, _, rfl, p, _, 1, _, rfl, rfl, SqT.of hp3, rfl, _, rfl, p, _, 2, _, rfl, rfl, SqT.of hp3, rfl, _, rfl, p, _, 3, _, rfl, rfl, SqT.of hp3, rfl, _, rfl, p, _, 4, _, rfl, rfl, SqT.of hp3, rfl, ?_⟩
  dsimp only [tNil, tC, tCons]
  refine ⟨f, rfl, R, small_wide R S, fun H4 x s4 hx => ?_⟩
  have fa := Ff.a
  have fb := Ff.b
  have ra := Rf.a
  have rb := Rf.b
  have wa : Wd 30 (form f).2.2.2.1 := by unfold Wd; omega
  have wb : Wd 30 (form f).2.2.2.2 := by unfold Wd; omega
  have wm : Wd 30 (1 + m) := by unfold Wd; omega
  have wn : Wd 30 (1 + b) := by unfold Wd; omega
  have D4 := D3.same s4
  have K4 := K3.trans (Kept.of s4)
  refine ⟨fun σ' H' => H' = H4 ∧ ∃ n : Int, σ' = [some (.ref d), some (.ref p), some (.int g.1), some (.int g.2.1), some (.int g.2.2.1), some (.int g.2.2.2.1), some (.int g.2.2.2.2), some (.int n), some (.int (1 + b)), some (.ref x)] ∧ 0 < n ∧ Wd 30 n ∧ (form f).2.2.2.1 * n * n ≤ 999999, ?_, ?_⟩
  · refine ⟨_, rfl, x, _, 3, _, rfl, rfl, SqT.of hx, rfl, _, rfl, _, _, rfl, rfl, wa.toMul wm (by decide), _, rfl, _, _, rfl, rfl, (wa.mul wm).toMul wm (by decide), _, _, rfl, rfl, _, rfl, ?_⟩
    by_cases z : 999998 < (form f).2.2.2.1 * (1 + m) * (1 + m)
    · refine if_t (decide_eq_true z) ?_
      exact ⟨rfl, 1, rfl, by decide, by unfold Wd; decide, by omega⟩
    · refine if_f (decide_eq_false z) ?_
      exact ⟨rfl, 1 + m, rfl, by omega, wm, by omega⟩
  rintro σ5 H5 ⟨rfl, n, rfl, n0, wn5, n5⟩
  refine ⟨_, rfl, (by show 2 ≤ sizeLine; decide), fun v hv => ?_⟩
  have s6 := same_new (o := HO.lst [V.int g.2.2.1, V.int 0]) hv
  have hx6 := s6 _ _ hx
  refine ⟨_, rfl, x, _, 2, _, rfl, rfl, SqT.of hx6, rfl, rfl, .inr ⟨_, rfl, v, _, _, V.int (if (form f).2.2.1 = 0 then 0 else g.2.2.1), rfl, rfl, SqL.of upd_same, ?_, ?_⟩⟩
  · by_cases z : (form f).2.2.1 = 0
    · rw [if_pos z, show decide (V.int (form f).2.2.1 = V.int 0) = true by rw [dec_int]; exact decide_eq_true z]
      rfl
    · rw [if_neg z, show decide (V.int (form f).2.2.1 = V.int 0) = false by rw [dec_int]; exact decide_eq_false z]
      rfl
  refine ⟨_, rfl, _, rfl, _, rfl, _, rfl, x, _, 3, _, rfl, rfl, SqT.of hx6, rfl, _, rfl, _, _, rfl, rfl, wa.toMul wn5 (by decide), _, rfl, _, _, rfl, rfl, (wa.mul wn5).toMul wn5 (by decide), ?_⟩
  refine ⟨_, rfl, x, _, 4, _, rfl, rfl, SqT.of hx6, rfl, _, rfl, _, _, rfl, rfl, wb.toMul wn (by decide), _, rfl, _, _, rfl, rfl, (wb.mul wn).toMul wn (by decide), (by show 5 ≤ sizeLine; decide), fun y hy => ?_⟩
  have s7 := same_new (o := HO.tup (fiveV (g.1, g.2.1, (if (form f).2.2.1 = 0 then 0 else g.2.2.1), (form f).2.2.2.1 * n * n, (form f).2.2.2.2 * (1 + b) * (1 + b)))) hy
  have b9 : (1 + b) * (1 + b) ≤ 81 := Int.le_trans (Int.mul_le_mul_of_nonneg_left (show 1 + b ≤ 9 by omega) (by omega)) (by omega)
  have hbp : 0 < (1 + b) * (1 + b) := Int.mul_pos (by omega) (by omega)
  refine k _ y (g.1, g.2.1, (if (form f).2.2.1 = 0 then 0 else g.2.2.1), (form f).2.2.2.1 * n * n, (form f).2.2.2.2 * (1 + b) * (1 + b)) ((D4.same s6).same s7) (K4.trans ((Kept.of s6).trans (Kept.of s7))) upd_same ⟨⟨Rg.l, ?_, ?_, ?_⟩, Sg.u, Sg.l, n5, ?_, ⟨n, 1 + b, n0, by omega, rfl, rfl⟩, fun z => if_pos z⟩
  · dsimp only
    split
    · exact .inr (.inl rfl)
    · exact Rg.m
  · exact Int.mul_nonneg (Int.mul_nonneg ra (Int.le_of_lt n0)) (Int.le_of_lt n0)
  · exact Int.mul_pos (Int.mul_pos rb (by omega)) (by omega)
  · dsimp only
    rw [Int.mul_assoc]
    exact Int.le_trans (Int.mul_le_mul_of_nonneg_right fb (Int.le_of_lt hbp)) (by omega)
end
end PH
namespace PH
open PySem PySem.Spec PyProof.Rows L2
/-! ### signs -/
variable {r q m q' m' : Rat} {f f' h : Five}
/-- the law's own sign -/
def lsgn (f : Five) : Int := if f.2.2.1 = 0 ∨ lmark f.1 = f.2.2.1 then lmark f.1 else if lmark f.1 = 0 then f.2.2.1 else if f.1 * f.1 * f.2.2.2.2 < f.2.2.2.1 * f.2.1 * f.2.1 then f.2.2.1 else lmark f.1
theorem rad_quo (C : Canon f) (hs : f.2.2.1 ≠ 0) : f.1 * f.1 * f.2.2.2.2 ≠ f.2.2.2.1 * f.2.1 * f.2.1 := fun e => by
  obtain ⟨N, _⟩ := nonsq_rad C hs
  have R := canon_right C
  have l0 := cast_ne R.l
  have b0 := cast_ne R.b
  refine N.no (quo f) ?_
  have e' : (f.1 : Rat) * f.1 * f.2.2.2.2 = (f.2.2.2.1 : Rat) * f.2.1 * f.2.1 := by
    have := congrArg (fun z : Int => (z : Rat)) e
    simpa only [Rat.intCast_mul] using this
  unfold quo rad
  grind
theorem lsgn_eq (C : Canon f) : lsgn f = sgnF f := by
  have R := canon_right C
  have hl := R.l
  have hx := R.a
  have hb := R.b
  unfold lsgn sgnF
  rw [lmark_eq, Int.mul_assoc f.2.2.2.1 f.2.1 f.2.1]
  have uu : 0 ≤ f.1 * f.1 := by
    rcases Int.le_total 0 f.1 with k | k
    · exact Int.mul_nonneg k k
    · exact Int.mul_nonneg_of_nonpos_of_nonpos k k
  have ll : 0 ≤ f.2.2.2.1 * (f.2.1 * f.2.1) := Int.mul_nonneg hx (Int.mul_nonneg (Int.le_of_lt hl) (Int.le_of_lt hl))
  have ub : 0 ≤ f.1 * f.1 * f.2.2.2.2 := Int.mul_nonneg uu (Int.le_of_lt hb)
  by_cases z : f.2.2.1 = 0
  · rw [if_pos (.inl z)]
    rcases C.m with ⟨_, a0, b1⟩ | ⟨h, _⟩
    · rw [a0, b1, Int.zero_mul, Int.mul_one]
      split
      · rfl
      · rename_i h
        have : f.1 = 0 := by
          rcases Int.lt_trichotomy f.1 0 with k | k | k
          · have := Int.mul_pos_of_neg_of_neg k k
            omega
          · exact k
          · have := Int.mul_pos k k
            omega
        rw [this, z]
        rfl
    · rcases h with h | h <;> omega
  · by_cases z1 : sgI f.1 = f.2.2.1
    · rw [if_pos (.inr z1)]
      split
      · rfl
      · exact z1
    · rw [if_neg (fun h => h.elim z z1)]
      by_cases z2 : sgI f.1 = 0
      · rw [if_pos z2]
        have : f.1 = 0 := by
          unfold sgI at z2
          split at z2
          · omega
          · split at z2 <;> omega
        rw [if_neg (by rw [this, Int.zero_mul, Int.zero_mul]; omega)]
      · rw [if_neg z2]
        have ne := rad_quo C z
        rw [Int.mul_assoc f.2.2.2.1 f.2.1 f.2.1] at ne
        by_cases k : f.2.2.2.1 * (f.2.1 * f.2.1) < f.1 * f.1 * f.2.2.2.2
        · rw [if_pos k, if_neg (by omega)]
        · rw [if_neg k, if_pos (by omega)]
theorem sgI_neg (n : Int) : sgI (0 - n) = - sgI n := by
  unfold sgI
  split <;> split <;> (try split) <;> (try split) <;> omega
theorem sgnF_neg (f : Five) : sgnF (neg f) = - sgnF f := by
  unfold sgnF neg
  dsimp only
  have e : (0 - f.1) * (0 - f.1) = f.1 * f.1 := by rw [Int.zero_sub, Int.neg_mul_neg]
  rw [e]
  split
  · exact sgI_neg _
  · omega
/-! ### numbers of one root -/
structure Nu (r : Rat) (f : Five) (q m : Rat) : Prop where
  N : NonSq r
  C : Canon f
  h : Is r f q m
theorem Fam.nu (h : Fam r f) : ∃ q m, Nu r f q m := by
  obtain ⟨q, m, i⟩ := h.is
  exact ⟨q, m, h.N, h.C, i⟩
theorem Nu.fam (h : Nu r f q m) : Fam r f := ⟨h.N, h.C, q, m, h.h⟩
theorem Nu.go (h : Nu r f q m) (h' : Nu r f' q' m') : Go r f f' q m q' m' := ⟨h.N, h.C, h'.C, h.h, h'.h⟩
theorem Nu.neg (h : Nu r f q m) : Nu r (neg f) (-q) (-m) := ⟨h.N, canon_neg h.C, is_neg h.C h.h⟩
theorem Nu.sum (h : Nu r f q m) (h' : Nu r f' q' m') : Nu r (form (fsum f f')) (q + q') (m + m') := by
  obtain ⟨R, i⟩ := fsum_is h.N h.C h'.C h.h h'.h
  exact ⟨h.N, canon_form R, is_is h.N R i⟩
theorem Nu.prod (h : Nu r f q m) (h' : Nu r f' q' m') : Nu r (form (fprod f f')) (q * q' + m * m' * r) (q * m' + q' * m) := by
  obtain ⟨R, i⟩ := fprod_is h.N h.C h'.C h.h h'.h
  exact ⟨h.N, canon_form R, is_is h.N R i⟩
theorem Nu.eq (h : Nu r f q m) (h' : Nu r f' q' m') (e1 : q = q') (e2 : m = m') : f = f' := by
  subst e1 e2
  have := is_same h.N (canon_right h.C) (canon_right h'.C) h.h h'.h
  rwa [form_canon h.C, form_canon h'.C] at this
theorem nu_nil (N : NonSq r) : Nu r (0, 1, 0, 0, 1) 0 0 := ⟨N, ⟨by decide, by decide, .inl ⟨rfl, rfl, rfl⟩⟩, .inl ⟨rfl, by unfold quo; simp; grind, rfl⟩⟩
/-- what is less than another one -/
def less (f f' : Five) : Bool := decide (sgnF (form (fsum f (PH.neg f'))) < 0)
theorem Nu.dif (h : Nu r f q m) (h' : Nu r f' q' m') : Nu r (form (fsum f (PH.neg f'))) (q - q') (m - m') := by
  have := h.sum h'.neg
  rwa [← Rat.sub_eq_add_neg, ← Rat.sub_eq_add_neg] at this
theorem Nu.turn (h : Nu r f q m) (h' : Nu r f' q' m') : form (fsum f (PH.neg f')) = PH.neg (form (fsum f' (PH.neg f))) := (h.dif h').eq (h'.dif h).neg (by grind) (by grind)
/-- the law's due -/
theorem Nu.due (h : Nu r f q m) (h' : Nu r f' q' m') : decide (0 < lsgn (form (lsum f' (PH.neg f)))) = less f f' := by
  have e : form (lsum f' (PH.neg f)) = form (fsum f' (PH.neg f)) := ((h'.go h).neg.sum_eq).symm
  rw [e, lsgn_eq (h'.dif h).C]
  unfold less
  rw [h.turn h', sgnF_neg]
  apply decide_eq_decide.mpr
  omega
theorem Nu.less_of {g g' : Five} {a b a' b' : Rat} (h : Nu r f q m) (h' : Nu r f' q' m') (k : Nu r g a b) (k' : Nu r g' a' b') (e1 : q - q' = a - a') (e2 : m - m' = b - b') : less g g' = less f f' := by
  unfold less
  rw [(k.dif k').eq (h.dif h') e1.symm e2.symm]
theorem Nu.zero (h : Nu r f q m) : sgnF f = 0 → q = 0 ∧ m = 0 := fun z => by
  obtain ⟨z1, z2⟩ := (sgnF_zero h.C).mp z
  obtain ⟨e, k⟩ := canon_is h.C h.h
  rcases k with ⟨_, _, _, k⟩ | ⟨k, _⟩
  · exact ⟨by rw [e, quo_zero h.C]; exact z1, k⟩
  · rcases k with k | k <;> omega
theorem Nu.three (h : Nu r f q m) (h' : Nu r f' q' m') : less f f' = decide (sgnF (form (fsum f (PH.neg f'))) < 0) ∧ less f' f = decide (0 < sgnF (form (fsum f (PH.neg f')))) ∧ decide (f = f') = decide (sgnF (form (fsum f (PH.neg f'))) = 0) := by
  refine ⟨rfl, ?_, ?_⟩
  · unfold less
    rw [h'.turn h, sgnF_neg]
    apply decide_eq_decide.mpr
    omega
  · apply decide_eq_decide.mpr
    constructor
    · intro e
      subst e
      rw [(h.dif h).eq (nu_nil h.N) (by grind) (by grind)]
      rfl
    · intro z
      obtain ⟨e1, e2⟩ := (h.dif h').zero z
      exact h.eq h' (by grind) (by grind)
end PH
namespace PH
open PySem PySem.Spec PyProof.Rows L2
section
variable {M : Model} {prog : Program} {w : World} {A : Around} {E : Value → Shared → Prop} {s : Shared} {K : PySem.W.Frag} {x C : Addr} {ox : Obj} {od : Option Obj}
theorem ifBound_objNe {args : List Value} {Q : Option Value → Shared → Prop} (X : K.In s.heap) (I : PySem.W.InstAt s.heap x ox C od) (hs : PySem.W.findIn K (.ref C) "__ne__" = some (some (.builtin "object.__ne__")))
    (h : wpAny M A (call (.builtin "object.__ne__") (.ref x :: args)) (fun v => Q (some v)) E s) : wpAny M A (callSpecialIfBound? (.ref x) "__ne__" args) Q E s := by
  simp only [callSpecialIfBound?, bindSpecialIfBound?]
  refine wpAny_holding (wpAny_bind (wpAny_bind (wpAny_bind (I.type.here ((PySem.W.looks_findIn X hs).here ?_)))))
  refine wpAny_bind (wpAny_askSetting (wpAny_ite ?_))
  have fin : wpAny M A (call (.builtin "object.__ne__") ([.ref x] ++ args) >>= fun v => pure (some v)) Q E s := wpAny_bind (wpAny_mono h (fun v s' h' => wpAny_pure h') fun _ _ h' => h')
  split
  · exact wpAny_bind (wpAny_of_eq (PySem.F.cmp_object.ne.bind _) (wpAny_pure (by exact fin)))
  · exact wpAny_tryCatch (wpAny_bind (wpAny_of_eq (PySem.F.cmp_object.ne.bind _) (wpAny_pure (by exact fin))))
end
section
variable {X : Cx} {n : Nat}
/-- != of two instances that the class's own == calls alike -/
theorem op_neIns {CX : CXT} {C f : Addr} {fd : FuncData} {ps : List Str} {R : Addr → Addr → Hp → Prop} {E : XK} (F : FnOk X.prog X.w X.K X.mg X.base CX n f fd ps (spEq R))
    (hs : PySem.W.findIn X.K (.ref C) "__eq__" = some (some (.ref f))) (hne : PySem.W.findIn X.K (.ref C) "__ne__" = some (some (.builtin "object.__ne__"))) (hm : PySem.W.mroIn X.K C (.type "object") = some true)
    (hf : PySem.W.isFn X.K (.ref f) = true) (hb : Binds X.K fd ps []) (hx : Passes CX X E) (hr : Room (n + 1) X.A) : OpR X (compareOp .NotEq) (fun x y H Q => DIns C R x y H ∧ ∀ H', Ext H H' → Q (.bl false) H') := by
  intro pins s σ H x y v u Q I rx ry hq
  obtain ⟨⟨a, b, dx, dy, fs, gs, rfl, rfl, ha, hb', hr'⟩, q⟩ := hq
  cases rx
  cases ry
  have sb : Sub X (n + 1) X.A := ⟨hr, rfl⟩
  have sb1 := sb.in1
  obtain ⟨mA, J, _⟩ := ins_get I.hok ha
  obtain ⟨mB, J', _⟩ := ins_get I.hok hb'
  obtain ⟨od, J, _⟩ := J.look
  obtain ⟨od', J', _⟩ := J'.look
  have XK : X.K.In s.heap := I.kIn
  have own : wpAny (model X.prog X.w) X.A.in1 (call (.ref f) [.ref a, .ref b]) (fun r s' => r = .bool true ∧ ∃ H', Inv X pins σ H' s' ∧ Ext H H') X.xe s := by
    have hsp : spEq R [.ref a, .ref b] H (fun v H' => v = .bl true ∧ Ext H H') E := ⟨a, b, rfl, hr', fun H' e => ⟨rfl, e⟩⟩
    have e0 : Env0 X.prog X.w X.K X.mg X.base X.A.in1 X.stack s H := by
      have e := I.env0
      exact ⟨by rw [sb1.fr]; exact e.frames, e.mod, e.bs, e.bsz, e.funs, e.frf, e.hok, e.bare⟩
    have hl := F.len _ _ _ _ hsp
    have r2 : Vals [V.ref a, V.ref b] [Value.ref a, Value.ref b] := .cons rfl (.cons rfl .nil)
    refine wpAny_call (codeAny_mono (F.run X.A.in1 X.stack s H ⟨[.ref a, .ref b], []⟩ [.ref a, .ref b] [.ref a, .ref b] _ E sb1.room e0 (by
      have := hb s [.ref a, .ref b] I.kIn (by simpa using hl)
      simpa using this) r2 hsp) fun r s' hq => ?_)
    cases r with
    | error e => exact hx pins σ H s e s' I hq
    | ok fl =>
      cases fl with
      | ret w =>
        obtain ⟨z, H', I', rz, ez, ex⟩ := I.after hq
        subst ez
        cases rz
        exact ⟨rfl, H', I', ex⟩
      | next => exact False.elim hq
      | brk => exact False.elim hq
      | cont => exact False.elim hq
  have entry : wpAny (model X.prog X.w) X.A.in1 (Builtin.«object.__ne__» ⟨[.ref a, .ref b], []⟩) (fun fin s' => fin = .done (.ret (.bool false)) ∧ ∃ H', Inv X pins σ H' s' ∧ Ext H H') X.xe s := by
    unfold Builtin.«object.__ne__»
    refine wpAny_bind (wpAny_of_eq (a := (.ref a, [.ref b])) (by first | rfl | kernel_rfl) ?_)
    dsimp only
    refine wpAny_bind (wpAny_cRoomFor sb1.room.units0 ?_)
    refine wpAny_bind (PySem.W.ifBound_K XK J hs hf (wpAny_mono own (fun r s' z => ?_) fun _ _ e => e))
    obtain ⟨rfl, z⟩ := z
    dsimp only
    refine wpAny_bind (wpAny_truthy_bool ?_)
    exact wpAny_pure ⟨rfl, z⟩
  have one : wpAny (model X.prog X.w) X.A (tryCompare (.ref a) "__ne__" (.ref b)) (fun r s' => r = some (.bool false) ∧ ∃ H', Inv X pins σ H' s' ∧ Ext H H') X.xe s := by
    unfold tryCompare
    refine wpAny_bind (ifBound_objNe XK J hne (wpAny_call (codeAny_call_builtin PySem.F.cmp_object.ne.plain PySem.F.cmpEntry_ne (PySem.W.check_slot PySem.F.cmpKind_ne PySem.F.cmpSplit_ne (J.type.andThen (PySem.W.looks_mroIn XK hm)) (PySem.F.cmpArgs_ne _ _) (wpAny_mono entry (fun r s' z => ?_) fun _ _ e => ?_)))))
    · obtain ⟨rfl, z⟩ := z
      first
        | exact wpAny_pure ⟨rfl, z⟩
        | exact ⟨_, rfl, wpAny_pure ⟨rfl, z⟩⟩
        | exact ⟨rfl, wpAny_pure ⟨rfl, z⟩⟩
    · first
        | exact e
  obtain ⟨m, hF⟩ := I.fr
  have hb2 : PySem.W.Looks (model X.prog X.w) s.heap (typeOf (.ref b)) (.ref C) := J'.type
  show wpAny (model X.prog X.w) X.A (richCompare .NotEq (.ref a) (.ref b)) (EP X pins σ Q) X.xe s
  have fin : ∀ (r : Option Value) (s' : Shared), (r = some (.bool false) ∧ ∃ H', Inv X pins σ H' s' ∧ Ext H H') → EP X pins σ Q (.bool false) s' := fun r s' z => by
    obtain ⟨_, H', I', e⟩ := z
    exact ⟨.bl false, H', I', rfl, q H' e⟩
  unfold richCompare
  simp only [oneThing_ref, cmpInfo_NotEq]
  refine wpAny_holding (wpAny_bind (wpAny_cRoomFor sb.room.units0 ?_))
  refine wpAny_bind (J.type.here (wpAny_bind (hb2.here ?_)))
  split
  · rename_i q
    exact absurd q (by simp)
  · refine wpAny_bind (wpAny_pure ?_)
    simp only [Bool.false_eq_true, if_false]
    refine wpAny_bind (wpAny_mono one (fun r s' z => ?_) fun _ _ e => e)
    have y := fin r s' z
    obtain ⟨rfl, _⟩ := z
    exact wpAny_pure y
end
end PH
namespace DL
open PySem PySem.Spec PyProof.Rows L2
/-! ### data without a heap -/
inductive D where
  | non | bl (b : Bool) | int (i : Int) | str (z : Str)
  | tup (xs : List D) | lst (xs : List D)
  | obj (C : Addr) (fs : List (Str × V))
  | dk
  | opq (v : V)
/-- what stays fixed while a def runs: the deck, what was tracked at the entry, what of it is read alone -/
structure Bs where
  K : PySem.W.Frag
  dk : Option (Addr × Addr)
  DkAt : Hp → Addr → Addr → Prop
  H0 : Hp
  G0 : Hp
mutual
inductive Rp (K : PySem.W.Frag) (dk : Option (Addr × Addr)) (G : Hp) : V → D → Prop
  | non : Rp K dk G .non .non
  | bl (b : Bool) : Rp K dk G (.bl b) (.bl b)
  | int (i : Int) : Rp K dk G (.int i) (.int i)
  | str (z : Str) : Rp K dk G (.str z) (.str z)
  | tup {a : Addr} {vs : List V} {ds : List D} : G a = some (.tup vs) → RpAll K dk G vs ds → Rp K dk G (.ref a) (.tup ds)
  | lst {a : Addr} {vs : List V} {ds : List D} : G a = some (.lst vs) → RpAll K dk G vs ds → Rp K dk G (.ref a) (.lst ds)
  | obj {a dx C : Addr} {fs : List (Str × V)} : G a = some (.ins C dx fs) → Rp K dk G (.ref a) (.obj C fs)
  | dk {d c : Addr} : dk = some (d, c) → Rp K dk G (.ref d) .dk
  | opq (v : V) : Rp K dk G v (.opq v)
inductive RpAll (K : PySem.W.Frag) (dk : Option (Addr × Addr)) (G : Hp) : List V → List D → Prop
  | nil : RpAll K dk G [] []
  | cons {v : V} {vs : List V} {d : D} {ds : List D} : Rp K dk G v d → RpAll K dk G vs ds → RpAll K dk G (v :: vs) (d :: ds)
end
section
variable {K : PySem.W.Frag} {dk : Option (Addr × Addr)} {G G' : Hp}
theorem sqT_mono {a : Addr} {xs : List V} (e : Same G G') (h : SqT K G a xs) : SqT K G' a xs := by
  rcases h with (h | ⟨o, h⟩) | h
  · exact .inl (.inl (e _ _ h))
  · exact .inl (.inr ⟨o, e _ _ h⟩)
  · exact .inr h
mutual
theorem Rp.mono (e : Same G G') : ∀ {v : V} {d : D}, Rp K dk G v d → Rp K dk G' v d
  | _, _, .non => .non
  | _, _, .bl b => .bl b
  | _, _, .int i => .int i
  | _, _, .str z => .str z
  | _, _, .tup h r => .tup (e _ _ h) (RpAll.mono e r)
  | _, _, .lst h r => .lst (e _ _ h) (RpAll.mono e r)
  | _, _, .obj h => .obj (e _ _ h)
  | _, _, .dk h => .dk h
  | _, _, .opq v => .opq v
theorem RpAll.mono (e : Same G G') : ∀ {vs : List V} {ds : List D}, RpAll K dk G vs ds → RpAll K dk G' vs ds
  | _, _, .nil => .nil
  | _, _, .cons h r => .cons (Rp.mono e h) (RpAll.mono e r)
end
theorem RpAll.len : ∀ {vs : List V} {ds : List D}, RpAll K dk G vs ds → vs.length = ds.length
  | _, _, .nil => rfl
  | _, _, .cons _ r => by rw [List.length_cons, List.length_cons, RpAll.len r]
theorem RpAll.get : ∀ {vs : List V} {ds : List D} {i : Nat} {d : D}, RpAll K dk G vs ds → ds[i]? = some d → ∃ v, vs[i]? = some v ∧ Rp K dk G v d
  | _, _, _, _, .nil, h => by simp at h
  | _, _, 0, _, .cons r _, h => by
    simp at h
    subst h
    exact ⟨_, rfl, r⟩
  | _, _, i + 1, _, .cons _ t, h => by
    obtain ⟨v, h1, h2⟩ := RpAll.get (i := i) t (by simpa using h)
    exact ⟨v, by simpa using h1, h2⟩
theorem RpAll.getV : ∀ {vs : List V} {ds : List D} {i : Nat} {v : V}, RpAll K dk G vs ds → vs[i]? = some v → ∃ d, ds[i]? = some d ∧ Rp K dk G v d
  | _, _, _, _, .nil, h => by simp at h
  | _, _, 0, _, .cons r _, h => by
    simp at h
    subst h
    exact ⟨_, rfl, r⟩
  | _, _, i + 1, _, .cons _ t, h => by
    obtain ⟨v, h1, h2⟩ := RpAll.getV (i := i) t (by simpa using h)
    exact ⟨v, by simpa using h1, h2⟩
theorem RpAll.app : ∀ {vs ws : List V} {ds es : List D}, RpAll K dk G vs ds → RpAll K dk G ws es → RpAll K dk G (vs ++ ws) (ds ++ es)
  | _, _, _, _, .nil, s => s
  | _, _, _, _, .cons r t, s => .cons r (RpAll.app t s)
theorem RpAll.take : ∀ {vs : List V} {ds : List D} (n : Nat), RpAll K dk G vs ds → RpAll K dk G (vs.take n) (ds.take n)
  | _, _, 0, _ => .nil
  | _, _, _ + 1, .nil => .nil
  | _, _, n + 1, .cons r t => .cons r (RpAll.take n t)
theorem RpAll.drop : ∀ {vs : List V} {ds : List D} (n : Nat), RpAll K dk G vs ds → RpAll K dk G (vs.drop n) (ds.drop n)
  | _, _, 0, r => r
  | _, _, _ + 1, .nil => .nil
  | _, _, n + 1, .cons _ t => RpAll.drop n t
end
/-! ### what a name holds -/
inductive Sl where
  | un
  | fz (d : D)
  | own (p : Addr) (ds : List D)
abbrev Gm := List Sl
def SlOk (B : Bs) (G H : Hp) (o : Option V) : Sl → Prop
  | .un => True
  | .fz d => ∃ v, o = some v ∧ Rp B.K B.dk G v d
  | .own p ds => o = some (.ref p) ∧ (∃ vs, H p = some (.lst vs) ∧ RpAll B.K B.dk G vs ds) ∧ B.H0 p = none ∧ G p = none
/-- all is kept but the deck's two objects -/
def Kp (dk : Option (Addr × Addr)) (H H' : Hp) : Prop := ∀ b o, H b = some o → (∀ d c, dk = some (d, c) → b ≠ d ∧ b ≠ c) → H' b = some o
theorem Kp.refl {dk : Option (Addr × Addr)} {H : Hp} : Kp dk H H := fun _ _ h _ => h
theorem Kp.trans {dk : Option (Addr × Addr)} {H H1 H2 : Hp} (a : Kp dk H H1) (b : Kp dk H1 H2) : Kp dk H H2 := fun c o h z => b c o (a c o h z) z
theorem Kp.of {dk : Option (Addr × Addr)} {H H' : Hp} (s : Same H H') : Kp dk H H' := fun b o h _ => s b o h
/-- the deck stands, apart from what is read alone -/
structure DkOk (DkAt : Hp → Addr → Addr → Prop) (dk : Option (Addr × Addr)) (G H : Hp) : Prop where
  ok : ∀ d c, dk = some (d, c) → DkAt H d c ∧ G d = none ∧ G c = none
/-- what is asked of the deck's word -/
structure DkLaw (DkAt : Hp → Addr → Addr → Prop) : Prop where
  there : ∀ H d c, DkAt H d c → H d ≠ none ∧ H c ≠ none
  tup : ∀ H d c, DkAt H d c → (∀ xs, H d ≠ some (.tup xs)) ∧ ∀ xs, H c ≠ some (.tup xs)
  keep : ∀ H H' d c, DkAt H d c → H' d = H d → H' c = H c → DkAt H' d c
structure Dst (B : Bs) (G : Hp) (γ : Gm) (σ : L2.St) (H : Hp) : Prop where
  law : DkLaw B.DkAt
  sub : Same G H
  sub0 : Same B.G0 G
  kept : Kp B.dk B.H0 H
  fresh : ∀ p, B.H0 p ≠ none → B.G0 p = none → G p = none
  tups : ∀ p xs, H p = some (.tup xs) → G p = some (.tup xs)
  dkok : ∀ d c, B.dk = some (d, c) → B.DkAt H d c ∧ B.H0 d ≠ none ∧ B.H0 c ≠ none ∧ B.G0 d = none ∧ B.G0 c = none
  len : σ.length = γ.length
  slot : ∀ (i : Nat) (s : Sl), γ[i]? = some s → ∃ o, σ[i]? = some o ∧ SlOk B G H o s
  nd : ∀ (i j : Nat) (p : Addr) (ds es : List D), γ[i]? = some (.own p ds) → γ[j]? = some (.own p es) → i = j
section
variable {B : Bs} {G G' : Hp} {γ : Gm} {σ : L2.St} {H H' : Hp} {p : Addr}
theorem Dst.free0 (S : Dst B G γ σ H) (hp : H p = none) : B.H0 p = none := by
  cases q : B.H0 p with
  | none => rfl
  | some o =>
    by_cases z : ∀ d c, B.dk = some (d, c) → p ≠ d ∧ p ≠ c
    · rw [S.kept p o q z] at hp
      cases hp
    · exfalso
      apply z
      intro d c e
      obtain ⟨h1, _⟩ := S.dkok d c e
      obtain ⟨t1, t2⟩ := S.law.there _ _ _ h1
      exact ⟨fun e => t1 (e ▸ hp), fun e => t2 (e ▸ hp)⟩
theorem Dst.offdk (S : Dst B G γ σ H) (h0 : B.H0 p = none) : ∀ d c, B.dk = some (d, c) → p ≠ d ∧ p ≠ c := fun d c e => by
  obtain ⟨_, t1, t2, _⟩ := S.dkok d c e
  exact ⟨fun z => t1 (z ▸ h0), fun z => t2 (z ▸ h0)⟩
/-- a fresh object is laid, known to none yet -/
theorem Dst.laid (S : Dst B G γ σ H) {us : List V} (hp : H p = none) : Dst B G γ σ (upd H p (.lst us)) where
  law := S.law
  sub := fun b u e => by rw [upd_ne (ne_of_none (S.sub b u e) hp)]; exact S.sub b u e
  sub0 := S.sub0
  kept := fun b u e z => by
    have h := S.kept b u e z
    rw [upd_ne (ne_of_none h hp)]
    exact h
  fresh := S.fresh
  tups := fun q xs e => by
    by_cases z : q = p
    · subst z; rw [upd_same] at e; cases e
    · rw [upd_ne z] at e; exact S.tups q xs e
  dkok := fun d c e => by
    obtain ⟨h1, h2⟩ := S.dkok d c e
    obtain ⟨n1, n2⟩ := S.offdk (S.free0 hp) d c e
    exact ⟨S.law.keep _ _ _ _ h1 (upd_ne n1.symm) (upd_ne n2.symm), h2⟩
  len := S.len
  slot := fun i s e => by
    obtain ⟨o', h1, h2⟩ := S.slot i s e
    refine ⟨o', h1, ?_⟩
    cases s with
    | un => exact h2
    | fz d => exact h2
    | own q ds =>
      obtain ⟨a, ⟨vs, b, r⟩, c⟩ := h2
      exact ⟨a, ⟨vs, by rw [upd_ne (ne_of_none b hp)]; exact b, r⟩, c⟩
  nd := S.nd
/-- a fresh object becomes one that is read alone -/
theorem Dst.frz (S : Dst B G γ σ H) {o : HO} (hp : H p = some o) (h0 : B.H0 p = none) (hg : G p = none) (hn : ∀ (i : Nat) ds, γ[i]? ≠ some (.own p ds)) : Dst B (upd G p o) γ σ H ∧ Same G (upd G p o) := by
  have sm : Same G (upd G p o) := fun b u e => by rw [upd_ne (ne_of_none e hg)]; exact e
  refine ⟨?_, sm⟩
  constructor
  · exact S.law
  · intro b u e
    by_cases z : b = p
    · subst z
      rw [upd_same] at e
      cases e
      exact hp
    · rw [upd_ne z] at e
      exact S.sub b u e
  · exact fun b u e => sm b u (S.sub0 b u e)
  · exact S.kept
  · intro q h1 h2
    have z : q ≠ p := fun z => h1 (z ▸ h0)
    rw [upd_ne z]
    exact S.fresh q h1 h2
  · intro q xs e
    have h := S.tups q xs e
    rw [upd_ne (ne_of_none h hg)]
    exact h
  · exact S.dkok
  · exact S.len
  · intro i s e
    obtain ⟨o', h1, h2⟩ := S.slot i s e
    refine ⟨o', h1, ?_⟩
    cases s with
    | un => exact h2
    | fz d =>
      obtain ⟨v, a, b⟩ := h2
      exact ⟨v, a, b.mono sm⟩
    | own q ds =>
      obtain ⟨a, ⟨vs, b, r⟩, c, d⟩ := h2
      have z : q ≠ p := fun z => hn i ds (z ▸ e)
      exact ⟨a, ⟨vs, b, r.mono sm⟩, c, by rw [upd_ne z]; exact d⟩
  · exact S.nd
theorem Dst.noown (S : Dst B G γ σ H) (hp : H p = none) : ∀ (i : Nat) ds, γ[i]? ≠ some (.own p ds) := fun i ds e => by
  obtain ⟨o', _, _, ⟨vs, b, _⟩, _⟩ := S.slot i _ e
  rw [b] at hp
  cases hp
/-- both at once -/
theorem Dst.new (S : Dst B G γ σ H) {o : HO} (hp : H p = none) : Dst B (upd G p o) γ σ (upd H p o) ∧ Same G (upd G p o) := by
  have hg : G p = none := S.sub.free hp
  have h0 := S.free0 hp
  have sm : Same G (upd G p o) := fun b u e => by rw [upd_ne (ne_of_none e hg)]; exact e
  refine ⟨?_, sm⟩
  constructor
  · exact S.law
  · intro b u e
    by_cases z : b = p
    · subst z
      rw [upd_same] at e ⊢
      exact e
    · rw [upd_ne z] at e ⊢
      exact S.sub b u e
  · exact fun b u e => sm b u (S.sub0 b u e)
  · intro b u e z
    have h := S.kept b u e z
    rw [upd_ne (ne_of_none h hp)]
    exact h
  · intro q h1 h2
    have z : q ≠ p := fun z => h1 (z ▸ h0)
    rw [upd_ne z]
    exact S.fresh q h1 h2
  · intro q xs e
    by_cases z : q = p
    · subst z
      rw [upd_same] at e ⊢
      exact e
    · rw [upd_ne z] at e ⊢
      exact S.tups q xs e
  · intro d c e
    obtain ⟨h1, h2⟩ := S.dkok d c e
    obtain ⟨n1, n2⟩ := S.offdk h0 d c e
    exact ⟨S.law.keep _ _ _ _ h1 (upd_ne n1.symm) (upd_ne n2.symm), h2⟩
  · exact S.len
  · intro i s e
    obtain ⟨o', h1, h2⟩ := S.slot i s e
    refine ⟨o', h1, ?_⟩
    cases s with
    | un => exact h2
    | fz d =>
      obtain ⟨v, a, b⟩ := h2
      exact ⟨v, a, b.mono sm⟩
    | own q ds =>
      obtain ⟨a, ⟨vs, b, r⟩, c, d⟩ := h2
      have z : q ≠ p := ne_of_none b hp
      exact ⟨a, ⟨vs, by rw [upd_ne z]; exact b, r.mono sm⟩, c, by rw [upd_ne z]; exact d⟩
  · exact S.nd
theorem slot_set (S : Dst B G γ σ H) {i : Nat} {v : V} {s : Sl} (ok : SlOk B G H (some v) s) (ho : ∀ p ds, s = .own p ds → ∀ (j : Nat) es, j ≠ i → γ[j]? ≠ some (.own p es)) : Dst B G (γ.set i s) (σ.set i (some v)) H where
  law := S.law
  sub := S.sub
  sub0 := S.sub0
  kept := S.kept
  fresh := S.fresh
  tups := S.tups
  dkok := S.dkok
  len := by rw [List.length_set, List.length_set]; exact S.len
  slot := fun j u e => by
    by_cases z : i = j
    · subst z
      by_cases l : i < γ.length
      · rw [List.getElem?_set_self l] at e
        cases e
        exact ⟨some v, by rw [List.getElem?_set_self (by rw [S.len]; exact l)], ok⟩
      · rw [List.getElem?_eq_none (by rw [List.length_set]; omega)] at e
        cases e
    · rw [List.getElem?_set_ne z] at e ⊢
      exact S.slot j u e
  nd := fun j k q ds es e1 e2 => by
    by_cases z : i = j
    · subst z
      by_cases z2 : i = k
      · exact z2
      · exfalso
        rw [List.getElem?_set_ne z2] at e2
        by_cases l : i < γ.length
        · rw [List.getElem?_set_self l] at e1
          cases e1
          exact ho _ _ rfl k es (Ne.symm z2) e2
        · rw [List.getElem?_eq_none (by rw [List.length_set]; omega)] at e1
          cases e1
    · rw [List.getElem?_set_ne z] at e1
      by_cases z2 : i = k
      · exfalso
        subst z2
        by_cases l : i < γ.length
        · rw [List.getElem?_set_self l] at e2
          cases e2
          exact ho _ _ rfl j ds (Ne.symm z) e1
        · rw [List.getElem?_eq_none (by rw [List.length_set]; omega)] at e2
          cases e2
      · rw [List.getElem?_set_ne z2] at e2
        exact S.nd j k q ds es e1 e2
theorem Dst.set (S : Dst B G γ σ H) {i : Nat} {v : V} {d : D} (r : Rp B.K B.dk G v d) : Dst B G (γ.set i (.fz d)) (σ.set i (some v)) H :=
  slot_set S ⟨v, rfl, r⟩ fun _ _ z => nomatch z
/-- a name's word is weakened -/
theorem Dst.weak (S : Dst B G γ σ H) {i : Nat} : Dst B G (γ.set i .un) σ H where
  law := S.law
  sub := S.sub
  sub0 := S.sub0
  kept := S.kept
  fresh := S.fresh
  tups := S.tups
  dkok := S.dkok
  len := by rw [List.length_set]; exact S.len
  slot := fun j u e => by
    by_cases z : i = j
    · subst z
      by_cases l : i < γ.length
      · rw [List.getElem?_set_self l] at e
        cases e
        have : i < σ.length := by rw [S.len]; exact l
        exact ⟨σ[i], List.getElem?_eq_getElem this, trivial⟩
      · rw [List.getElem?_eq_none (by rw [List.length_set]; omega)] at e
        cases e
    · rw [List.getElem?_set_ne z] at e
      exact S.slot j u e
  nd := fun j k q ds es e1 e2 => by
    have f : ∀ (j : Nat) ds, (γ.set i Sl.un)[j]? = some (.own q ds) → γ[j]? = some (.own q ds) := fun j ds e => by
      by_cases z : i = j
      · subst z
        by_cases l : i < γ.length
        · rw [List.getElem?_set_self l] at e; cases e
        · rw [List.getElem?_eq_none (by rw [List.length_set]; omega)] at e; cases e
      · rw [List.getElem?_set_ne z] at e; exact e
    exact S.nd j k q ds es (f j ds e1) (f k es e2)
end
end DL
namespace DL
open PySem PySem.Spec PyProof.Rows L2
/-! ### readings without a heap -/
abbrev DT := Gm → (D → Gm → Prop) → Prop
abbrev DA := Gm → (List D → Gm → Prop) → Prop
abbrev DB := Gm → (Bool → Gm → Prop) → Prop
def tD (B : Bs) (t : DT) : TE := fun σ H Q => ∃ G γ R, Dst B G γ σ H ∧ t γ R ∧ ∀ d γ' G' v H', R d γ' → Same G G' → Dst B G' γ' σ H' → Rp B.K B.dk G' v d → Q v H'
def tDA (B : Bs) (t : DA) : TA := fun σ H Q => ∃ G γ R, Dst B G γ σ H ∧ t γ R ∧ ∀ ds γ' G' vs H', R ds γ' → Same G G' → Dst B G' γ' σ H' → RpAll B.K B.dk G' vs ds → Q vs H'
def tDB (B : Bs) (t : DB) : TT := fun σ H Q => ∃ G γ R, Dst B G γ σ H ∧ t γ R ∧ ∀ b γ' G' H', R b γ' → Same G G' → Dst B G' γ' σ H' → Q b H'
/-- a list that is new and not yet handed on -/
def tDF (B : Bs) (t : DA) : TE := fun σ H Q => ∃ G γ R, Dst B G γ σ H ∧ t γ R ∧ ∀ ds γ' G' p vs H', R ds γ' → Same G G' → Dst B G' γ' σ H' → H' p = some (.lst vs) → RpAll B.K B.dk G' vs ds → B.H0 p = none → G' p = none → (∀ (i : Nat) es, γ'[i]? ≠ some (.own p es)) → Q (.ref p) H'
section
variable {X : Cx} {B : Bs} {G G' : Hp} {γ γ' : Gm} {σ : L2.St} {H H' : Hp} {e a b : Expr} {ta tb : DT} {pos : Pos}
theorem pe_imp {t t' : TE} (h : PE X e t) (k : ∀ σ H Q, t' σ H Q → t σ H Q) : PE X e t' := ⟨fun pins s σ H Q I q => h.run pins s σ H Q I (k σ H Q q)⟩
theorem pt_imp {t t' : TT} (h : PT X e t) (k : ∀ σ H Q, t' σ H Q → t σ H Q) : PT X e t' := ⟨fun pins s σ H Q I q => h.run pins s σ H Q I (k σ H Q q)⟩
theorem pw_imp {t t' : TT} (h : PW X e t) (k : ∀ σ H Q, t' σ H Q → t σ H Q) : PW X e t' := ⟨fun w pins s σ H Q I q => h.run w pins s σ H Q I (k σ H Q q)⟩
theorem pa_imp {es : List Expr} {t t' : TA} (h : PA X es t) (k : ∀ σ H Q, t' σ H Q → t σ H Q) : PA X es t' := ⟨fun p pins s σ H Q I q => h.run p pins s σ H Q I (k σ H Q q)⟩
theorem ps_imp {st : Stmt} {t t' : TS} (h : PS X st t) (k : ∀ D σ H, t' D σ H → t D σ H) : PS X st t' := ⟨fun pins s σ H D I q => h.run pins s σ H D I (k D σ H q)⟩
theorem pss_imp {st : List Stmt} {t t' : TS} (h : PSs X st t) (k : ∀ D σ H, t' D σ H → t D σ H) : PSs X st t' := ⟨fun pins s σ H D I q => h.run pins s σ H D I (k D σ H q)⟩

/-! ### names, constants -/
def look : Gm → Nat → Sl
  | [], _ => .un
  | s :: _, 0 => s
  | _ :: r, i + 1 => look r i
theorem look_get : ∀ {γ : Gm} {i : Nat} {s : Sl}, look γ i = s → s ≠ .un → γ[i]? = some s
  | [], i, s, h, n => absurd h.symm n
  | u :: r, 0, s, h, _ => by
    have h : u = s := h
    rw [h]
    rfl
  | u :: r, i + 1, s, h, n => by
    have := look_get (γ := r) (i := i) h n
    simpa using this
def putS : Gm → Nat → Sl → Gm
  | [], _, _ => []
  | _ :: r, 0, s => s :: r
  | u :: r, i + 1, s => u :: putS r i s
theorem putS_eq : ∀ (γ : Gm) (i : Nat) (s : Sl), putS γ i s = γ.set i s
  | [], _, _ => rfl
  | _ :: _, 0, _ => rfl
  | u :: r, i + 1, s => by
    show u :: putS r i s = u :: r.set i s
    rw [putS_eq r i s]
def dVar (i : Nat) : DT := fun γ R => match look γ i with
  | .fz d => R d γ
  | .own _ ds => R (.lst ds) (putS γ i (.fz (.lst ds)))
  | .un => False
/-- an own list becomes one that is read alone -/
theorem Dst.freeze (S : Dst B G γ σ H) {i : Nat} {p : Addr} {ds : List D} (h : γ[i]? = some (.own p ds)) : ∃ G', Same G G' ∧ Dst B G' (γ.set i (.fz (.lst ds))) σ H ∧ Rp B.K B.dk G' (.ref p) (.lst ds) ∧ σ[i]? = some (some (.ref p)) := by
  obtain ⟨o, h1, h2, ⟨vs, h3, h4⟩, h5, h6⟩ := S.slot i _ h
  subst h2
  have Sw : Dst B G (γ.set i .un) σ H := S.weak
  have no : ∀ (j : Nat) es, (γ.set i Sl.un)[j]? ≠ some (.own p es) := fun j es e => by
    by_cases z : i = j
    · subst z
      by_cases l : i < γ.length
      · rw [List.getElem?_set_self l] at e; cases e
      · rw [List.getElem?_eq_none (by rw [List.length_set]; omega)] at e; cases e
    · rw [List.getElem?_set_ne z] at e
      exact z (S.nd i j p ds es h e)
  obtain ⟨S2, sm⟩ := Sw.frz h3 h5 h6 no
  have r : Rp B.K B.dk (upd G p (.lst vs)) (.ref p) (.lst ds) := .lst upd_same (h4.mono sm)
  refine ⟨_, sm, ?_, r, h1⟩
  have S3 := S2.set (i := i) r
  have li : i < σ.length := by
    have := (List.getElem?_eq_some_iff.mp h1).1
    exact this
  have e1 : σ.set i (some (V.ref p)) = σ := by
    apply List.ext_getElem?
    intro j
    by_cases z : i = j
    · subst z
      rw [List.getElem?_set_self li, h1]
    · rw [List.getElem?_set_ne z]
  rw [e1, List.set_set] at S3
  exact S3
theorem d_var (i : Nat) {x : Str} {pos : Pos} (h : PE X (.Name x pos) (tVar i)) : PE X (.Name x pos) (tD B (dVar i)) := pe_imp h fun σ H Q ⟨G, γ, R, S, hr, k⟩ => by
  unfold dVar at hr
  cases e : look γ i with
  | un => rw [e] at hr; exact hr.elim
  | fz d =>
    rw [e] at hr
    obtain ⟨o, h1, v, h2, h3⟩ := S.slot i _ (look_get e (fun z => nomatch z))
    subst h2
    exact ⟨v, h1, k _ _ _ _ _ hr (Same.refl _) S h3⟩
  | own p ds =>
    rw [e] at hr
    obtain ⟨G', sm, S', r, h1⟩ := S.freeze (look_get e (fun z => nomatch z))
    have hr : R (.lst ds) (putS γ i (.fz (.lst ds))) := hr
    rw [putS_eq] at hr
    exact ⟨_, h1, k _ _ _ _ _ hr sm S' r⟩
def dC (d : D) : DT := fun γ R => R d γ
theorem d_int {i : Int} {j pos} : PE X (.Constant (.int i) j pos) (tD B (dC (.int i))) := pe_imp pe_int fun σ H Q ⟨_, _, _, S, hr, k⟩ => k _ _ _ _ _ hr (Same.refl _) S (.int i)
theorem d_bl {b : Bool} {j pos} : PE X (.Constant (.bool b) j pos) (tD B (dC (.bl b))) := pe_imp pe_bl fun σ H Q ⟨_, _, _, S, hr, k⟩ => k _ _ _ _ _ hr (Same.refl _) S (.bl b)
theorem d_non {j pos} : PE X (.Constant .none j pos) (tD B (dC .non)) := pe_imp pe_non fun σ H Q ⟨_, _, _, S, hr, k⟩ => k _ _ _ _ _ hr (Same.refl _) S .non
theorem d_str {z : Str} {j pos} : PE X (.Constant (.str z) j pos) (tD B (dC (.str z))) := pe_imp pe_str fun σ H Q ⟨_, _, _, S, hr, k⟩ => k _ _ _ _ _ hr (Same.refl _) S (.str z)
/-- any known value -/
theorem d_opq {v : V} (h : PE X e (tC v)) : PE X e (tD B (dC (.opq v))) := pe_imp h fun σ H Q ⟨_, _, _, S, hr, k⟩ => k _ _ _ _ _ hr (Same.refl _) S (.opq v)

/-! ### operators -/
/-- what an operation of two values comes to -/
abbrev F2 := D → D → (D → Prop) → Prop
def OkR2 (B : Bs) (r : R2) (f : F2) : Prop := ∀ G γ σ H x y d e R Q, Dst B G γ σ H → Rp B.K B.dk G x d → Rp B.K B.dk G y e → f d e R →
  (∀ c G' v H', R c → Same G G' → Dst B G' γ σ H' → Rp B.K B.dk G' v c → Q v H') → r x y H Q
def dOp (f : F2) (ta tb : DT) : DT := fun γ R => ta γ fun x γ1 => tb γ1 fun y γ2 => f x y fun c => R c γ2
theorem dop_core {r : R2} {f : F2} (hr : OkR2 B r f) : ∀ σ H Q, tD B (dOp f ta tb) σ H Q → tOp r (tD B ta) (tD B tb) σ H Q := fun σ H Q ⟨G, γ, R, S, h, k⟩ =>
  ⟨G, γ, _, S, h, fun d γ1 G1 v H1 h1 s1 S1 r1 => ⟨G1, γ1, _, S1, h1, fun e γ2 G2 u H2 h2 s2 S2 r2 => hr _ _ _ _ _ _ _ _ _ _ S2 (r1.mono s2) r2 h2 fun c G3 w H3 h3 s3 S3 r3 => k _ _ _ _ _ h3 (s1.trans (s2.trans s3)) S3 r3⟩⟩
theorem d_op {op : Operator} {r : R2} {f : F2} (ho : OpR X (binaryOp op) r) (hr : OkR2 B r f) (ha : PE X a (tD B ta)) (hb : PE X b (tD B tb)) : PE X (.BinOp a op b pos) (tD B (dOp f ta tb)) := pe_imp (pe_op ho ha hb) (dop_core hr)
theorem d_cmp {op : CmpOp} {r : R2} {f : F2} (ho : OpR X (compareOp op) r) (hr : OkR2 B r f) (ha : PE X a (tD B ta)) (hb : PE X b (tD B tb)) (hm : behindInMarks op b = false) : PE X (.Compare a [op] [b] pos) (tD B (dOp f ta tb)) := pe_imp (pe_cmpR ho ha hb hm) (dop_core hr)
theorem d_ix {r : R2} {f : F2} (hi : IxR X r) (hr : OkR2 B r f) (ha : PE X a (tD B ta)) (hb : PE X b (tD B tb)) (hs : PlainIx b) : PE X (.Subscript a b pos) (tD B (dOp f ta tb)) := pe_imp (pe_ix hi ha hb hs) (dop_core hr)
abbrev fI (C : Int → Int → Prop) (g : Int → Int → Int) : F2 := fun d e R => ∃ i j, d = .int i ∧ e = .int j ∧ C i j ∧ R (.int (g i j))
abbrev fI0 (g : Int → Int → Int) : F2 := fun d e R => ∃ i j, d = .int i ∧ e = .int j ∧ R (.int (g i j))
abbrev fP (g : Int → Int → Bool) : F2 := fun d e R => ∃ i j, d = .int i ∧ e = .int j ∧ R (.bl (g i j))
theorem rpInt {K : PySem.W.Frag} {dk : Option (Addr × Addr)} {v : V} {i : Int} (h : Rp K dk G v (.int i)) : v = .int i := by cases h; rfl
theorem rpBl {K : PySem.W.Frag} {dk : Option (Addr × Addr)} {v : V} {i : Bool} (h : Rp K dk G v (.bl i)) : v = .bl i := by cases h; rfl
theorem rpStr {K : PySem.W.Frag} {dk : Option (Addr × Addr)} {v : V} {i : Str} (h : Rp K dk G v (.str i)) : v = .str i := by cases h; rfl
theorem rpNon {K : PySem.W.Frag} {dk : Option (Addr × Addr)} {v : V} (h : Rp K dk G v .non) : v = .non := by cases h; rfl
theorem ok_I {C : Int → Int → Prop} {g : Int → Int → Int} : OkR2 B (rI C fun i j => .int (g i j)) (fI C g) := by
  rintro G γ σ H x y d e R Q S rx ry ⟨i, j, rfl, rfl, c, h⟩ k
  cases rpInt rx
  cases rpInt ry
  exact ⟨i, j, rfl, rfl, c, k _ _ _ _ h (Same.refl _) S (.int _)⟩
theorem ok_I0 {g : Int → Int → Int} : OkR2 B (rI0 fun i j => .int (g i j)) (fI0 g) := by
  rintro G γ σ H x y d e R Q S rx ry ⟨i, j, rfl, rfl, h⟩ k
  cases rpInt rx
  cases rpInt ry
  exact ⟨i, j, rfl, rfl, k _ _ _ _ h (Same.refl _) S (.int _)⟩
theorem ok_P {g : Int → Int → Bool} : OkR2 B (rI0 fun i j => .bl (g i j)) (fP g) := by
  rintro G γ σ H x y d e R Q S rx ry ⟨i, j, rfl, rfl, h⟩ k
  cases rpInt rx
  cases rpInt ry
  exact ⟨i, j, rfl, rfl, k _ _ _ _ h (Same.refl _) S (.bl _)⟩
/-- == and != of single values -/
def eqS : D → D → Option Bool
  | .int i, .int j => some (decide (i = j))
  | .str i, .str j => some (decide (i = j))
  | .bl i, .bl j => some (decide (i = j))
  | .non, .non => some true
  | .non, .int _ => some false | .int _, .non => some false
  | .non, .bl _ => some false | .bl _, .non => some false
  | .non, .str _ => some false | .str _, .non => some false
  | .int _, .str _ => some false | .str _, .int _ => some false
  | .bl _, .str _ => some false | .str _, .bl _ => some false
  | _, _ => none
abbrev fEq : F2 := fun d e R => ∃ b, eqS d e = some b ∧ R (.bl b)
abbrev fNe : F2 := fun d e R => ∃ b, eqS d e = some b ∧ R (.bl (!b))
theorem eqS_ok {K : PySem.W.Frag} {dk : Option (Addr × Addr)} {x y : V} {d e : D} {b : Bool} (rx : Rp K dk G x d) (ry : Rp K dk G y e) (h : eqS d e = some b) : scal x y = true ∧ decide (x = y) = b := by
  unfold eqS at h
  split at h <;> first
    | (cases h; done)
    | (cases rx; cases ry; cases h; exact ⟨rfl, by simp⟩)
theorem ok_eq : OkR2 B rEq fEq := by
  rintro G γ σ H x y d e R Q S rx ry ⟨b, h1, h2⟩ k
  obtain ⟨c, e⟩ := eqS_ok rx ry h1
  refine ⟨c, ?_⟩
  rw [e]
  exact k _ _ _ _ h2 (Same.refl _) S (.bl _)
theorem ok_ne : OkR2 B rNe fNe := by
  rintro G γ σ H x y d e R Q S rx ry ⟨b, h1, h2⟩ k
  obtain ⟨c, e⟩ := eqS_ok rx ry h1
  refine ⟨c, ?_⟩
  rw [e]
  exact k _ _ _ _ h2 (Same.refl _) S (.bl _)
/-! ### one place -/
def dUn (f : D → (D → Prop) → Prop) (ta : DT) : DT := fun γ R => ta γ fun x γ1 => f x fun c => R c γ1
def OkR1 (B : Bs) (r : V → Hp → VK → Prop) (f : D → (D → Prop) → Prop) : Prop := ∀ G γ σ H x d R Q, Dst B G γ σ H → Rp B.K B.dk G x d → f d R →
  (∀ c G' v H', R c → Same G G' → Dst B G' γ σ H' → Rp B.K B.dk G' v c → Q v H') → r x H Q
theorem d_un {op : UnaryOp} {r : V → Hp → VK → Prop} {f : D → (D → Prop) → Prop} (ho : UnR X (unaryOp op) r) (hr : OkR1 B r f) (ha : PE X a (tD B ta)) : PE X (.UnaryOp op a pos) (tD B (dUn f ta)) := pe_imp (pe_un ho ha) fun σ H Q ⟨G, γ, R, S, h, k⟩ =>
  ⟨G, γ, _, S, h, fun d γ1 G1 v H1 h1 s1 S1 r1 => hr _ _ _ _ _ _ _ _ S1 r1 h1 fun c G3 w H3 h3 s3 S3 r3 => k _ _ _ _ _ h3 (s1.trans s3) S3 r3⟩
abbrev fNeg : D → (D → Prop) → Prop := fun d R => ∃ i, d = .int i ∧ R (.int (-i))
theorem ok_neg : OkR1 B (rU fun i => .int (-i)) fNeg := by
  rintro G γ σ H x d R Q S rx ⟨i, rfl, h⟩ k
  cases rpInt rx
  exact ⟨i, rfl, k _ _ _ _ h (Same.refl _) S (.int _)⟩
/-! ### truths -/
def dNot (ta : DT) : DT := fun γ R => ta γ fun x γ1 => ∃ c, x = .bl c ∧ R (.bl (!c)) γ1
theorem d_not (ha : PE X a (tD B ta)) : PE X (.UnaryOp .Not a pos) (tD B (dNot ta)) := pe_imp (pe_not ha) fun σ H Q ⟨G, γ, R, S, h, k⟩ =>
  ⟨G, γ, _, S, h, fun d γ1 G1 v H1 ⟨c, e, h1⟩ s1 S1 r1 => by
    subst e
    cases rpBl r1
    exact ⟨c, rfl, k _ _ _ _ _ h1 s1 S1 (.bl _)⟩⟩
def dAnd (ta tb : DT) : DT := fun γ R => ta γ fun x γ1 => ∃ c, x = .bl c ∧ (c = true → tb γ1 R) ∧ (c = false → R (.bl false) γ1)
def dOr (ta tb : DT) : DT := fun γ R => ta γ fun x γ1 => ∃ c, x = .bl c ∧ (c = true → R (.bl true) γ1) ∧ (c = false → tb γ1 R)
theorem d_one {op} (h : PE X a (tD B ta)) : PE X (.BoolOp op [a] pos) (tD B ta) := pe_one h
theorem d_and {rest : List Expr} (ha : PE X a (tD B ta)) (hb : PE X (.BoolOp .And (b :: rest) pos) (tD B tb)) : PE X (.BoolOp .And (a :: b :: rest) pos) (tD B (dAnd ta tb)) := pe_imp (pe_and ha hb) fun σ H Q ⟨G, γ, R, S, h, k⟩ =>
  ⟨G, γ, _, S, h, fun d γ1 G1 v H1 ⟨c, e, h1, h2⟩ s1 S1 r1 => by
    subst e
    cases rpBl r1
    refine ⟨c, rfl, ?_⟩
    cases c with
    | true =>
      rw [if_pos rfl]
      exact ⟨G1, γ1, R, S1, h1 rfl, fun d γ' G' v H' q s S r => k d γ' G' v H' q (s1.trans s) S r⟩
    | false =>
      rw [if_neg Bool.false_ne_true]
      exact k _ _ _ _ _ (h2 rfl) s1 S1 (.bl _)⟩
theorem d_or {rest : List Expr} (ha : PE X a (tD B ta)) (hb : PE X (.BoolOp .Or (b :: rest) pos) (tD B tb)) : PE X (.BoolOp .Or (a :: b :: rest) pos) (tD B (dOr ta tb)) := pe_imp (pe_or ha hb) fun σ H Q ⟨G, γ, R, S, h, k⟩ =>
  ⟨G, γ, _, S, h, fun d γ1 G1 v H1 ⟨c, e, h1, h2⟩ s1 S1 r1 => by
    subst e
    cases rpBl r1
    refine ⟨c, rfl, ?_⟩
    cases c with
    | true =>
      rw [if_pos rfl]
      exact k _ _ _ _ _ (h1 rfl) s1 S1 (.bl _)
    | false =>
      rw [if_neg Bool.false_ne_true]
      exact ⟨G1, γ1, R, S1, h2 rfl, fun d γ' G' v H' q s S r => k d γ' G' v H' q (s1.trans s) S r⟩⟩
/-! ### tests -/
def bB (ta : DT) : DB := fun γ R => ta γ fun x γ1 => ∃ c, x = .bl c ∧ R c γ1
theorem b_core : ∀ σ H Q, tDB B (bB ta) σ H Q → tB (tD B ta) σ H Q := fun σ H Q ⟨G, γ, R, S, h, k⟩ =>
  ⟨G, γ, _, S, h, fun d γ1 G1 v H1 ⟨c, e, h1⟩ s1 S1 r1 => by
    subst e
    cases rpBl r1
    exact ⟨c, rfl, k _ _ _ _ h1 s1 S1⟩⟩
theorem b_val (ha : PE X a (tD B ta)) (he : ∀ whole, isTrue a X.env whole = (do let v ← whole; standAt a.pos; holding [v] (truthy v)) := by intro _; rfl) : PT X a (tDB B (bB ta)) := pt_imp (pt_val ha he) b_core
theorem b_cmp {op : CmpOp} {r : R2} {f : F2} (ho : OpR X (compareOp op) r) (hr : OkR2 B r f) (ha : PE X a (tD B ta)) (hb : PE X b (tD B tb)) (hm : behindInMarks op b = false) : PT X (.Compare a [op] [b] pos) (tDB B (bB (dOp f ta tb))) :=
  pt_imp (pt_cmpR ho ha hb hm) fun σ H Q h => by
    obtain ⟨G, γ, R, S, h, k⟩ := h
    refine dop_core (ta := ta) (tb := tb) hr σ H _ ⟨G, γ, _, S, h, fun d γ1 G1 v H1 ⟨c, e, h1⟩ s1 S1 r1 => ?_⟩
    subst e
    cases rpBl r1
    exact ⟨c, rfl, k _ _ _ _ h1 s1 S1⟩
def bAnd (t u : DB) : DB := fun γ R => t γ fun c γ1 => (c = true → u γ1 R) ∧ (c = false → R false γ1)
def bOr (t u : DB) : DB := fun γ R => t γ fun c γ1 => (c = true → R true γ1) ∧ (c = false → u γ1 R)
def bNot (t : DB) : DB := fun γ R => t γ fun c γ1 => R (!c) γ1
theorem b_not {t : DB} (ha : PT X a (tDB B t)) : PT X (.UnaryOp .Not a pos) (tDB B (bNot t)) := pt_imp (pt_not ha) fun σ H Q ⟨G, γ, R, S, h, k⟩ => ⟨G, γ, _, S, h, fun c γ1 G1 H1 h1 s1 S1 => k _ _ _ _ h1 s1 S1⟩
theorem bw_and1 {t : DB} (ha : PT X a (tDB B t)) : PW X (.BoolOp .And [a] pos) (tDB B t) := pw_and1 ha
theorem bw_or1 {t : DB} (ha : PT X a (tDB B t)) : PW X (.BoolOp .Or [a] pos) (tDB B t) := pw_or1 ha
theorem bw_and {t u : DB} {rest : List Expr} (ha : PT X a (tDB B t)) (hb : PW X (.BoolOp .And (b :: rest) pos) (tDB B u)) : PW X (.BoolOp .And (a :: b :: rest) pos) (tDB B (bAnd t u)) := pw_imp (pw_and ha hb) fun σ H Q ⟨G, γ, R, S, h, k⟩ =>
  ⟨G, γ, _, S, h, fun c γ1 G1 H1 ⟨h1, h2⟩ s1 S1 => by
    cases c with
    | true =>
      rw [if_pos rfl]
      exact ⟨G1, γ1, R, S1, h1 rfl, fun d γ' G' H' q s S => k d γ' G' H' q (s1.trans s) S⟩
    | false =>
      rw [if_neg Bool.false_ne_true]
      exact k _ _ _ _ (h2 rfl) s1 S1⟩
theorem bw_or {t u : DB} {rest : List Expr} (ha : PT X a (tDB B t)) (hb : PW X (.BoolOp .Or (b :: rest) pos) (tDB B u)) : PW X (.BoolOp .Or (a :: b :: rest) pos) (tDB B (bOr t u)) := pw_imp (pw_or ha hb) fun σ H Q ⟨G, γ, R, S, h, k⟩ =>
  ⟨G, γ, _, S, h, fun c γ1 G1 H1 ⟨h1, h2⟩ s1 S1 => by
    cases c with
    | true =>
      rw [if_pos rfl]
      exact k _ _ _ _ (h1 rfl) s1 S1
    | false =>
      rw [if_neg Bool.false_ne_true]
      exact ⟨G1, γ1, R, S1, h2 rfl, fun d γ' G' H' q s S => k d γ' G' H' q (s1.trans s) S⟩⟩
/-! ### a if t else b -/
def dIfE (t : DB) (ta tb : DT) : DT := fun γ R => t γ fun c γ1 => (c = true → ta γ1 R) ∧ (c = false → tb γ1 R)
theorem d_ifE {c : Expr} {t : DB} (hc : PT X c (tDB B t)) (ha : PE X a (tD B ta)) (hb : PE X b (tD B tb)) : PE X (.IfExp c a b pos) (tD B (dIfE t ta tb)) := pe_imp (pe_ifExp hc ha hb) fun σ H Q ⟨G, γ, R, S, h, k⟩ =>
  ⟨G, γ, _, S, h, fun c γ1 G1 H1 ⟨h1, h2⟩ s1 S1 => by
    cases c with
    | true =>
      rw [if_pos rfl]
      exact ⟨G1, γ1, R, S1, h1 rfl, fun d γ' G' v H' q s S r => k d γ' G' v H' q (s1.trans s) S r⟩
    | false =>
      rw [if_neg Bool.false_ne_true]
      exact ⟨G1, γ1, R, S1, h2 rfl, fun d γ' G' v H' q s S r => k d γ' G' v H' q (s1.trans s) S r⟩⟩
/-! ### several, tuples, lists -/
def aNil : DA := fun γ R => R [] γ
def aCons (ta : DT) (tr : DA) : DA := fun γ R => ta γ fun x γ1 => tr γ1 fun xs γ2 => R (x :: xs) γ2
theorem a_nil : PA X [] (tDA B aNil) := pa_imp pa_nil fun σ H Q ⟨_, _, _, S, h, k⟩ => k _ _ _ _ _ h (Same.refl _) S .nil
theorem acons_core {tr : DA} : ∀ σ H Q, tDA B (aCons ta tr) σ H Q → tCons (tD B ta) (tDA B tr) σ H Q := fun σ H Q ⟨G, γ, R, S, h, k⟩ =>
  ⟨G, γ, _, S, h, fun d γ1 G1 v H1 h1 s1 S1 r1 => ⟨G1, γ1, _, S1, h1, fun ds γ2 G2 vs H2 h2 s2 S2 r2 => k _ _ _ _ _ h2 (s1.trans s2) S2 (.cons (r1.mono s2) r2)⟩⟩
theorem a_cons {es : List Expr} {tr : DA} (ha : PE X e (tD B ta)) (hr : PA X es (tDA B tr)) (hs : starEach (e :: es) X.env = (false, eval e X.env) :: starEach es X.env := by rfl) : PA X (e :: es) (tDA B (aCons ta tr)) := pa_imp (pa_cons ha hr hs) acons_core
def dTup (t : DA) : DT := fun γ R => t γ fun ds γ1 => ds.length ≤ 1000000 ∧ R (.tup ds) γ1
theorem sz_ok {n : Nat} (h : n ≤ 1000000) : n ≤ sizeLine := Nat.le_trans h (by decide)
theorem Dst.newTup (S : Dst B G γ σ H) {vs : List V} {ds : List D} (r : RpAll B.K B.dk G vs ds) {p : Addr} (hp : H p = none) : ∃ G', Same G G' ∧ Dst B G' γ σ (upd H p (.tup vs)) ∧ Rp B.K B.dk G' (.ref p) (.tup ds) := by
  obtain ⟨S2, sm⟩ := S.new (o := .tup vs) hp
  exact ⟨_, sm, S2, .tup upd_same (r.mono sm)⟩
theorem Dst.newLst (S : Dst B G γ σ H) {vs : List V} {ds : List D} (r : RpAll B.K B.dk G vs ds) {p : Addr} (hp : H p = none) : ∃ G', Same G G' ∧ Dst B G' γ σ (upd H p (.lst vs)) ∧ Rp B.K B.dk G' (.ref p) (.lst ds) := by
  obtain ⟨S2, sm⟩ := S.new (o := .lst vs) hp
  exact ⟨_, sm, S2, .lst upd_same (r.mono sm)⟩
theorem d_tup {es : List Expr} {t : DA} {x1} (h : PA X es (tDA B t)) : PE X (.Tuple es x1 pos) (tD B (dTup t)) := pe_imp (pe_tup h) fun σ H Q ⟨G, γ, R, S, h, k⟩ =>
  ⟨G, γ, _, S, h, fun ds γ1 G1 vs H1 ⟨hl, h1⟩ s1 S1 r1 => ⟨by rw [r1.len]; exact sz_ok hl, fun p hp => by
    obtain ⟨G2, s2, S2, r2⟩ := S1.newTup r1 hp
    exact k _ _ _ _ _ h1 (s1.trans s2) S2 r2⟩⟩
/-- a list that is made -/
def fLst (t : DA) : DA := fun γ R => t γ fun ds γ1 => ds.length ≤ 1000000 ∧ R ds γ1
theorem f_lst {es : List Expr} {t : DA} (h : PA X es (tDA B t)) : PE X (.List es pos) (tDF B (fLst t)) := pe_imp (pe_lst h) fun σ H Q ⟨G, γ, R, S, h, k⟩ =>
  ⟨G, γ, _, S, h, fun ds γ1 G1 vs H1 ⟨hl, h1⟩ s1 S1 r1 => ⟨by rw [r1.len]; exact sz_ok hl, fun p hp =>
    k _ _ _ _ _ _ h1 s1 (S1.laid hp) upd_same r1 (S1.free0 hp) (S1.sub.free hp) (S1.noown hp)⟩⟩
/-- handed on: from then on it is read alone -/
def dF (t : DA) : DT := fun γ R => t γ fun ds γ1 => R (.lst ds) γ1
theorem d_f {t : DA} (h : PE X e (tDF B t)) : PE X e (tD B (dF t)) := pe_imp h fun σ H Q ⟨G, γ, R, S, h, k⟩ =>
  ⟨G, γ, _, S, h, fun ds γ1 G1 p vs H1 h1 s1 S1 hp r1 h0 hg hn => by
    obtain ⟨S2, sm⟩ := S1.frz hp h0 hg hn
    exact k _ _ _ _ _ h1 (s1.trans sm) S2 (.lst upd_same (r1.mono sm))⟩
end
end DL
namespace DL
open PySem PySem.Spec PyProof.Rows L2
/-! ### statements -/
structure DEnds where
  nx : Gm → Prop
  rt : D → Prop
  bk : Gm → Prop := fun _ => False
  ct : Gm → Prop := fun _ => False
abbrev DS := DEnds → Gm → Prop
structure Fin (B : Bs) (G : Hp) (E : DEnds) (D : Ends) : Prop where
  nx : ∀ γ G' σ H, E.nx γ → Same G G' → Dst B G' γ σ H → D.nx σ H
  rt : ∀ d γ G' σ v H, E.rt d → Same G G' → Dst B G' γ σ H → Rp B.K B.dk G' v d → D.rt v H
  bk : ∀ γ G' σ H, E.bk γ → Same G G' → Dst B G' γ σ H → D.bk σ H
  ct : ∀ γ G' σ H, E.ct γ → Same G G' → Dst B G' γ σ H → D.ct σ H
def tDS (B : Bs) (s : DS) : TS := fun D σ H => ∃ G γ E, Dst B G γ σ H ∧ s E γ ∧ Fin B G E D
section
variable {X : Cx} {B : Bs} {G G' G1 : Hp} {γ γ' : Gm} {σ : L2.St} {H H' : Hp} {e a b : Expr} {ta tb t : DT} {pos : Pos} {st : Stmt} {rest sts : List Stmt} {s u : DS} {E : DEnds} {De : Ends}
theorem Fin.mono (F : Fin B G E De) (h : Same G G') : Fin B G' E De :=
  ⟨fun γ G2 σ H q s S => F.nx γ G2 σ H q (h.trans s) S, fun d γ G2 σ v H q s S r => F.rt d γ G2 σ v H q (h.trans s) S r, fun γ G2 σ H q s S => F.bk γ G2 σ H q (h.trans s) S, fun γ G2 σ H q s S => F.ct γ G2 σ H q (h.trans s) S⟩
def sSeq (s u : DS) : DS := fun E γ => s { nx := fun γ' => u E γ', rt := E.rt, bk := E.bk, ct := E.ct } γ
def sCut (s u : DS) : DS := fun E γ => ∃ I : Gm → Prop, s { nx := I, rt := E.rt, bk := E.bk, ct := E.ct } γ ∧ ∀ γ', I γ' → u E γ'
def sNil : DS := fun E γ => E.nx γ
theorem ss_nil : PSs X [] (tDS B sNil) := pss_imp pss_nil fun D σ H ⟨G, γ, E, S, h, F⟩ => F.nx γ G σ H h (Same.refl _) S
theorem ss_one (h : PS X st (tDS B s)) : PSs X [st] (tDS B s) := pss_one h
theorem ss_cons (h1 : PS X st (tDS B s)) (h2 : PSs X rest (tDS B u)) : PSs X (st :: rest) (tDS B (sSeq s u)) := pss_imp (pss_cons h1 h2) fun D σ H ⟨G, γ, E, S, h, F⟩ =>
  ⟨G, γ, _, S, h, ⟨fun γ1 G1 σ1 H1 q sm S1 => ⟨G1, γ1, E, S1, q, F.mono sm⟩, F.rt, F.bk, F.ct⟩⟩
theorem ss_cut (h1 : PS X st (tDS B s)) (h2 : PSs X rest (tDS B u)) : PSs X (st :: rest) (tDS B (sCut s u)) := pss_imp (pss_cons h1 h2) fun D σ H ⟨G, γ, E, S, ⟨I, h, k⟩, F⟩ =>
  ⟨G, γ, _, S, h, ⟨fun γ1 G1 σ1 H1 q sm S1 => ⟨G1, γ1, E, S1, k _ q, F.mono sm⟩, F.rt, F.bk, F.ct⟩⟩
theorem s_dead : PS X st (tDS B fun _ _ => False) := ⟨fun _ _ _ _ _ _ ⟨_, _, _, _, h, _⟩ => h.elim⟩
theorem s_pass : PS X (.Pass pos) (tDS B sNil) := ps_imp ps_pass fun D σ H ⟨G, γ, E, S, h, F⟩ => F.nx γ G σ H h (Same.refl _) S
def sBrk : DS := fun E γ => E.bk γ
def sCnt : DS := fun E γ => E.ct γ
theorem s_break : PS X (.Break pos) (tDS B sBrk) := ps_imp ps_break fun D σ H ⟨G, γ, E, S, h, F⟩ => F.bk γ G σ H h (Same.refl _) S
theorem s_continue : PS X (.Continue pos) (tDS B sCnt) := ps_imp ps_continue fun D σ H ⟨G, γ, E, S, h, F⟩ => F.ct γ G σ H h (Same.refl _) S
def sExpr (t : DT) : DS := fun E γ => t γ fun _ γ1 => E.nx γ1
theorem s_expr (h : PS X st (tDrop (tD B t))) : PS X st (tDS B (sExpr t)) := ps_imp h fun D σ H ⟨G, γ, E, S, h, F⟩ => ⟨G, γ, _, S, h, fun d γ1 G1 v H1 q sm S1 _ => F.nx _ _ _ _ q sm S1⟩
def sRet (t : DT) : DS := fun E γ => t γ fun d _ => E.rt d
theorem s_ret (h : PE X e (tD B t)) : PS X (.Return (some e) pos) (tDS B (sRet t)) := ps_imp (ps_ret h) fun D σ H ⟨G, γ, E, S, h, F⟩ => ⟨G, γ, _, S, h, fun d γ1 G1 v H1 q sm S1 r => F.rt _ _ _ _ _ _ q sm S1 r⟩
def sRetN : DS := fun E _ => E.rt .non
theorem s_retN : PS X (.Return none pos) (tDS B sRetN) := ps_imp ps_retN fun D σ H ⟨G, γ, E, S, h, F⟩ => F.rt _ γ G σ _ _ h (Same.refl _) S .non
def sIf (c : DB) (s u : DS) : DS := fun E γ => c γ fun b γ1 => (b = true → s E γ1) ∧ (b = false → u E γ1)
theorem s_if {c : Expr} {xs ys : List Stmt} {tc : DB} (hc : PT X c (tDB B tc)) (ha : PSs X xs (tDS B s)) (hb : PSs X ys (tDS B u)) : PS X (.If c xs ys pos) (tDS B (sIf tc s u)) := ps_imp (ps_if hc ha hb) fun D σ H ⟨G, γ, E, S, h, F⟩ =>
  ⟨G, γ, _, S, h, fun b γ1 G1 H1 ⟨h1, h2⟩ sm S1 => by
    cases b with
    | true => rw [if_pos rfl]; exact ⟨G1, γ1, E, S1, h1 rfl, F.mono sm⟩
    | false => rw [if_neg Bool.false_ne_true]; exact ⟨G1, γ1, E, S1, h2 rfl, F.mono sm⟩⟩
/-! ### stores into names -/
def sSet (i : Nat) (t : DT) : DS := fun E γ => t γ fun d γ1 => E.nx (putS γ1 i (.fz d))
theorem s_set {i : Nat} (h : PS X st (tAsg (tD B t) (gName i))) : PS X st (tDS B (sSet i t)) := ps_imp h fun D σ H ⟨G, γ, E, S, h, F⟩ => ⟨G, γ, _, S, h, fun d γ1 G1 v H1 q sm S1 r => by
  rw [putS_eq] at q
  exact F.nx _ _ _ _ q sm (S1.set r)⟩
def sOwn (i : Nat) (t : DA) : DS := fun E γ => t γ fun ds γ1 => ∀ p, E.nx (putS γ1 i (.own p ds))
theorem s_own {i : Nat} {t : DA} (h : PS X st (tAsg (tDF B t) (gName i))) : PS X st (tDS B (sOwn i t)) := ps_imp h fun D σ H ⟨G, γ, E, S, h, F⟩ => ⟨G, γ, _, S, h, fun ds γ1 G1 p vs H1 q sm S1 hp r h0 hg hn => by
  have q := q p
  rw [putS_eq] at q
  refine F.nx _ _ _ _ q sm (slot_set S1 (v := .ref p) (s := .own p ds) ⟨rfl, ⟨vs, hp, r⟩, h0, hg⟩ fun p' ds' e j es _ => ?_)
  cases e
  exact hn j es⟩
def sPar (i j : Nat) (t : DA) : DS := fun E γ => t γ fun ds γ1 => ∃ d e, ds = [d, e] ∧ E.nx (putS (putS γ1 i (.fz d)) j (.fz e))
theorem s_par {i j : Nat} {t : DA} (h : PS X st (tPar i j (tDA B t))) : PS X st (tDS B (sPar i j t)) := ps_imp h fun D σ H ⟨G, γ, E, S, h, F⟩ => ⟨G, γ, _, S, h, fun ds γ1 G1 vs H1 ⟨d, e, hds, q⟩ sm S1 r => by
  subst hds
  cases r with
  | cons r1 r2 =>
    cases r2 with
    | cons r2 r3 =>
      cases r3
      rw [putS_eq, putS_eq] at q
      exact ⟨_, _, rfl, F.nx _ _ _ _ q sm ((S1.set r1).set r2)⟩⟩
/-! ### targets -/
abbrev BdT := D → Gm → (Gm → Prop) → Prop
theorem wipe_set (σ : L2.St) (i : Nat) (x : Option V) : ∀ vs : List Nat, wipe (σ.set i x) vs = if i ∈ vs then wipe σ vs else (wipe σ vs).set i x
  | [] => by simp [wipe]
  | v :: vs => by
    show (wipe (σ.set i x) vs).set v none = _
    rw [wipe_set σ i x vs]
    by_cases h : i ∈ vs
    · rw [if_pos h, if_pos (List.mem_cons_of_mem _ h)]
      rfl
    · rw [if_neg h]
      by_cases z : i = v
      · subst z
        rw [if_pos List.mem_cons_self, List.set_set]
        rfl
      · rw [if_neg (by simp only [List.mem_cons, not_or]; exact ⟨z, h⟩), List.set_comm _ _ z]
        rfl
/-- a target: what it stores, in slots of vs alone -/
def tDG (B : Bs) (vs : List Nat) (b : BdT) : TG := fun v σ H Q => ∃ G γ d R, Dst B G γ σ H ∧ Rp B.K B.dk G v d ∧ b d γ R ∧ ∀ γ' σ', R γ' → Dst B G γ' σ' H → wipe σ' vs = wipe σ vs → Q σ' H
def tDGs (B : Bs) (vs : List Nat) (b : List D → Gm → (Gm → Prop) → Prop) : TGs := fun us σ H Q => ∃ G γ ds R, Dst B G γ σ H ∧ RpAll B.K B.dk G us ds ∧ b ds γ R ∧ ∀ γ' σ', R γ' → Dst B G γ' σ' H → wipe σ' vs = wipe σ vs → Q σ' H
theorem pg_imp {tg : Expr} {g g' : TG} (h : PG X tg g) (k : ∀ v σ H Q, g' v σ H Q → g v σ H Q) : PG X tg g' := ⟨fun pins s σ H v u Q I r q => h.run pins s σ H v u Q I r (k v σ H Q q)⟩
theorem pgs_imp {tg : List Expr} {g g' : TGs} (h : PGs X tg g) (k : ∀ v σ H Q, g' v σ H Q → g v σ H Q) : PGs X tg g' := ⟨fun pins s σ H v u Q I r q => h.run pins s σ H v u Q I r (k v σ H Q q)⟩
def bN (i : Nat) : BdT := fun d γ R => R (putS γ i (.fz d))
theorem g_name {tg : Expr} {i : Nat} {vs : List Nat} (h : PG X tg (gName i)) (hi : i ∈ vs := by simp) : PG X tg (tDG B vs (bN i)) := pg_imp h fun v σ H Q ⟨G, γ, d, R, S, r, q, k⟩ => by
  refine k _ _ q ?_ ?_
  · rw [putS_eq]; exact S.set r
  · rw [wipe_set, if_pos hi]
def bsNil : List D → Gm → (Gm → Prop) → Prop := fun ds γ R => ds = [] ∧ R γ
def bsCons (b : BdT) (bs : List D → Gm → (Gm → Prop) → Prop) : List D → Gm → (Gm → Prop) → Prop := fun ds γ R => ∃ d r, ds = d :: r ∧ b d γ fun γ1 => bs r γ1 R
theorem gs_nil {vs : List Nat} : PGs X [] (tDGs B vs bsNil) := pgs_imp pgs_nil fun us σ H Q ⟨G, γ, ds, R, S, r, ⟨e, q⟩, k⟩ => by
  subst e
  cases r
  exact ⟨rfl, k _ _ q S rfl⟩
theorem gs_cons {tg : Expr} {tgs : List Expr} {vs : List Nat} {b : BdT} {bs} (h1 : PG X tg (tDG B vs b)) (h2 : PGs X tgs (tDGs B vs bs)) (h : PGs X (tg :: tgs) (gCons (tDG B vs b) (tDGs B vs bs))) : PGs X (tg :: tgs) (tDGs B vs (bsCons b bs)) := pgs_imp h fun us σ H Q ⟨G, γ, ds, R, S, r, ⟨d, ds', e, q⟩, k⟩ => by
  subst e
  cases r with
  | cons r1 r2 =>
    exact ⟨_, _, rfl, G, γ, d, _, S, r1, q, fun γ1 σ1 q1 S1 w1 => ⟨G, γ1, ds', R, S1, r2, q1, fun γ2 σ2 q2 S2 w2 => k _ _ q2 S2 (w2.trans w1)⟩⟩
def bT (bs : List D → Gm → (Gm → Prop) → Prop) (n : Nat) : BdT := fun d γ R => ∃ ds, d = .tup ds ∧ ds.length = n ∧ bs ds γ R
theorem g_tup {tg : Expr} {n : Nat} {vs : List Nat} {bs} (h : PG X tg (gTup B.K n (tDGs B vs bs))) : PG X tg (tDG B vs (bT bs n)) := pg_imp h fun v σ H Q ⟨G, γ, d, R, S, r, ⟨ds, e, hl, q⟩, k⟩ => by
  subst e
  cases r with
  | tup hs ra => exact ⟨_, _, rfl, SqT.of (S.sub _ _ hs), by rw [ra.len]; exact hl, G, γ, ds, R, S, ra, q, k⟩
/-- e handed to any target -/
def sAsg (t : DT) (b : BdT) : DS := fun E γ => t γ fun d γ1 => b d γ1 E.nx
theorem s_asg {vs : List Nat} {bd : BdT} (h : PS X st (tAsg (tD B t) (tDG B vs bd))) : PS X st (tDS B (sAsg t bd)) := ps_imp h fun D σ H ⟨G, γ, E, S, h, F⟩ => ⟨G, γ, _, S, h, fun d γ1 G1 v H1 q sm S1 r => ⟨G1, γ1, d, _, S1, r, q, fun γ2 σ2 q2 S2 _ => F.nx _ _ _ _ q2 sm S2⟩⟩
/-! ### what is walked -/
abbrev withH (B : Bs) (H0 : Hp) : Bs := ⟨B.K, B.dk, B.DkAt, H0, B.G0⟩
/-- the iterator gives just these, whatever is tracked beside -/
def WalkD (B : Bs) (J : It) (G1 : Hp) (ds : List D) : Prop := ∀ H0 G γ σ H, Same G1 G → Dst (withH B H0) G γ σ H →
  J.stop ds.length H ∧ ∀ i d, ds[i]? = some d → J.go i H ∧ ∀ x H', J.yld i H x H' → ∃ G', Same G G' ∧ Dst (withH B H0) G' γ σ H' ∧ Rp B.K B.dk G' x d
def tDI (B : Bs) (t : DA) : TI := fun σ H R' => ∃ G γ R, Dst B G γ σ H ∧ t γ R ∧ ∀ ds γ' G' H' J, R ds γ' → Same G G' → Dst B G' γ' σ H' → WalkD B J G' ds → R' J H'
theorem pi_imp {tg it : Expr} {w w' : TI} (h : PI X tg it w) (k : ∀ σ H R, w' σ H R → w σ H R) : PI X tg it w' := ⟨fun pins s σ H R I q => h.run pins s σ H R I (k σ H R q)⟩
theorem pi_seq {tg l : Expr} {tl : TE} (hl : PE X l tl) : PI X tg l (fun σ H R => tl σ H fun x H1 => ∃ a, x = .ref a ∧ ((∃ xs, SqL X.K H1 a xs) ∧ R (Itl X.K a) H1 ∨ (∃ xs, SqT X.K H1 a xs) ∧ R (Itt X.K a) H1)) := by
  refine ⟨fun pins s σ H R I h => ?_⟩
  refine thn (hl.run pins s σ H _ I h) fun v s1 ⟨x, H1, I1, r1, q1⟩ => ?_
  obtain ⟨a, e, q⟩ := q1
  subst e
  cases r1
  rcases q with ⟨⟨xs, hq⟩, q⟩ | ⟨⟨xs, hq⟩, q⟩
  · obtain ⟨its, rv, p, hz⟩ := I1.list hq
    refine wpAny_pyIter_list p.isList ?_
    refine ⟨s1.heap.objs.size, [s1.heap.objs.size], _, _, H1, rfl, I1.kept (t' := s1.toks) fun b o e => Heap.get?_push_of_some _ e, turn_list a _, ⟨_, Heap.get?_push_size _ rfl, rfl, rfl⟩, fun b hb => ?_, q⟩
    have e : b = s1.heap.objs.size := by simpa using hb
    subst e
    exact I1.fpOk (Nat.le_refl _) (I1.hok.fresh (Nat.le_refl _))
  · obtain ⟨its, rv, p, hz⟩ := I1.tuple hq
    refine wpAny_pyIter_tuple (show s1.heap.IsTuple a its.toArray from p) ?_
    refine ⟨s1.heap.objs.size, [s1.heap.objs.size], _, _, H1, rfl, I1.kept (t' := s1.toks) fun b o e => Heap.get?_push_of_some _ e, turn_tuple a _, ⟨_, Heap.get?_push_size _ rfl, rfl, rfl⟩, fun b hb => ?_, q⟩
    have e : b = s1.heap.objs.size := by simpa using hb
    subst e
    exact I1.fpOk (Nat.le_refl _) (I1.hok.fresh (Nat.le_refl _))
/-- the things of a list, a tuple -/
def itemsD : D → Option (List D)
  | .lst ds => some ds
  | .tup ds => some ds
  | _ => none
def iSeq (t : DT) : DA := fun γ R => t γ fun d γ1 => ∃ ds, itemsD d = some ds ∧ R ds γ1
theorem walkD_list {a : Addr} {vs : List V} {ds : List D} (h : SqL B.K G1 a vs) (r : RpAll B.K B.dk G1 vs ds) : WalkD B (Itl B.K a) G1 ds := fun H0 G γ σ H sm S => by
  have hs : SqL B.K H a vs := S.sub.seq (sm.seq h)
  refine ⟨⟨vs, hs, by rw [r.len]; exact Nat.le_refl _⟩, fun i d hd => ?_⟩
  obtain ⟨v, hv, rv⟩ := r.get hd
  refine ⟨⟨vs, v, hs, hv⟩, fun x H' y => ?_⟩
  obtain ⟨e, y⟩ := y
  subst e
  have := y vs hs
  rw [hv] at this
  cases this
  exact ⟨G, Same.refl _, S, rv.mono sm⟩
theorem walkD_tup {a : Addr} {vs : List V} {ds : List D} (h : SqT B.K G1 a vs) (r : RpAll B.K B.dk G1 vs ds) : WalkD B (Itt B.K a) G1 ds := fun H0 G γ σ H sm S => by
  have hs : SqT B.K H a vs := sqT_mono S.sub (sqT_mono sm h)
  refine ⟨⟨vs, hs, by rw [r.len]; exact Nat.le_refl _⟩, fun i d hd => ?_⟩
  obtain ⟨v, hv, rv⟩ := r.get hd
  refine ⟨⟨vs, v, hs, hv⟩, fun x H' y => ?_⟩
  obtain ⟨e, y⟩ := y
  subst e
  have := y vs hs
  rw [hv] at this
  cases this
  exact ⟨G, Same.refl _, S, rv.mono sm⟩
theorem i_seq {tg l : Expr} (hK : X.K = B.K) (hl : PE X l (tD B t)) : PI X tg l (tDI B (iSeq t)) := pi_imp (pi_seq hl) fun σ H R' ⟨G, γ, R, S, h, k⟩ => ⟨G, γ, _, S, h, fun d γ1 G1 v H1 ⟨ds, e, q⟩ sm S1 r => by
  unfold itemsD at e
  split at e
  · cases e
    cases r with
    | @lst a vs _ hs ra =>
      refine ⟨a, rfl, .inl ⟨⟨vs, ?_⟩, ?_⟩⟩
      · rw [hK]; exact SqL.of (S1.sub _ _ hs)
      · rw [hK]; exact k _ _ _ _ _ q sm S1 (walkD_list (SqL.of hs) ra)
  · cases e
    cases r with
    | @tup a vs _ hs ra =>
      refine ⟨a, rfl, .inr ⟨⟨vs, ?_⟩, ?_⟩⟩
      · rw [hK]; exact SqT.of (S1.sub _ _ hs)
      · rw [hK]; exact k _ _ _ _ _ q sm S1 (walkD_tup (SqT.of hs) ra)
  · cases e⟩
def rngD (lo : Int) (n : Nat) : List D := (List.range n).map fun k : Nat => .int (lo + k)
theorem walkD_rng {lo : Int} {n : Nat} : WalkD B (Itr lo n) G1 (rngD lo n) := fun H0 G γ σ H sm S => by
  refine ⟨by show n ≤ (rngD lo n).length; simp [rngD], fun i d hd => ?_⟩
  have hi : i < n := by
    have := (List.getElem?_eq_some_iff.mp hd).1
    simpa [rngD] using this
  have e : d = .int (lo + i) := by
    simp [rngD, hi] at hd
    exact hd.symm
  subst e
  refine ⟨hi, fun x H' y => ?_⟩
  obtain ⟨e, y⟩ := y
  subst e y
  exact ⟨G, Same.refl _, S, .int _⟩
def iRng1D (t : DA) : DA := fun γ R => t γ fun ds γ1 => ∃ j : Int, ds = [.int j] ∧ -(2 ^ 62) ≤ j ∧ j < 2 ^ 62 ∧ R (rngD 0 j.toNat) γ1
theorem i_rng1 {tg it : Expr} {t : DA} (h : PI X tg it (iRng1 (tDA B t))) : PI X tg it (tDI B (iRng1D t)) := pi_imp h fun σ H R' ⟨G, γ, R, S, h, k⟩ => ⟨G, γ, _, S, h, fun ds γ1 G1 vs H1 ⟨j, e, l1, l2, q⟩ sm S1 r => by
  subst e
  cases r with
  | cons r1 r2 =>
    cases r2
    cases rpInt r1
    exact ⟨j, rfl, l1, l2, k _ _ _ _ _ q sm S1 walkD_rng⟩⟩
def iRng2D (t : DA) : DA := fun γ R => t γ fun ds γ1 => ∃ i j : Int, ds = [.int i, .int j] ∧ (-(2 ^ 62) ≤ i ∧ i < 2 ^ 62 ∧ -(2 ^ 62) ≤ j ∧ j < 2 ^ 62) ∧ R (rngD i (j - i).toNat) γ1
theorem i_rng2 {tg it : Expr} {t : DA} (h : PI X tg it (iRng2 (tDA B t))) : PI X tg it (tDI B (iRng2D t)) := pi_imp h fun σ H R' ⟨G, γ, R, S, h, k⟩ => ⟨G, γ, _, S, h, fun ds γ1 G1 vs H1 ⟨i, j, e, l, q⟩ sm S1 r => by
  subst e
  cases r with
  | cons r1 r2 =>
    cases r2 with
    | cons r2 r3 =>
      cases r3
      cases rpInt r1
      cases rpInt r2
      exact ⟨i, j, rfl, l, k _ _ _ _ _ q sm S1 walkD_rng⟩⟩
/-- new pairs -/
theorem pair_step {G γ σ H} {x y : V} {d e : D} {T : Addr} (S : Dst B G γ σ H) (rx : Rp B.K B.dk G x d) (ry : Rp B.K B.dk G y e) (hT : H T = none) : ∃ G', Same G G' ∧ Dst B G' γ σ (upd H T (.tup [x, y])) ∧ Rp B.K B.dk G' (.ref T) (.tup [d, e]) :=
  S.newTup (.cons rx (.cons ry .nil)) hT
def enumD (ds : List D) : List D := ds.zipIdx.map fun p => .tup [.int (p.2 : Nat), p.1]
theorem enumD_get {ds : List D} {i : Nat} {c : D} (h : (enumD ds)[i]? = some c) : ∃ d, ds[i]? = some d ∧ c = .tup [.int (i : Nat), d] := by
  unfold enumD at h
  rw [List.getElem?_map, List.getElem?_zipIdx] at h
  cases q : ds[i]? with
  | none => rw [q] at h; cases h
  | some d =>
    rw [q] at h
    simp at h
    exact ⟨d, rfl, h.symm⟩
theorem enumD_len {ds : List D} : (enumD ds).length = ds.length := by simp [enumD]
theorem walkD_enum {a : Addr} {vs : List V} {ds : List D} (h : SqL B.K G1 a vs) (r : RpAll B.K B.dk G1 vs ds) : WalkD B (Ite B.K a) G1 (enumD ds) := fun H0 G γ σ H sm S => by
  have hs : SqL B.K H a vs := S.sub.seq (sm.seq h)
  refine ⟨⟨vs, hs, by rw [r.len, enumD_len]; exact Nat.le_refl _⟩, fun i c hc => ?_⟩
  obtain ⟨d, hd, rfl⟩ := enumD_get hc
  obtain ⟨v, hv, rv⟩ := r.get hd
  refine ⟨⟨vs, v, hs, hv⟩, fun x H' y => ?_⟩
  obtain ⟨T, x', h1, h2, h3, h4⟩ := y
  have := h4 vs hs
  rw [hv] at this
  cases this
  subst h1 h3
  exact pair_step (B := withH B H0) S (.int _) (rv.mono sm) h2
def iEnumD (t : DA) : DA := fun γ R => t γ fun ds γ1 => ∃ es, ds = [.lst es] ∧ R (enumD es) γ1
theorem i_enum {tg it : Expr} {t : DA} (h : PI X tg it (iEnum B.K (tDA B t))) : PI X tg it (tDI B (iEnumD t)) := pi_imp h fun σ H R' ⟨G, γ, R, S, h, k⟩ => ⟨G, γ, _, S, h, fun ds γ1 G1 vs H1 ⟨es, e, q⟩ sm S1 r => by
  subst e
  cases r with
  | cons r1 r2 =>
    cases r2
    cases r1 with
    | lst hs ra => exact ⟨_, _, rfl, SqL.of (S1.sub _ _ hs), k _ _ _ _ _ q sm S1 (walkD_enum (SqL.of hs) ra)⟩⟩
def zipD (ds es : List D) : List D := (ds.zip es).map fun p => .tup [p.1, p.2]
theorem zipD_get {ds es : List D} {i : Nat} {c : D} (h : (zipD ds es)[i]? = some c) : ∃ d e, ds[i]? = some d ∧ es[i]? = some e ∧ c = .tup [d, e] := by
  unfold zipD at h
  rw [List.getElem?_map] at h
  cases q : (ds.zip es)[i]? with
  | none => rw [q] at h; cases h
  | some p =>
    rw [q] at h
    simp at h
    obtain ⟨h1, h2⟩ := List.getElem?_zip_eq_some.mp q
    exact ⟨p.1, p.2, h1, h2, h.symm⟩
theorem zipD_len {ds es : List D} : (zipD ds es).length = min ds.length es.length := by simp [zipD]
theorem walkD_zip {a b : Addr} {vs us : List V} {ds es : List D} (h : SqL B.K G1 a vs) (r : RpAll B.K B.dk G1 vs ds) (h' : SqL B.K G1 b us) (r' : RpAll B.K B.dk G1 us es) : WalkD B (Itz B.K a b) G1 (zipD ds es) := fun H0 G γ σ H sm S => by
  have hs : SqL B.K H a vs := S.sub.seq (sm.seq h)
  have hs' : SqL B.K H b us := S.sub.seq (sm.seq h')
  refine ⟨⟨vs, us, hs, hs', by rw [zipD_len, r.len, r'.len]; omega⟩, fun i c hc => ?_⟩
  obtain ⟨d, e, hd, he, rfl⟩ := zipD_get hc
  obtain ⟨v, hv, rv⟩ := r.get hd
  obtain ⟨u, hu, ru⟩ := r'.get he
  refine ⟨⟨vs, us, v, u, hs, hs', hv, hu⟩, fun x H' y => ?_⟩
  obtain ⟨T, x', y', h1, h2, h3, h4, h5⟩ := y
  have e1 := h4 vs hs
  rw [hv] at e1
  cases e1
  have e2 := h5 us hs'
  rw [hu] at e2
  cases e2
  subst h1 h3
  exact pair_step (B := withH B H0) S (rv.mono sm) (ru.mono sm) h2
theorem walkD_zipT {a b : Addr} {vs us : List V} {ds es : List D} (h : SqT B.K G1 a vs) (r : RpAll B.K B.dk G1 vs ds) (h' : SqT B.K G1 b us) (r' : RpAll B.K B.dk G1 us es) : WalkD B (RZ.ItzT B.K a b) G1 (zipD ds es) := fun H0 G γ σ H sm S => by
  have hs : SqT B.K H a vs := sqT_mono S.sub (sqT_mono sm h)
  have hs' : SqT B.K H b us := sqT_mono S.sub (sqT_mono sm h')
  refine ⟨⟨vs, us, hs, hs', by rw [zipD_len, r.len, r'.len]; omega⟩, fun i c hc => ?_⟩
  obtain ⟨d, e, hd, he, rfl⟩ := zipD_get hc
  obtain ⟨v, hv, rv⟩ := r.get hd
  obtain ⟨u, hu, ru⟩ := r'.get he
  refine ⟨⟨vs, us, v, u, hs, hs', hv, hu⟩, fun x H' y => ?_⟩
  obtain ⟨T, x', y', h1, h2, h3, h4, h5⟩ := y
  have e1 := h4 vs hs
  rw [hv] at e1
  cases e1
  have e2 := h5 us hs'
  rw [hu] at e2
  cases e2
  subst h1 h3
  exact pair_step (B := withH B H0) S (rv.mono sm) (ru.mono sm) h2
/-- both lists, or both tuples -/
def iZipD (t : DA) : DA := fun γ R => t γ fun ds γ1 => ∃ xs ys, (ds = [.lst xs, .lst ys] ∨ ds = [.tup xs, .tup ys]) ∧ R (zipD xs ys) γ1
theorem i_zip {tg it : Expr} {t : DA} (h : PI X tg it (RZ.iZipA B.K (tDA B t))) : PI X tg it (tDI B (iZipD t)) := pi_imp h fun σ H R' ⟨G, γ, R, S, h, k⟩ => ⟨G, γ, _, S, h, fun ds γ1 G1 vs H1 ⟨xs, ys, e, q⟩ sm S1 r => by
  rcases e with e | e
  · subst e
    cases r with
    | cons r1 r2 =>
      cases r2 with
      | cons r2 r3 =>
        cases r3
        cases r1 with
        | lst hs ra =>
          cases r2 with
          | lst hs' ra' => exact ⟨_, _, _, _, rfl, .inl ⟨SqL.of (S1.sub _ _ hs), SqL.of (S1.sub _ _ hs'), k _ _ _ _ _ q sm S1 (walkD_zip (SqL.of hs) ra (SqL.of hs') ra')⟩⟩
  · subst e
    cases r with
    | cons r1 r2 =>
      cases r2 with
      | cons r2 r3 =>
        cases r3
        cases r1 with
        | tup hs ra =>
          cases r2 with
          | tup hs' ra' => exact ⟨_, _, _, _, rfl, .inr ⟨SqT.of (S1.sub _ _ hs), SqT.of (S1.sub _ _ hs'), k _ _ _ _ _ q sm S1 (walkD_zipT (SqT.of hs) ra (SqT.of hs') ra')⟩⟩⟩
/-! ### for -/
def forD (b : BdT) (s : DS) (E : DEnds) : List D → Gm → Prop
  | [], γ => E.nx γ
  | d :: ds, γ => b d γ fun γ1 => s { nx := forD b s E ds, ct := forD b s E ds, bk := E.nx, rt := E.rt } γ1
def sFor (t : DA) (b : BdT) (s : DS) : DS := fun E γ => t γ fun ds γ1 => forD b s E ds γ1
theorem s_for {vs : List Nat} {t : DA} {bd : BdT} (h : PS X st (tFor (tDI B t) (tDG B vs bd) (tDS B s))) : PS X st (tDS B (sFor t bd s)) := ps_imp h fun D σ H ⟨G, γ, E, S, h, F⟩ => by
  refine ⟨G, γ, _, S, h, fun ds γ1 G1 H1 J q sm S1 w => ?_⟩
  refine ⟨fun i m σ H => ∃ G γ, m = ds.length - i ∧ i ≤ ds.length ∧ Same G1 G ∧ Dst B G γ σ H ∧ forD bd s E (ds.drop i) γ, ⟨_, G1, γ1, rfl, Nat.zero_le _, Same.refl _, S1, q⟩, ?_⟩
  rintro i m σ2 H2 ⟨G2, γ2, rfl, hi, sm2, S2, q2⟩
  obtain ⟨w1, w2⟩ := w B.H0 G2 γ2 σ2 H2 sm2 S2
  by_cases hlt : i < ds.length
  · right
    have hd : ds[i]? = some ds[i] := List.getElem?_eq_getElem hlt
    obtain ⟨g, y⟩ := w2 i _ hd
    rw [List.drop_eq_getElem_cons hlt] at q2
    refine ⟨g, fun σ' H' => ∃ G γ, Same G1 G ∧ Dst B G γ σ' H' ∧ forD bd s E (ds.drop (i + 1)) γ, fun σ' H' ⟨G3, γ3, s3, S3, q3⟩ => ⟨ds.length - (i + 1), by omega, G3, γ3, rfl, hlt, s3, S3, q3⟩, fun x H' yy => ?_⟩
    obtain ⟨G3, s3, S3, r3⟩ := y x H' yy
    refine ⟨G3, γ2, _, _, S3, r3, q2, fun γ4 σ4 q4 S4 _ => ?_⟩
    have s13 : Same G1 G3 := sm2.trans s3
    refine ⟨G3, γ4, _, S4, q4, ⟨fun γ5 G5 σ5 H5 q5 s5 S5 => ⟨G5, γ5, s13.trans s5, S5, q5⟩, fun d γ5 G5 σ5 v H5 q5 s5 S5 r5 => F.rt _ _ _ _ _ _ q5 (sm.trans (s13.trans s5)) S5 r5, fun γ5 G5 σ5 H5 q5 s5 S5 => F.nx _ _ _ _ q5 (sm.trans (s13.trans s5)) S5, fun γ5 G5 σ5 H5 q5 s5 S5 => ⟨G5, γ5, s13.trans s5, S5, q5⟩⟩⟩
  · left
    have e : i = ds.length := by omega
    subst e
    rw [List.drop_length] at q2
    exact ⟨w1, F.nx _ _ _ _ q2 (sm.trans sm2) S2⟩
/-! ### while -/
def sWhile (c : DB) (s : DS) : DS := fun E γ => ∃ W : Nat → Gm → Prop, (∃ m, W m γ) ∧ ∀ m γ, W m γ → c γ fun b γ1 =>
  (b = true → s { nx := fun γ' => ∃ m', m' < m ∧ W m' γ', ct := fun γ' => ∃ m', m' < m ∧ W m' γ', bk := E.nx, rt := E.rt } γ1) ∧ (b = false → E.nx γ1)
theorem s_while {c : DB} (h : PS X st (tWhile (tDB B c) (tDS B s))) : PS X st (tDS B (sWhile c s)) := ps_imp h fun D σ H ⟨G, γ, E, S, ⟨W, ⟨m0, w0⟩, turn⟩, F⟩ => by
  refine ⟨fun m σ H => ∃ G1 γ, Same G G1 ∧ Dst B G1 γ σ H ∧ W m γ, ⟨m0, G, γ, Same.refl _, S, w0⟩, ?_⟩
  rintro m σ2 H2 ⟨G2, γ2, s2, S2, w2⟩
  refine ⟨G2, γ2, _, S2, turn m γ2 w2, fun b γ3 G3 H3 ⟨h1, h2⟩ s3 S3 => ?_⟩
  cases b with
  | true =>
    rw [if_pos rfl]
    refine ⟨fun σ' H' => ∃ m', m' < m ∧ ∃ G1 γ, Same G G1 ∧ Dst B G1 γ σ' H' ∧ W m' γ, fun σ' H' z => z, G3, γ3, _, S3, h1 rfl, ?_⟩
    exact ⟨fun γ5 G5 σ5 H5 ⟨m', l, q5⟩ s5 S5 => ⟨m', l, G5, γ5, s2.trans (s3.trans s5), S5, q5⟩, fun d γ5 G5 σ5 v H5 q5 s5 S5 r5 => F.rt _ _ _ _ _ _ q5 (s2.trans (s3.trans s5)) S5 r5,
      fun γ5 G5 σ5 H5 q5 s5 S5 => F.nx _ _ _ _ q5 (s2.trans (s3.trans s5)) S5, fun γ5 G5 σ5 H5 ⟨m', l, q5⟩ s5 S5 => ⟨m', l, G5, γ5, s2.trans (s3.trans s5), S5, q5⟩⟩
  | false =>
    rw [if_neg Bool.false_ne_true]
    exact F.nx _ _ _ _ (h2 rfl) (s2.trans s3) S3
end
end DL
namespace DL
open PySem PySem.Spec PyProof.Rows L2
/-! ### defs: what a call comes to -/
abbrev FD := List D → (D → Prop) → Prop
def spD (K : PySem.W.Frag) (DkAt : Hp → Addr → Addr → Prop) (n : Nat) (F : FD) : Sp := fun vs H Q _ => ∃ (dk : Option (Addr × Addr)) (G : Hp) (ds : List D) (R : D → Prop), DkLaw DkAt ∧
  (∀ d c, dk = some (d, c) → DkAt H d c ∧ G d = none ∧ G c = none) ∧ Same G H ∧ (∀ p xs, H p = some (.tup xs) → G p = some (.tup xs)) ∧ RpAll K dk G vs ds ∧ ds.length = n ∧ F ds R ∧
  ∀ d v G' H', R d → Same G G' → Same G' H' → (∀ p xs, H' p = some (.tup xs) → G' p = some (.tup xs)) → (∀ p, H p ≠ none → G p = none → G' p = none) → Kp dk H H' → (∀ d c, dk = some (d, c) → DkAt H' d c) → Rp K dk G' v d → Q v H'
theorem spD_len {K : PySem.W.Frag} {DkAt : Hp → Addr → Addr → Prop} {n m : Nat} {F : FD} (h : n = m) : ∀ vs H Q E, spD K DkAt n F vs H Q E → vs.length = m := by
  rintro vs H Q E ⟨dk, G, ds, R, _, _, _, _, r, hl, _⟩
  rw [r.len, hl, h]
def startG (N n : Nat) (ds : List D) : Gm := ds.map Sl.fz ++ List.replicate (N - n) .un
theorem start_ok {K : PySem.W.Frag} {DkAt : Hp → Addr → Addr → Prop} {dk : Option (Addr × Addr)} {G H : Hp} {N : List Str} {vs : List V} {ds : List D} (L : DkLaw DkAt) (hd : ∀ d c, dk = some (d, c) → DkAt H d c ∧ G d = none ∧ G c = none) (sm : Same G H) (tu : ∀ p xs, H p = some (.tup xs) → G p = some (.tup xs)) (r : RpAll K dk G vs ds) :
    Dst ⟨K, dk, DkAt, H, G⟩ G (startG N.length ds.length ds) (L2.start N vs) H where
  law := L
  sub := sm
  sub0 := Same.refl _
  kept := Kp.refl
  fresh := fun p _ h => h
  tups := tu
  dkok := fun d c e => by
    obtain ⟨h1, h2, h3⟩ := hd d c e
    obtain ⟨t1, t2⟩ := L.there _ _ _ h1
    exact ⟨h1, t1, t2, h2, h3⟩
  len := by simp [L2.start, startG, r.len]
  slot := fun i s e => by
    unfold startG at e
    unfold L2.start
    by_cases l : i < ds.length
    · rw [List.getElem?_append_left (by rw [List.length_map]; exact l), List.getElem?_map] at e
      have hd : ds[i]? = some ds[i] := List.getElem?_eq_getElem l
      rw [hd] at e
      obtain ⟨v, hv, rv⟩ := r.get hd
      cases e
      refine ⟨some v, ?_, v, rfl, rv⟩
      rw [List.getElem?_append_left (by rw [List.length_map, r.len]; exact l), List.getElem?_map, hv]
      rfl
    · rw [List.getElem?_append_right (by rw [List.length_map]; omega)] at e
      rw [List.getElem?_append_right (by rw [List.length_map, r.len]; omega)]
      rw [List.getElem?_replicate] at e ⊢
      rw [List.length_map] at e ⊢
      rw [r.len]
      split at e
      · cases e
        rw [if_pos (by assumption)]
        exact ⟨none, rfl, trivial⟩
      · cases e
  nd := fun i j p ds' es e _ => by
    exfalso
    unfold startG at e
    have := List.mem_of_getElem? e
    rcases List.mem_append.mp this with h | h
    · obtain ⟨d, _, z⟩ := List.mem_map.mp h
      cases z
    · have := List.eq_of_mem_replicate h
      cases this
/-- a def by its body's data reading -/
theorem bodyD {X : Cx} {K : PySem.W.Frag} {DkAt : Hp → Addr → Addr → Prop} {n : Nat} {F : FD} {N : List Str} {vs : List V} {H : Hp} {Q : VK} {E : XK} {body : List Stmt} {s : DS} (h : spD K DkAt n F vs H Q E)
    (der : ∀ dk G, PSs X body (tDS ⟨K, dk, DkAt, H, G⟩ s)) (rd : ∀ ds R, ds.length = n → F ds R → s ⟨fun _ => R .non, R, fun _ => False, fun _ => False⟩ (startG N.length n ds)) :
    ∃ t, PSs X body t ∧ t { nx := fun _ H' => Q .non H', rt := Q } (L2.start N vs) H := by
  obtain ⟨dk, G, ds, R, L, hd, sm, tu, r, hl, hF, k⟩ := h
  subst hl
  refine ⟨_, der dk G, G, _, _, start_ok L hd sm tu r, rd ds R rfl hF, ?_⟩
  have out : ∀ d v G' H' γ σ, R d → Dst ⟨K, dk, DkAt, H, G⟩ G' γ σ H' → Rp K dk G' v d → Q v H' := fun d v G' H' γ σ hR S rv =>
    k d v G' H' hR S.sub0 S.sub S.tups S.fresh S.kept (fun d c e => (S.dkok d c e).1) rv
  exact ⟨fun γ G' σ H' q s S => out _ _ _ _ _ _ q S .non, fun d γ G' σ v H' q s S r => out _ _ _ _ _ _ q S r, fun _ _ _ _ q => q.elim, fun _ _ _ _ q => q.elim⟩
section
variable {X : Cx} {B : Bs} {G G' G1 : Hp} {γ γ' : Gm} {σ : L2.St} {H H' : Hp} {e a b : Expr} {ta tb t : DT} {pos : Pos} {st : Stmt}
/-- behind a call -/
theorem Dst.after (S : Dst B G γ σ H) (s1 : Same G G') (s2 : Same G' H') (tu : ∀ p xs, H' p = some (.tup xs) → G' p = some (.tup xs)) (fr : ∀ p, H p ≠ none → G p = none → G' p = none) (kp : Kp B.dk H H') (hd : ∀ d c, B.dk = some (d, c) → B.DkAt H' d c) : Dst B G' γ σ H' where
  law := S.law
  sub := s2
  sub0 := S.sub0.trans s1
  kept := S.kept.trans kp
  fresh := fun p h0 g0 => by
    refine fr p ?_ (S.fresh p h0 g0)
    by_cases z : ∀ d c, B.dk = some (d, c) → p ≠ d ∧ p ≠ c
    · cases q : B.H0 p with
      | none => exact absurd q h0
      | some o => rw [S.kept p o q z]; exact fun z => nomatch z
    · intro hp
      apply z
      intro d c e
      obtain ⟨t1, t2⟩ := S.law.there _ _ _ (S.dkok d c e).1
      exact ⟨fun z => t1 (z ▸ hp), fun z => t2 (z ▸ hp)⟩
  tups := tu
  dkok := fun d c e => ⟨hd d c e, (S.dkok d c e).2⟩
  len := S.len
  slot := fun i s e => by
    obtain ⟨o, h1, h2⟩ := S.slot i s e
    refine ⟨o, h1, ?_⟩
    cases s with
    | un => exact h2
    | fz d => obtain ⟨v, a, r⟩ := h2; exact ⟨v, a, r.mono s1⟩
    | own p ds =>
      obtain ⟨a, ⟨vs, b, r⟩, c, d⟩ := h2
      exact ⟨a, ⟨vs, kp p _ b (S.offdk c), r.mono s1⟩, c, fr p (by rw [b]; exact fun z => nomatch z) d⟩
  nd := S.nd
def dCall (n : Nat) (F : FD) (ta : DA) : DT := fun γ R => ta γ fun ds γ1 => ds.length = n ∧ F ds fun d => R d γ1
theorem sp_run {n : Nat} {F : FD} {vs : List V} {ds : List D} {R : D → Prop} {Q : VK} {E : XK} (S : Dst B G γ σ H) (r : RpAll B.K B.dk G vs ds) (hl : ds.length = n) (hF : F ds R)
    (k : ∀ d G' v H', R d → Same G G' → Dst B G' γ σ H' → Rp B.K B.dk G' v d → Q v H') : spD B.K B.DkAt n F vs H Q E := by
  refine ⟨B.dk, G, ds, R, S.law, fun d c e => ?_, S.sub, S.tups, r, hl, hF, fun d v G' H' hR s1 s2 tu fr kp hd rv => k d G' v H' hR s1 (S.after s1 s2 tu fr kp hd) rv⟩
  obtain ⟨h1, h2, h3, h4, h5⟩ := S.dkok d c e
  exact ⟨h1, S.fresh _ h2 h4, S.fresh _ h3 h5⟩
theorem d_call {n : Nat} {F : FD} {ta : DA} {E : XK} (h : PE X e (tCall (spD B.K B.DkAt n F) [] E (tDA B ta))) : PE X e (tD B (dCall n F ta)) := pe_imp h fun σ H Q ⟨G, γ, R, S, h, k⟩ =>
  ⟨G, γ, _, S, h, fun ds γ1 G1 vs H1 ⟨hl, hF⟩ sm S1 r => by
    show spD B.K B.DkAt n F (vs ++ []) H1 Q E
    rw [List.append_nil]
    exact sp_run S1 r hl hF fun d G' v H' hR s' S' r' => k _ _ _ _ _ hR (sm.trans s') S' r'⟩
def dMeth (C : Addr) (m : Str) (n : Nat) (F : FD) (to : DT) (ta : DA) : DT := fun γ R => to γ fun d γ1 => ∃ fs, d = .obj C fs ∧ fs.lookup m = none ∧ ta γ1 fun ds γ2 => (d :: ds).length = n ∧ F (d :: ds) fun r => R r γ2
theorem d_meth {C : Addr} {m : Str} {n : Nat} {F : FD} {ta : DA} {E : XK} (h : PE X e (tMeth C m (spD B.K B.DkAt n F) [] E (tD B t) (tDA B ta))) : PE X e (tD B (dMeth C m n F t ta)) := pe_imp h fun σ H Q ⟨G, γ, R, S, h, k⟩ =>
  ⟨G, γ, _, S, h, fun d γ1 G1 v H1 ⟨fs, e, hm, h2⟩ sm S1 r => by
    subst e
    cases r with
    | obj hv =>
      refine ⟨_, _, fs, rfl, S1.sub _ _ hv, hm, G1, γ1, _, S1, h2, fun ds γ2 G2 vs H2 ⟨hl, hF⟩ sm2 S2 r2 => ?_⟩
      show spD B.K B.DkAt n F (_ :: (vs ++ [])) H2 Q E
      rw [List.append_nil]
      exact sp_run S2 (.cons (.obj (sm2 _ _ hv)) r2) hl hF fun d G' v H' hR s' S' r' => k _ _ _ _ _ hR (sm.trans (sm2.trans s')) S' r'⟩
/-- a promise by addresses, told by data -/
theorem fn_conv {P : Program} {w : World} {K : PySem.W.Frag} {mg : Str → Option Value} {base : Heap} {CX : CXT} {k : Nat} {f : Addr} {fd : FuncData} {ps : List Str} {sp sp' : Sp} (h : FnOk P w K mg base CX k f fd ps sp) (c : ∀ vs H Q E, sp' vs H Q E → sp vs H Q E) : FnOk P w K mg base CX k f fd ps sp' := h.imp c
/-! ### items, lengths, slices -/
def ixD : D → D → Option D
  | .tup ds, .int i => atI ds i
  | .lst ds, .int i => atI ds i
  | .str z, .int i => if z.length ≤ 1000000 then (atI z.cps.toList i).map fun c => .str ⟨#[c]⟩ else none
  | _, _ => none
abbrev fIx : F2 := fun d e R => ∃ c, ixD d e = some c ∧ R c
theorem atI_len {vs : List V} {ds : List D} {K : PySem.W.Frag} {dk : Option (Addr × Addr)} (r : RpAll K dk G vs ds) {i : Int} {c : D} (h : atI ds i = some c) : ∃ v, atI vs i = some v ∧ Rp K dk G v c := by
  unfold atI at h ⊢
  rw [r.len]
  cases q : ixN ds.length i with
  | none => rw [q] at h; cases h
  | some j =>
    rw [q] at h
    exact r.get h
theorem ok_ix (hK : X.K = B.K) : OkR2 B (rIx X.K) fIx := by
  rintro G γ σ H x y d e R Q S rx ry ⟨c, h1, h2⟩ k
  rw [hK]
  unfold ixD at h1
  split at h1
  · cases rpInt ry
    cases rx with
    | tup hs ra =>
      obtain ⟨v, hv, rv⟩ := atI_len ra h1
      exact .inr (.inl ⟨_, _, _, v, rfl, rfl, SqT.of (S.sub _ _ hs), hv, k _ _ _ _ h2 (Same.refl _) S rv⟩)
  · cases rpInt ry
    cases rx with
    | lst hs ra =>
      obtain ⟨v, hv, rv⟩ := atI_len ra h1
      exact .inl ⟨_, _, _, v, rfl, rfl, SqL.of (S.sub _ _ hs), hv, k _ _ _ _ h2 (Same.refl _) S rv⟩
  · cases rpInt ry
    cases rpStr rx
    split at h1
    case isTrue hz =>
      rename_i z i
      cases q : atI z.cps.toList i with
      | none => rw [q] at h1; cases h1
      | some cc =>
        rw [q] at h1
        cases h1
        exact .inr (.inr ⟨z, i, cc, rfl, rfl, sz_ok hz, q, k _ _ _ _ h2 (Same.refl _) S (.str _)⟩)
    case isFalse => cases h1
  · cases h1
theorem d_item (hK : X.K = B.K) (ha : PE X a (tD B ta)) (hb : PE X b (tD B tb)) (hs : PlainIx b) : PE X (.Subscript a b pos) (tD B (dOp fIx ta tb)) := d_ix ix_seq (ok_ix hK) ha hb hs
/-! ### calls by values -/
abbrev FC := List D → (D → Prop) → Prop
def OkRC (B : Bs) (r : List V → Hp → VK → Prop) (f : FC) : Prop := ∀ G γ σ H vs ds R Q, Dst B G γ σ H → RpAll B.K B.dk G vs ds → f ds R →
  (∀ c G' v H', R c → Same G G' → Dst B G' γ σ H' → Rp B.K B.dk G' v c → Q v H') → r vs H Q
def dCB (f : FC) (ta : DA) : DT := fun γ R => ta γ fun ds γ1 => f ds fun c => R c γ1
theorem d_cb {r : List V → Hp → VK → Prop} {f : FC} {ta : DA} (hr : OkRC B r f) (h : PE X e (tCB r (tDA B ta))) : PE X e (tD B (dCB f ta)) := pe_imp h fun σ H Q ⟨G, γ, R, S, h, k⟩ =>
  ⟨G, γ, _, S, h, fun ds γ1 G1 vs H1 hf sm S1 r1 => hr _ _ _ _ _ _ _ _ S1 r1 hf fun c G' v H' hc s' S' r' => k _ _ _ _ _ hc (sm.trans s') S' r'⟩
def lenD : D → Option Nat
  | .tup ds => some ds.length
  | .lst ds => some ds.length
  | _ => none
abbrev fLen : FC := fun ds R => ∃ d n, ds = [d] ∧ lenD d = some n ∧ R (.int (n : Nat))
theorem ok_len (hK : X.K = B.K) : OkRC B (fun xs H Q => ∃ p ys, xs = [.ref p] ∧ (SqL X.K H p ys ∨ SqT X.K H p ys) ∧ Q (.int ys.length) H) fLen := by
  rintro G γ σ H vs ds R Q S r ⟨d, n, rfl, h1, h2⟩ k
  rw [hK]
  cases r with
  | cons r1 r2 =>
    cases r2
    unfold lenD at h1
    split at h1
    · cases h1
      cases r1 with
      | tup hs ra =>
        refine ⟨_, _, rfl, .inr (SqT.of (S.sub _ _ hs)), ?_⟩
        rw [ra.len]
        exact k _ _ _ _ h2 (Same.refl _) S (.int _)
    · cases h1
      cases r1 with
      | lst hs ra =>
        refine ⟨_, _, rfl, .inl (SqL.of (S.sub _ _ hs)), ?_⟩
        rw [ra.len]
        exact k _ _ _ _ h2 (Same.refl _) S (.int _)
    · cases h1
abbrev fLenS : FC := fun ds R => ∃ z, ds = [.str z] ∧ z.length ≤ 1000000 ∧ R (.int (z.length : Nat))
theorem ok_lenS : OkRC B (fun xs H Q => ∃ z, xs = [.str z] ∧ z.length ≤ sizeLine ∧ Q (.int z.length) H) fLenS := by
  rintro G γ σ H vs ds R Q S r ⟨z, rfl, h1, h2⟩ k
  cases r with
  | cons r1 r2 =>
    cases r2
    cases rpStr r1
    exact ⟨z, rfl, sz_ok h1, k _ _ _ _ h2 (Same.refl _) S (.int _)⟩
abbrev fAbs : FC := fun ds R => ∃ i, ds = [.int i] ∧ R (.int (if i < 0 then -i else i))
theorem ok_abs : OkRC B (fun xs H Q => ∃ i, xs = [.int i] ∧ Q (.int (if i < 0 then -i else i)) H) fAbs := by
  rintro G γ σ H vs ds R Q S r ⟨i, rfl, h2⟩ k
  cases r with
  | cons r1 r2 =>
    cases r2
    cases rpInt r1
    exact ⟨i, rfl, k _ _ _ _ h2 (Same.refl _) S (.int _)⟩
def intD : D → Option Int
  | .int i => some i
  | .bl b => some (if b then 1 else 0)
  | _ => none
abbrev fInt1 : FC := fun ds R => ∃ d i, ds = [d] ∧ intD d = some i ∧ R (.int i)
theorem ok_int1 : OkRC B (fun xs H Q => (∃ i, xs = [.int i] ∧ Q (.int i) H) ∨ ∃ k, xs = [.bl k] ∧ Q (.int (if k then 1 else 0)) H) fInt1 := by
  rintro G γ σ H vs ds R Q S r ⟨d, i, rfl, h1, h2⟩ k
  cases r with
  | cons r1 r2 =>
    cases r2
    unfold intD at h1
    split at h1
    · cases h1
      cases rpInt r1
      exact .inl ⟨_, rfl, k _ _ _ _ h2 (Same.refl _) S (.int _)⟩
    · cases h1
      cases rpBl r1
      exact .inr ⟨_, rfl, k _ _ _ _ h2 (Same.refl _) S (.int _)⟩
    · cases h1
abbrev fMin2 : FC := fun ds R => ∃ i j, ds = [.int i, .int j] ∧ R (.int (if j < i then j else i))
theorem ok_min2 : OkRC B (fun xs H Q => ∃ i j, xs = [.int i, .int j] ∧ Q (.int (if j < i then j else i)) H) fMin2 := by
  rintro G γ σ H vs ds R Q S r ⟨i, j, rfl, h2⟩ k
  cases r with
  | cons r1 r2 =>
    cases r2 with
    | cons r2 r3 =>
      cases r3
      cases rpInt r1
      cases rpInt r2
      exact ⟨i, j, rfl, k _ _ _ _ h2 (Same.refl _) S (.int _)⟩
abbrev fMax2 : FC := fun ds R => ∃ i j, ds = [.int i, .int j] ∧ R (.int (if j > i then j else i))
theorem ok_max2 : OkRC B (fun xs H Q => ∃ i j, xs = [.int i, .int j] ∧ Q (.int (if j > i then j else i)) H) fMax2 := by
  rintro G γ σ H vs ds R Q S r ⟨i, j, rfl, h2⟩ k
  cases r with
  | cons r1 r2 =>
    cases r2 with
    | cons r2 r3 =>
      cases r3
      cases rpInt r1
      cases rpInt r2
      exact ⟨i, j, rfl, k _ _ _ _ h2 (Same.refl _) S (.int _)⟩
/-- tuple(list), tuple(tuple) -/
abbrev fTupOf : FC := fun ds R => ∃ d es, ds = [d] ∧ itemsD d = some es ∧ R (.tup es)
theorem ok_tupOf (hK : X.K = B.K) : OkRC B (fun xs H Q => ∃ p ys, xs = [.ref p] ∧ ((SqL X.K H p ys ∧ ∀ l, H l = none → Q (.ref l) (upd H l (.tup ys))) ∨ (SqT X.K H p ys ∧ Q (.ref p) H))) fTupOf := by
  rintro G γ σ H vs ds R Q S r ⟨d, es, rfl, h1, h2⟩ k
  rw [hK]
  cases r with
  | cons r1 r2 =>
    cases r2
    unfold itemsD at h1
    split at h1
    · cases h1
      cases r1 with
      | lst hs ra => exact ⟨_, _, rfl, .inl ⟨SqL.of (S.sub _ _ hs), fun l hl => by
          obtain ⟨G2, s2, S2, r2⟩ := S.newTup ra hl
          exact k _ _ _ _ h2 s2 S2 r2⟩⟩
    · cases h1
      cases r1 with
      | tup hs ra => exact ⟨_, _, rfl, .inr ⟨SqT.of (S.sub _ _ hs), k _ _ _ _ h2 (Same.refl _) S (.tup hs ra)⟩⟩
    · cases h1
/-- list(list), list(tuple): new -/
def fListOf (ta : DA) : DA := fun γ R => ta γ fun ds γ1 => ∃ d es, ds = [d] ∧ itemsD d = some es ∧ R es γ1
theorem f_listOf {ta : DA} (hK : X.K = B.K) (h : PE X e (tCB (fun xs H Q => ∃ p ys, xs = [.ref p] ∧ (SqL X.K H p ys ∨ SqT X.K H p ys) ∧ ∀ l, H l = none → Q (.ref l) (upd H l (.lst ys))) (tDA B ta))) : PE X e (tDF B (fListOf ta)) := pe_imp h fun σ H Q ⟨G, γ, R, S, h, k⟩ =>
  ⟨G, γ, _, S, h, fun ds γ1 G1 vs H1 ⟨d, es, e, h1, h2⟩ sm S1 r => by
    subst e
    rw [hK]
    cases r with
    | cons r1 r2 =>
      cases r2
      have fin : ∀ ys, RpAll B.K B.dk G1 ys es → ∀ l, H1 l = none → Q (.ref l) (upd H1 l (.lst ys)) := fun ys ra l hl => k _ _ _ _ _ _ h2 sm (S1.laid hl) upd_same ra (S1.free0 hl) (S1.sub.free hl) (S1.noown hl)
      unfold itemsD at h1
      split at h1
      · cases h1
        cases r1 with
        | lst hs ra => exact ⟨_, _, rfl, .inl (SqL.of (S1.sub _ _ hs)), fin _ ra⟩
      · cases h1
        cases r1 with
        | tup hs ra => exact ⟨_, _, rfl, .inr (SqT.of (S1.sub _ _ hs)), fin _ ra⟩
      · cases h1⟩
/-! ### + of lists, tuples, texts -/
def fCatF (ta tb : DT) : DA := fun γ R => ta γ fun x γ1 => tb γ1 fun y γ2 => ∃ ds es, x = .lst ds ∧ y = .lst es ∧ ds.length + es.length ≤ 1000000 ∧ R (ds ++ es) γ2
theorem f_cat (ha : PE X a (tD B ta)) (hb : PE X b (tD B tb)) : PE X (.BinOp a .Add b pos) (tDF B (fCatF ta tb)) := pe_imp (pe_op op_cat ha hb) fun σ H Q ⟨G, γ, R, S, h, k⟩ =>
  ⟨G, γ, _, S, h, fun x γ1 G1 v H1 h1 s1 S1 r1 => ⟨G1, γ1, _, S1, h1, fun y γ2 G2 u H2 ⟨ds, es, e1, e2, hl, h2⟩ s2 S2 r2 => by
    subst e1 e2
    cases r1 with
    | lst hs ra =>
      cases r2 with
      | lst hs' ra' =>
        refine ⟨_, _, _, _, rfl, rfl, S2.sub _ _ (s2 _ _ hs), S2.sub _ _ hs', by rw [ra.len, ra'.len]; exact sz_ok hl, fun p hp => ?_⟩
        exact k _ _ _ _ _ _ h2 (s1.trans s2) (S2.laid hp) upd_same ((ra.mono s2).app ra') (S2.free0 hp) (S2.sub.free hp) (S2.noown hp)⟩⟩
abbrev fCatT : F2 := fun d e R => ∃ ds es, d = .tup ds ∧ e = .tup es ∧ ds.length + es.length ≤ 1000000 ∧ R (.tup (ds ++ es))
theorem ok_catT (hK : X.K = B.K) : OkR2 B (rCatA X.K) fCatT := by
  rintro G γ σ H x y d e R Q S rx ry ⟨ds, es, rfl, rfl, hl, h⟩ k
  rw [hK]
  cases rx with
  | @tup pa vs _ hs ra =>
    cases ry with
    | @tup pb us _ hs' ra' =>
      refine ⟨_, _, _, _, rfl, rfl, SqT.of (S.sub _ _ hs), SqT.of (S.sub _ _ hs'), by rw [ra.len, ra'.len]; exact sz_ok hl, fun e => ?_, fun _ e => ?_, fun _ _ p hp => ?_⟩
      · subst e
        cases ra
        exact k _ _ _ _ h (Same.refl _) S (.tup hs' ra')
      · subst e
        cases ra'
        rw [List.append_nil] at h
        exact k _ _ _ _ h (Same.refl _) S (.tup hs ra)
      · obtain ⟨G2, s2, S2, r2⟩ := S.newTup (ra.app ra') hp
        exact k _ _ _ _ h s2 S2 r2
theorem d_catT (hK : X.K = B.K) (ha : PE X a (tD B ta)) (hb : PE X b (tD B tb)) : PE X (.BinOp a .Add b pos) (tD B (dOp fCatT ta tb)) := d_op op_catA (ok_catT hK) ha hb
abbrev fCatS : F2 := fun d e R => ∃ i j, d = .str i ∧ e = .str j ∧ i.length + j.length ≤ 1000000 ∧ R (.str (i ++ j))
theorem ok_catS : OkR2 B (fun x y H Q => ∃ i j, x = .str i ∧ y = .str j ∧ i.length + j.length ≤ sizeLine ∧ Q (.str (i ++ j)) H) fCatS := by
  rintro G γ σ H x y d e R Q S rx ry ⟨i, j, rfl, rfl, hl, h⟩ k
  cases rpStr rx
  cases rpStr ry
  exact ⟨i, j, rfl, rfl, sz_ok hl, k _ _ _ _ h (Same.refl _) S (.str _)⟩
/-! ### fields -/
def dFld (C : Addr) (f : Str) (t : DT) : DT := fun γ R => t γ fun d γ1 => ∃ fs v c, d = .obj C fs ∧ fs.lookup f = some v ∧ (∀ K dk G, Rp K dk G v c) ∧ R c γ1
theorem d_fld {C : Addr} {f : Str} (hK : X.K = B.K) (cl : Cls B.K C) (na : NoAttr B.K C f) (h : PE X a (tD B t)) (hb : attributeBase a f X.env (eval a X.env) = eval a X.env := by rfl) : PE X (.Attribute a f pos) (tD B (dFld C f t)) := pe_imp (pe_fld h hb) fun σ H Q ⟨G, γ, R, S, h, k⟩ =>
  ⟨G, γ, _, S, h, fun d γ1 G1 v H1 ⟨fs, u, c, e, hf, hc, h2⟩ sm S1 r => by
    subst e
    rw [hK]
    cases r with
    | obj hv => exact ⟨_, C, _, fs, u, rfl, S1.sub _ _ hv, cl, na, hf, k _ _ _ _ _ h2 sm S1 (hc _ _ _)⟩⟩
theorem rp_int_all {i : Int} : ∀ K dk G, Rp K dk G (.int i) (.int i) := fun _ _ _ => .int i
/-! ### slices -/
def cutD (ds : List D) (lo hi : Option Int) : List D := (ds.drop (HT.sIx ds.length 0 lo)).take (HT.sIx ds.length ds.length hi - HT.sIx ds.length 0 lo)
abbrev DO := Gm → (Option Int → Gm → Prop) → Prop
def tDO (B : Bs) (t : DO) : TO := fun σ H Q => ∃ G γ R, Dst B G γ σ H ∧ t γ R ∧ ∀ o γ' G' H', R o γ' → Same G G' → Dst B G' γ' σ H' → Q o H'
def oNone : DO := fun γ R => R none γ
def oSome (t : DT) : DO := fun γ R => t γ fun d γ1 => ∃ i, d = .int i ∧ R (some i) γ1
theorem po_imp {e : Option Expr} {t t' : TO} (h : PO X e t) (k : ∀ σ H Q, t' σ H Q → t σ H Q) : PO X e t' := ⟨fun pins s σ H Q I q => h.run pins s σ H Q I (k σ H Q q)⟩
theorem o_none : PO X none (tDO B oNone) := po_imp po_none fun σ H Q ⟨G, γ, R, S, h, k⟩ => k _ _ _ _ h (Same.refl _) S
theorem o_some (h : PE X e (tD B t)) : PO X (some e) (tDO B (oSome t)) := po_imp (po_some h) fun σ H Q ⟨G, γ, R, S, h, k⟩ => ⟨G, γ, _, S, h, fun d γ1 G1 v H1 ⟨i, e, q⟩ sm S1 r => by
  subst e
  cases rpInt r
  exact ⟨i, rfl, k _ _ _ _ q sm S1⟩⟩
theorem RpAll.cut {K : PySem.W.Frag} {dk : Option (Addr × Addr)} {vs : List V} {ds : List D} (r : RpAll K dk G vs ds) (lo hi : Option Int) : RpAll K dk G (cutV vs lo hi) (cutD ds lo hi) := by
  unfold cutV cutD
  rw [r.len]
  exact (r.drop _).take _
def dSlT (t : DT) (tl th : DO) : DT := fun γ R => t γ fun d γ1 => tl γ1 fun lo γ2 => th γ2 fun hi γ3 => ∃ ds, d = .tup ds ∧ R (.tup (cutD ds lo hi)) γ3
theorem d_slT {lo hi : Option Expr} {p2 : Pos} {tl th : DO} (hK : X.K = B.K) (h : PE X e (tD B t)) (hl : PO X lo (tDO B tl)) (hh : PO X hi (tDO B th)) (hp : PE X (.Subscript e (.Slice lo hi none p2) pos) (tSl (rSlA X.K) (tD B t) (tDO B tl) (tDO B th))) : PE X (.Subscript e (.Slice lo hi none p2) pos) (tD B (dSlT t tl th)) :=
  pe_imp hp fun σ H Q ⟨G, γ, R, S, h, k⟩ => ⟨G, γ, _, S, h, fun d γ1 G1 v H1 h1 s1 S1 r1 => ⟨G1, γ1, _, S1, h1, fun lo γ2 G2 H2 h2 s2 S2 => ⟨G2, γ2, _, S2, h2, fun hi γ3 G3 H3 ⟨ds, e, h3⟩ s3 S3 => by
    subst e
    rw [hK]
    have r3 := r1.mono (s2.trans s3)
    cases r3 with
    | @tup pa vs _ hs ra =>
      refine ⟨_, _, rfl, SqT.of (S3.sub _ _ hs), fun hw => ?_, fun _ p hp => ?_⟩
      · refine k _ _ _ _ _ h3 (s1.trans (s2.trans s3)) S3 ?_
        have e : cutD ds lo hi = ds := by
          unfold cutD
          rw [← ra.len, hw.1, hw.2, ra.len, List.drop_zero, Nat.sub_zero, List.take_length]
        rw [e]
        exact .tup hs ra
      · obtain ⟨G4, s4, S4, r4⟩ := S3.newTup (ra.cut lo hi) hp
        exact k _ _ _ _ _ h3 ((s1.trans (s2.trans s3)).trans s4) S4 r4⟩⟩⟩
def fSlL (t : DT) (tl th : DO) : DA := fun γ R => t γ fun d γ1 => tl γ1 fun lo γ2 => th γ2 fun hi γ3 => ∃ ds, d = .lst ds ∧ R (cutD ds lo hi) γ3
theorem f_slL {lo hi : Option Expr} {p2 : Pos} {tl th : DO} (hK : X.K = B.K) (hp : PE X (.Subscript e (.Slice lo hi none p2) pos) (tSl (rSlL X.K) (tD B t) (tDO B tl) (tDO B th))) : PE X (.Subscript e (.Slice lo hi none p2) pos) (tDF B (fSlL t tl th)) :=
  pe_imp hp fun σ H Q ⟨G, γ, R, S, h, k⟩ => ⟨G, γ, _, S, h, fun d γ1 G1 v H1 h1 s1 S1 r1 => ⟨G1, γ1, _, S1, h1, fun lo γ2 G2 H2 h2 s2 S2 => ⟨G2, γ2, _, S2, h2, fun hi γ3 G3 H3 ⟨ds, e, h3⟩ s3 S3 => by
    subst e
    rw [hK]
    have r3 := r1.mono (s2.trans s3)
    cases r3 with
    | @lst pa vs _ hs ra =>
      refine ⟨_, _, rfl, SqL.of (S3.sub _ _ hs), fun p hp => ?_⟩
      exact k _ _ _ _ _ _ h3 (s1.trans (s2.trans s3)) (S3.laid hp) upd_same (ra.cut lo hi) (S3.free0 hp) (S3.sub.free hp) (S3.noown hp)⟩⟩⟩
/-! ### own lists -/
theorem Dst.store (S : Dst B G γ σ H) {i : Nat} {p : Addr} {ds es : List D} {us : List V} (h : γ[i]? = some (.own p ds)) (r : RpAll B.K B.dk G us es) : Dst B G (putS γ i (.own p es)) σ (upd H p (.lst us)) := by
  obtain ⟨o, h1, h2, ⟨vs, h3, h4⟩, h5, h6⟩ := S.slot i _ h
  subst h2
  rw [putS_eq]
  have li : i < γ.length := (List.getElem?_eq_some_iff.mp h).1
  constructor
  · exact S.law
  · intro b u e
    rw [upd_ne (ne_of_none e h6)]
    exact S.sub b u e
  · exact S.sub0
  · intro b u e z
    rw [upd_ne (ne_of_none e h5)]
    exact S.kept b u e z
  · exact S.fresh
  · intro q xs e
    by_cases z : q = p
    · subst z; rw [upd_same] at e; cases e
    · rw [upd_ne z] at e; exact S.tups q xs e
  · intro d c e
    obtain ⟨k1, k2⟩ := S.dkok d c e
    obtain ⟨n1, n2⟩ := S.offdk h5 d c e
    exact ⟨S.law.keep _ _ _ _ k1 (upd_ne n1.symm) (upd_ne n2.symm), k2⟩
  · rw [List.length_set]; exact S.len
  · intro j s e
    by_cases z : i = j
    · subst z
      rw [List.getElem?_set_self li] at e
      cases e
      exact ⟨_, h1, rfl, ⟨us, upd_same, r⟩, h5, h6⟩
    · rw [List.getElem?_set_ne z] at e
      obtain ⟨o, k1, k2⟩ := S.slot j s e
      refine ⟨o, k1, ?_⟩
      cases s with
      | un => exact k2
      | fz d => exact k2
      | own q fs =>
        obtain ⟨a, ⟨ws, b, r'⟩, c⟩ := k2
        have n : q ≠ p := fun n => z (S.nd i j p ds fs h (n ▸ e))
        exact ⟨a, ⟨ws, by rw [upd_ne n]; exact b, r'⟩, c⟩
  · intro j k q fs gs e1 e2
    have f : ∀ (j : Nat) fs, (γ.set i (Sl.own p es))[j]? = some (.own q fs) → ∃ fs', γ[j]? = some (.own q fs') := fun j fs e => by
      by_cases z : i = j
      · subst z
        rw [List.getElem?_set_self li] at e
        cases e
        exact ⟨ds, h⟩
      · rw [List.getElem?_set_ne z] at e
        exact ⟨fs, e⟩
    obtain ⟨f1, q1⟩ := f j fs e1
    obtain ⟨f2, q2⟩ := f k gs e2
    exact S.nd j k q f1 f2 q1 q2
/-- x.append(e) of an own list -/
def sApp (i : Nat) (t : DT) : DS := fun E γ => ∃ p ds, look γ i = .own p ds ∧ t γ fun d γ1 => ∃ es, look γ1 i = .own p es ∧ es.length < 1000000 ∧ E.nx (putS γ1 i (.own p (es ++ [d])))
theorem s_app {i : Nat} (h : PS X st (tDrop (tBM X.K "list" rAppend (tVar i) (tCons (tD B t) tNil)))) (hK : X.K = B.K) : PS X st (tDS B (sApp i t)) := ps_imp h fun De σ H ⟨G, γ, E, S, ⟨p, ds, hi, h⟩, F⟩ => by
  obtain ⟨o, h1, h2, ⟨vs, h3, h4⟩, _⟩ := S.slot i _ (look_get hi (fun z => nomatch z))
  subst h2
  refine ⟨_, h1, .inl ⟨rfl, vs, SqL.of h3⟩, G, γ, _, S, h, fun d γ1 G1 v H1 ⟨es, hi1, hl, q⟩ sm S1 r => ?_⟩
  obtain ⟨o', k1, k2, ⟨us, k3, k4⟩, _⟩ := S1.slot i _ (look_get hi1 (fun z => nomatch z))
  refine ⟨p, us, v, rfl, rfl, k3, by rw [k4.len]; exact Nat.lt_of_lt_of_le hl (by decide), ?_⟩
  exact F.nx _ _ _ _ q sm (S1.store (look_get hi1 (fun z => nomatch z)) (k4.app (.cons r .nil)))
/-- x[i] of an own list -/
def dIxO (i : Nat) (t : DT) : DT := fun γ R => t γ fun d γ1 => ∃ p ds c, look γ1 i = .own p ds ∧ ixD (.lst ds) d = some c ∧ R c γ1
end
end DL
namespace DL
open PySem PySem.Spec PyProof.Rows L2
/-! ### comprehensions -/
def wipeS (γ : Gm) : List Nat → Gm
  | [] => γ
  | v :: vs => putS (wipeS γ vs) v .un
theorem wipe_get (σ : L2.St) (j : Nat) : ∀ vs : List Nat, (wipe σ vs)[j]? = if j ∈ vs then (σ[j]?).map fun _ => none else σ[j]?
  | [] => by simp [wipe]
  | v :: vs => by
    show ((wipe σ vs).set v none)[j]? = _
    by_cases z : v = j
    · subst z
      rw [if_pos List.mem_cons_self, List.getElem?_set]
      rw [if_pos rfl, wipe_length]
      by_cases l : v < σ.length
      · rw [if_pos l, List.getElem?_eq_getElem l]; rfl
      · rw [if_neg l, List.getElem?_eq_none (by omega)]; rfl
    · rw [List.getElem?_set_ne z, wipe_get σ j vs]
      have : (j ∈ v :: vs) ↔ j ∈ vs := by simp only [List.mem_cons]; exact ⟨fun h => h.resolve_left (fun e => z e.symm), .inr⟩
      by_cases h : j ∈ vs
      · rw [if_pos h, if_pos (this.mpr h)]
      · rw [if_neg h, if_neg (fun q => h (this.mp q))]
theorem wipe_wipe (σ : L2.St) (vs : List Nat) : wipe (wipe σ vs) vs = wipe σ vs := by
  apply List.ext_getElem?
  intro j
  rw [wipe_get, wipe_get]
  by_cases h : j ∈ vs
  · rw [if_pos h, if_pos h]
    cases σ[j]? <;> rfl
  · rw [if_neg h, if_neg h]
theorem wipeS_len (γ : Gm) : ∀ vs : List Nat, (wipeS γ vs).length = γ.length
  | [] => rfl
  | v :: vs => by
    show (putS (wipeS γ vs) v .un).length = _
    rw [putS_eq, List.length_set, wipeS_len γ vs]
theorem wipeS_get (γ : Gm) (j : Nat) : ∀ vs : List Nat, (wipeS γ vs)[j]? = if j ∈ vs then (γ[j]?).map fun _ => Sl.un else γ[j]?
  | [] => by simp [wipeS]
  | v :: vs => by
    show (putS (wipeS γ vs) v .un)[j]? = _
    rw [putS_eq]
    by_cases z : v = j
    · subst z
      rw [if_pos List.mem_cons_self, List.getElem?_set]
      rw [if_pos rfl, wipeS_len]
      by_cases l : v < γ.length
      · rw [if_pos l, List.getElem?_eq_getElem l]; rfl
      · rw [if_neg l, List.getElem?_eq_none (by omega)]; rfl
    · rw [List.getElem?_set_ne z, wipeS_get γ j vs]
      have : (j ∈ v :: vs) ↔ j ∈ vs := by simp only [List.mem_cons]; exact ⟨fun h => h.resolve_left (fun e => z e.symm), .inr⟩
      by_cases h : j ∈ vs
      · rw [if_pos h, if_pos (this.mpr h)]
      · rw [if_neg h, if_neg (fun q => h (this.mp q))]
section
variable {X : Cx} {B : Bs} {G G' G1 : Hp} {γ γ' : Gm} {σ σ' : L2.St} {H H' : Hp} {e a b : Expr} {ta tb t : DT} {pos : Pos} {st : Stmt} {p : Addr} {o o' : HO}
/-- the slots change, where the word for each is still so -/
theorem Dst.reslot (S : Dst B G γ σ H) (hl : σ'.length = γ'.length) (hs : ∀ (i : Nat) s, γ'[i]? = some s → s = .un ∨ (γ[i]? = some s ∧ σ'[i]? = σ[i]?)) : Dst B G γ' σ' H where
  law := S.law
  sub := S.sub
  sub0 := S.sub0
  kept := S.kept
  fresh := S.fresh
  tups := S.tups
  dkok := S.dkok
  len := hl
  slot := fun i s e => by
    rcases hs i s e with z | ⟨h1, h2⟩
    · subst z
      have l : i < σ'.length := by rw [hl]; exact (List.getElem?_eq_some_iff.mp e).1
      exact ⟨σ'[i], List.getElem?_eq_getElem l, trivial⟩
    · obtain ⟨o, k1, k2⟩ := S.slot i s h1
      exact ⟨o, by rw [h2]; exact k1, k2⟩
  nd := fun i j p ds es e1 e2 => by
    rcases hs i _ e1 with z | ⟨h1, _⟩
    · cases z
    · rcases hs j _ e2 with z | ⟨h2, _⟩
      · cases z
      · exact S.nd i j p ds es h1 h2
theorem Dst.wiped (S : Dst B G γ σ H) (vs : List Nat) : Dst B G (wipeS γ vs) (wipe σ vs) H := S.reslot (by rw [wipe_length, wipeS_len]; exact S.len) fun i s e => by
  rw [wipeS_get] at e
  by_cases h : i ∈ vs
  · rw [if_pos h] at e
    cases q : γ[i]? with
    | none => rw [q] at e; cases e
    | some u => rw [q] at e; cases e; exact .inl rfl
  · rw [if_neg h] at e
    exact .inr ⟨e, by rw [wipe_get, if_neg h]⟩
theorem Dst.unwipe {vs : List Nat} (S : Dst B G γ (wipe σ vs) H) : Dst B G (wipeS γ vs) σ H := S.reslot (by rw [wipeS_len, ← S.len, wipe_length]) fun i s e => by
  rw [wipeS_get] at e
  by_cases h : i ∈ vs
  · rw [if_pos h] at e
    cases q : γ[i]? with
    | none => rw [q] at e; cases e
    | some u => rw [q] at e; cases e; exact .inl rfl
  · rw [if_neg h] at e
    exact .inr ⟨e, by rw [wipe_get, if_neg h]⟩
/-- an object that none knows is changed -/
theorem Dst.off (S : Dst B G γ σ H) (hg : G p = none) (h0 : B.H0 p = none) (hn : ∀ (i : Nat) ds, γ[i]? ≠ some (.own p ds)) {us : List V} : Dst B G γ σ (upd H p (.lst us)) where
  law := S.law
  sub := fun b u e => by rw [upd_ne (ne_of_none e hg)]; exact S.sub b u e
  sub0 := S.sub0
  kept := fun b u e z => by rw [upd_ne (ne_of_none e h0)]; exact S.kept b u e z
  fresh := S.fresh
  tups := fun q xs e => by
    by_cases z : q = p
    · subst z; rw [upd_same] at e; cases e
    · rw [upd_ne z] at e; exact S.tups q xs e
  dkok := fun d c e => by
    obtain ⟨h1, h2⟩ := S.dkok d c e
    obtain ⟨n1, n2⟩ := S.offdk h0 d c e
    exact ⟨S.law.keep _ _ _ _ h1 (upd_ne n1.symm) (upd_ne n2.symm), h2⟩
  len := S.len
  slot := fun i s e => by
    obtain ⟨o', h1, h2⟩ := S.slot i s e
    refine ⟨o', h1, ?_⟩
    cases s with
    | un => exact h2
    | fz d => exact h2
    | own q ds =>
      obtain ⟨a, ⟨vs, b, r⟩, c⟩ := h2
      have n : q ≠ p := fun n => hn i ds (n ▸ e)
      exact ⟨a, ⟨vs, by rw [upd_ne n]; exact b, r⟩, c⟩
  nd := S.nd
/-- an object that none knows is held fast for a while -/
theorem Dst.hide (S : Dst B G γ σ H) (hp : H p = some o) (hg : G p = none) (h0 : B.H0 p = none) (hn : ∀ (i : Nat) ds, γ[i]? ≠ some (.own p ds)) : Dst (withH B (upd B.H0 p o)) G γ σ H where
  law := S.law
  sub := S.sub
  sub0 := S.sub0
  kept := fun b u e z => by
    by_cases q : b = p
    · subst q
      have e : upd B.H0 b o b = some u := e
      rw [upd_same] at e
      cases e
      exact hp
    · have e : upd B.H0 p o b = some u := e
      rw [upd_ne q] at e
      exact S.kept b u e z
  fresh := fun q h1 h2 => by
    by_cases z : q = p
    · subst z; exact hg
    · have h1 : upd B.H0 p o q ≠ none := h1
      rw [upd_ne z] at h1
      exact S.fresh q h1 h2
  tups := S.tups
  dkok := fun d c e => by
    obtain ⟨h1, h2, h3, h4, h5⟩ := S.dkok d c e
    refine ⟨h1, ?_, ?_, h4, h5⟩
    · show upd B.H0 p o d ≠ none
      rw [upd_ne (fun z => h2 (by rw [z]; exact h0))]; exact h2
    · show upd B.H0 p o c ≠ none
      rw [upd_ne (fun z => h3 (by rw [z]; exact h0))]; exact h3
  len := S.len
  slot := fun i s e => by
    obtain ⟨o', h1, h2⟩ := S.slot i s e
    refine ⟨o', h1, ?_⟩
    cases s with
    | un => exact h2
    | fz d => exact h2
    | own q ds =>
      obtain ⟨a, b, c, d⟩ := h2
      have n : q ≠ p := fun n => hn i ds (n ▸ e)
      exact ⟨a, b, by show upd B.H0 p o q = none; rw [upd_ne n]; exact c, d⟩
  nd := S.nd
theorem Dst.unhide (S : Dst (withH B (upd B.H0 p o)) G γ σ H) (h0 : B.H0 p = none) (hg0 : B.G0 p = none) (hdk : ∀ d c, B.dk = some (d, c) → B.H0 d ≠ none ∧ B.H0 c ≠ none) : Dst B G γ σ H ∧ H p = some o ∧ G p = none ∧ ∀ (i : Nat) ds, γ[i]? ≠ some (.own p ds) := by
  have up : ∀ q, B.H0 q ≠ none → upd B.H0 p o q = B.H0 q := fun q h => upd_ne (fun z => h (z ▸ h0))
  refine ⟨?_, ?_, ?_, ?_⟩
  · constructor
    · exact S.law
    · exact S.sub
    · exact S.sub0
    · intro b u e z
      exact S.kept b u (by show upd B.H0 p o b = some u; rw [up b (by rw [e]; exact fun z => nomatch z)]; exact e) z
    · intro q h1 h2
      exact S.fresh q (by show upd B.H0 p o q ≠ none; rw [up q h1]; exact h1) h2
    · exact S.tups
    · intro d c e
      obtain ⟨h1, _, _, h4, h5⟩ := S.dkok d c e
      obtain ⟨h2, h3⟩ := hdk d c e
      exact ⟨h1, h2, h3, h4, h5⟩
    · exact S.len
    · intro i s e
      obtain ⟨o', h1, h2⟩ := S.slot i s e
      refine ⟨o', h1, ?_⟩
      cases s with
      | un => exact h2
      | fz d => exact h2
      | own q ds =>
        obtain ⟨a, b, c, d⟩ := h2
        have c : upd B.H0 p o q = none := c
        have n : q ≠ p := fun n => by subst n; rw [upd_same] at c; cases c
        rw [upd_ne n] at c
        exact ⟨a, b, c, d⟩
    · exact S.nd
  · refine S.kept p o upd_same fun d c e => ?_
    obtain ⟨h2, h3⟩ := hdk d c e
    exact ⟨fun z => h2 (z ▸ h0), fun z => h3 (z ▸ h0)⟩
  · exact S.fresh p (by show upd B.H0 p o p ≠ none; rw [upd_same]; exact fun z => nomatch z) hg0
  · intro i ds e
    obtain ⟨o', _, h2⟩ := S.slot i _ e
    obtain ⟨_, _, c, _⟩ := h2
    have c : upd B.H0 p o p = none := c
    rw [upd_same] at c
    cases c
def tDx (B : Bs) (t : DT) : TE := fun σ H Q => ∃ H0, tD (withH B H0) t σ H Q
def tDBx (B : Bs) (t : DB) : TT := fun σ H Q => ∃ H0, tDB (withH B H0) t σ H Q
def tDGx (B : Bs) (vs : List Nat) (b : BdT) : TG := fun v σ H Q => ∃ H0, tDG (withH B H0) vs b v σ H Q
theorem dx (h : ∀ H0, PE X e (tD (withH B H0) t)) : PE X e (tDx B t) := ⟨fun pins s σ H Q I ⟨H0, q⟩ => (h H0).run pins s σ H Q I q⟩
theorem gx {tg : Expr} {vs : List Nat} {bd : BdT} (h : ∀ H0, PG X tg (tDG (withH B H0) vs bd)) : PG X tg (tDGx B vs bd) := ⟨fun pins s σ H v u Q I r ⟨H0, q⟩ => (h H0).run pins s σ H v u Q I r q⟩
def bYes : DB := fun γ R => R true γ
theorem bx_yes : PTs X [] (tDBx B bYes) := ⟨fun pins s σ H Q I ⟨H0, G, γ, R, S, h, k⟩ => pts_nil.run pins s σ H Q I (k _ _ _ _ h (Same.refl _) S)⟩
theorem bx_one {c : Expr} {t : DB} (h : ∀ H0, PT X c (tDB (withH B H0) t)) : PTs X [c] (tDBx B t) := ⟨fun pins s σ H Q I ⟨H0, q⟩ => (pts_one (h H0)).run pins s σ H Q I q⟩
def lcD (bd : BdT) (tt : DB) (te : DT) (vs : List Nat) : List D → List D → Gm → (List D → Gm → Prop) → Prop
  | [], acc, γ, R => R acc (wipeS γ vs)
  | d :: ds, acc, γ, R => bd d γ fun γ2 => tt γ2 fun b γ3 => (b = true → te γ3 fun c γ4 => acc.length < 1000000 ∧ lcD bd tt te vs ds (acc ++ [c]) (wipeS γ4 vs) R) ∧ (b = false → lcD bd tt te vs ds acc (wipeS γ3 vs) R)
def fLc (t : DA) (bd : BdT) (tt : DB) (te : DT) (vs : List Nat) : DA := fun γ R => t γ fun ds γ1 => lcD bd tt te vs ds [] (wipeS γ1 vs) R
theorem lc_run {t : DA} {bd : BdT} {tt : DB} {te : DT} {vs : List Nat} : ∀ σ H Q, tDF B (fLc t bd tt te vs) σ H Q → tLc (tDI B t) (tDGx B vs bd) (tDBx B tt) (tDx B te) vs σ H Q := fun σ H Q ⟨G, γ, R, S, h, k⟩ => by
  refine ⟨G, γ, _, S, h, fun ds γ1 G1 H1 J q sm S1 w Dd hD => ?_⟩
  have hg0 : B.G0 Dd = none := S1.sub0.free (S1.sub.free hD)
  have hh0 := S1.free0 hD
  have hdk : ∀ d c, B.dk = some (d, c) → B.H0 d ≠ none ∧ B.H0 c ≠ none := fun d c e => ⟨(S1.dkok d c e).2.1, (S1.dkok d c e).2.2.1⟩
  refine ⟨fun i m H => ∃ G γ us acc, m = ds.length - i ∧ i ≤ ds.length ∧ Same G1 G ∧ Dst B G γ (wipe σ vs) H ∧ H Dd = some (.lst us) ∧ RpAll B.K B.dk G us acc ∧ G Dd = none ∧ (∀ (i : Nat) ds, γ[i]? ≠ some (.own Dd ds)) ∧ lcD bd tt te vs (ds.drop i) acc γ R,
    ⟨_, G1, wipeS γ1 vs, [], [], rfl, Nat.zero_le _, Same.refl _, (S1.laid hD).wiped vs, upd_same, .nil, S1.sub.free hD, ?_, q⟩, ?_⟩
  · intro i es e
    rw [wipeS_get] at e
    split at e
    · cases q : γ1[i]? with
      | none => rw [q] at e; cases e
      | some u => rw [q] at e; cases e
    · exact S1.noown hD i es e
  rintro i m H2 ⟨G2, γ2, us, acc, rfl, hi, sm2, S2, hu, ra, hg, hn, q2⟩
  have S2h := S2.hide hu hg hh0 hn
  obtain ⟨w1, w2⟩ := w _ G2 γ2 _ H2 sm2 S2h
  by_cases hlt : i < ds.length
  · right
    obtain ⟨go, y⟩ := w2 i _ (List.getElem?_eq_getElem hlt)
    rw [List.drop_eq_getElem_cons hlt] at q2
    refine ⟨go, fun H' => ∃ G γ us acc, Same G1 G ∧ Dst B G γ (wipe σ vs) H' ∧ H' Dd = some (.lst us) ∧ RpAll B.K B.dk G us acc ∧ G Dd = none ∧ (∀ (i : Nat) ds, γ[i]? ≠ some (.own Dd ds)) ∧ lcD bd tt te vs (ds.drop (i + 1)) acc γ R,
      fun H' ⟨G3, γ3, us, acc, z⟩ => ⟨ds.length - (i + 1), by omega, G3, γ3, us, acc, rfl, hlt, z⟩, fun x H' yy => ?_⟩
    obtain ⟨G3, s3, S3, r3⟩ := y x H' yy
    refine ⟨upd B.H0 Dd (.lst us), G3, γ2, _, _, S3, r3, q2, fun γ4 σ4 q4 S4 w4 => ⟨w4.trans (wipe_wipe σ vs), ?_⟩⟩
    have w4' : wipe σ4 vs = wipe σ vs := w4.trans (wipe_wipe σ vs)
    have s13 : Same G1 G3 := sm2.trans s3
    refine ⟨_, G3, γ4, _, S4, q4, fun b γ5 G5 H5 ⟨h1, h2⟩ s5 S5 => ?_⟩
    have wn : ∀ {γ : Gm}, (∀ (i : Nat) ds, γ[i]? ≠ some (.own Dd ds)) → ∀ (i : Nat) ds, (wipeS γ vs)[i]? ≠ some (.own Dd ds) := fun {γ} hn i es e => by
      rw [wipeS_get] at e
      split at e
      · cases q : γ[i]? with
        | none => rw [q] at e; cases e
        | some u => rw [q] at e; cases e
      · exact hn i es e
    cases b with
    | true =>
      refine iteT ?_
      refine ⟨_, G5, γ5, _, S5, h1 rfl, fun c γ6 G6 v H6 ⟨hl, q6⟩ s6 S6 r6 => ?_⟩
      obtain ⟨S6', hu6, hg6, hn6⟩ := S6.unhide hh0 hg0 hdk
      have ra6 := ra.mono (s3.trans (s5.trans s6))
      refine ⟨us, hu6, by rw [ra6.len]; exact Nat.lt_of_lt_of_le hl (by decide), G6, wipeS γ6 vs, us ++ [v], acc ++ [c], s13.trans (s5.trans s6), ?_, upd_same, ra6.app (.cons r6 .nil), hg6, wn hn6, q6⟩
      rw [← w4']
      exact (S6'.wiped vs).off hg6 hh0 (wn hn6)
    | false =>
      refine iteF ?_
      obtain ⟨S5', hu5, hg5, hn5⟩ := S5.unhide hh0 hg0 hdk
      refine ⟨G5, wipeS γ5 vs, us, acc, s13.trans s5, ?_, hu5, ra.mono (s3.trans s5), hg5, wn hn5, h2 rfl⟩
      rw [← w4']
      exact S5'.wiped vs
  · left
    have e : i = ds.length := by omega
    subst e
    rw [List.drop_length] at q2
    refine ⟨w1, k _ _ _ _ _ _ q2 (sm.trans sm2) S2.unwipe hu ra hh0 hg fun i es e => ?_⟩
    rw [wipeS_get] at e
    split at e
    · cases q : γ2[i]? with
      | none => rw [q] at e; cases e
      | some u => rw [q] at e; cases e
    · exact hn i es e
theorem f_lc {t : DA} {bd : BdT} {tt : DB} {te : DT} {vs : List Nat} (h : PE X e (tLc (tDI B t) (tDGx B vs bd) (tDBx B tt) (tDx B te) vs)) : PE X e (tDF B (fLc t bd tt te vs)) := pe_imp h lc_run
theorem a_lc {t : DA} {bd : BdT} {tt : DB} {te : DT} {vs : List Nat} {g : TG} (h : PS X st (tAsg (tLc (tDI B t) (tDGx B vs bd) (tDBx B tt) (tDx B te) vs) g)) : PS X st (tAsg (tDF B (fLc t bd tt te vs)) g) := ps_imp h fun De σ H q => lc_run σ H _ q
theorem a_f {t : DA} {g : TG} (h : PS X st (tAsg (tDF B t) g)) : PS X st (tAsg (tD B (dF t)) g) := ps_imp h fun De σ H ⟨G, γ, R, S, h, k⟩ =>
  ⟨G, γ, _, S, h, fun ds γ1 G1 p vs H1 h1 s1 S1 hp r1 h0 hg hn => by
    obtain ⟨S2, sm⟩ := S1.frz hp h0 hg hn
    exact k _ _ _ _ _ h1 (s1.trans sm) S2 (.lst upd_same (r1.mono sm))⟩
/-! ### in, not in -/
def flatD : D → Bool
  | .non => true
  | .bl _ => true
  | .int _ => true
  | .str _ => true
  | _ => false
def eqF : D → D → Bool
  | .non, .non => true
  | .bl a, .bl b => a == b
  | .bl a, .int b => (if a then 1 else 0) == b
  | .int a, .bl b => a == (if b then 1 else 0)
  | .int a, .int b => a == b
  | .str a, .str b => a == b
  | _, _ => false
def inDs (d : D) (ds : List D) : Bool := ds.any fun y => eqF y d
theorem flat_of {K : PySem.W.Frag} {dk : Option (Addr × Addr)} {v : V} {d : D} (r : Rp K dk G v d) (h : flatD d = true) : flatV v = true := by
  cases r <;> first | rfl | cases h
theorem eqF_of {K : PySem.W.Frag} {dk : Option (Addr × Addr)} {v u : V} {d c : D} (r : Rp K dk G v d) (r' : Rp K dk G u c) (h : flatD d = true) (h' : flatD c = true) : eqV v u = eqF d c := by
  cases r <;> first | (cases h; done) | (cases r' <;> first | (cases h'; done) | rfl)
theorem flats_of {K : PySem.W.Frag} {dk : Option (Addr × Addr)} : ∀ {vs : List V} {ds : List D}, RpAll K dk G vs ds → ds.all flatD = true → vs.all flatV = true
  | _, _, .nil, _ => rfl
  | _, _, .cons r t, h => by
    rw [List.all_cons, Bool.and_eq_true] at h ⊢
    exact ⟨flat_of r h.1, flats_of t h.2⟩
theorem in_of {K : PySem.W.Frag} {dk : Option (Addr × Addr)} {v : V} {d : D} (r : Rp K dk G v d) (h : flatD d = true) : ∀ {vs : List V} {ds : List D}, RpAll K dk G vs ds → ds.all flatD = true → inV v vs = inDs d ds
  | _, _, .nil, _ => rfl
  | _, _, .cons r' t, h' => by
    rw [List.all_cons, Bool.and_eq_true] at h'
    have ih := in_of r h t h'.2
    unfold inV inDs at ih ⊢
    rw [List.any_cons, List.any_cons, eqF_of r' r h'.1 h, ih]
abbrev fIn (neg : Bool) : F2 := fun d e R => ∃ ds, itemsD e = some ds ∧ flatD d = true ∧ ds.all flatD = true ∧ R (.bl (if neg then !inDs d ds else inDs d ds))
theorem ok_in {neg : Bool} (hK : X.K = B.K) : OkR2 B (rIn X.K neg) (fIn neg) := by
  rintro G γ σ H x y d e R Q S rx ry ⟨ds, h1, h2, h3, h⟩ k
  rw [hK]
  unfold itemsD at h1
  split at h1
  · cases h1
    cases ry with
    | lst hs ra =>
      refine ⟨_, _, rfl, .inl (SqL.of (S.sub _ _ hs)), flat_of rx h2, flats_of ra h3, ?_⟩
      rw [in_of rx h2 ra h3]
      exact k _ _ _ _ h (Same.refl _) S (.bl _)
  · cases h1
    cases ry with
    | tup hs ra =>
      refine ⟨_, _, rfl, .inr (SqT.of (S.sub _ _ hs)), flat_of rx h2, flats_of ra h3, ?_⟩
      rw [in_of rx h2 ra h3]
      exact k _ _ _ _ h (Same.refl _) S (.bl _)
  · cases h1
/-! ### isinstance -/
inductive TyD (K : PySem.W.Frag) : D → Value → Prop
  | non : TyD K .non (.type "NoneType")
  | bl (b : Bool) : TyD K (.bl b) (.type "bool")
  | int (i : Int) : TyD K (.int i) (.type "int")
  | str (z : Str) : TyD K (.str z) (.type "str")
  | tup (ds : List D) : TyD K (.tup ds) (.type "tuple")
  | lst (ds : List D) : TyD K (.lst ds) (.type "list")
  | obj {C : Addr} (fs : List (Str × V)) (cl : Cls K C) (ha : PySem.W.findIn K (.ref C) "__class__" = some (some (.builtin "object.__class__")))
      (hn : PySem.W.specialIn K (.builtin "object.__class__") "__get__" = some (some (.builtin "getset_descriptor.__get__"))) (htk : PySem.W.takesIn K (.builtin "object.__class__") = some true)
      (hm : PySem.W.mroIn K C (.type "object") = some true) : TyD K (.obj C fs) (.ref C)
theorem TyD.of {K : PySem.W.Frag} {dk : Option (Addr × Addr)} {v : V} {d : D} {t : Value} (h : TyD K d t) (r : Rp K dk G v d) (s : Same G H) : TyX K H v t := by
  cases h with
  | non => cases r; exact .base .non
  | bl b => cases r; exact .base (.bl b)
  | int i => cases r; exact .base (.int i)
  | str z => cases r; exact .base (.str z)
  | tup ds =>
    cases r with
    | tup hs ra =>
      exact .base (.tup (s _ _ hs))
  | lst ds =>
    cases r with
    | lst hs ra => exact .base (.lst (s _ _ hs))
  | obj fs cl ha hn htk hm =>
    cases r with
    | obj hv => exact .base (.ins (s _ _ hv) cl ha hn htk hm)
abbrev fIsi (K : PySem.W.Frag) : FC := fun ds R => ∃ d c u t b, ds = [d, .opq c] ∧ ClsV c u ∧ TyD K d t ∧ PySem.W.kitOne K t u = some b ∧ R (.bl b)
theorem ok_isi (hK : X.K = B.K) : OkRC B (rIsi X.K) (fIsi B.K) := by
  rintro G γ σ H vs ds R Q S r ⟨d, c, u, t, b, rfl, h1, h2, h3, h⟩ k
  rw [hK]
  cases r with
  | cons r1 r2 =>
    cases r2 with
    | cons r2 r3 =>
      cases r3
      cases r2
      exact ⟨_, _, t, u, b, rfl, h1, h2.of r1 S.sub, h3, k _ _ _ _ h (Same.refl _) S (.bl _)⟩
/-! ### data as the library has it; repr, == -/
mutual
def pyD : D → Option PyData
  | .non => some .none
  | .bl b => some (.bool b)
  | .int i => some (.int i)
  | .str z => some (.str z)
  | .tup ds => (pyAll ds).map .tuple
  | .lst ds => (pyAll ds).map .list
  | .obj _ _ => none
  | .dk => none
  | .opq _ => none
def pyAll : List D → Option (List PyData)
  | [] => some []
  | d :: ds => (pyD d).bind fun p => (pyAll ds).map fun ps => p :: ps
end
mutual
theorem py_of {K : PySem.W.Frag} {dk : Option (Addr × Addr)} (s : Same G H) : ∀ {v : V} {d : D} {p : PyData}, Rp K dk G v d → pyD d = some p → Dp K H v p
  | _, _, _, .non, h => by rw [pyD] at h; cases h; exact .non
  | _, _, _, .bl b, h => by rw [pyD] at h; cases h; exact .bl b
  | _, _, _, .int i, h => by rw [pyD] at h; cases h; exact .int i
  | _, _, _, .str z, h => by rw [pyD] at h; cases h; exact .str z
  | _, _, _, .tup (ds := ds) hs ra, h => by
    rw [pyD] at h
    cases q : pyAll ds with
    | none => rw [q] at h; cases h
    | some ps => rw [q] at h; cases h; exact .tup (SqT.of (s _ _ hs)) (pyAll_of s ra q)
  | _, _, _, .lst (ds := ds) hs ra, h => by
    rw [pyD] at h
    cases q : pyAll ds with
    | none => rw [q] at h; cases h
    | some ps => rw [q] at h; cases h; exact .lst (SqL.of (s _ _ hs)) (pyAll_of s ra q)
  | _, _, _, .obj _, h => by rw [pyD] at h; cases h
  | _, _, _, .dk _, h => by rw [pyD] at h; cases h
  | _, _, _, .opq _, h => by rw [pyD] at h; cases h
theorem pyAll_of {K : PySem.W.Frag} {dk : Option (Addr × Addr)} (s : Same G H) : ∀ {vs : List V} {ds : List D} {ps : List PyData}, RpAll K dk G vs ds → pyAll ds = some ps → DpAll K H vs ps
  | _, _, _, .nil, h => by rw [pyAll] at h; cases h; exact .nil
  | _, _, _, .cons (d := d) (ds := ds) r t, h => by
    rw [pyAll] at h
    cases q : pyD d with
    | none => rw [q] at h; cases h
    | some p =>
      cases q2 : pyAll ds with
      | none => rw [q, q2] at h; cases h
      | some ps => rw [q, q2] at h; cases h; exact .cons (py_of s r q) (pyAll_of s t q2)
end
abbrev fEqD : F2 := fun d e R => ∃ p q, pyD d = some p ∧ pyD e = some q ∧ SeqAt.shaped p = true ∧ SeqAt.shaped q = true ∧ R (.bl (PyData.eqv p q))
abbrev fNeD : F2 := fun d e R => ∃ p q, pyD d = some p ∧ pyD e = some q ∧ SeqAt.shaped p = true ∧ SeqAt.shaped q = true ∧ R (.bl (!PyData.eqv p q))
theorem ok_eqD (hK : X.K = B.K) : OkR2 B (rEqD X.K) fEqD := by
  rintro G γ σ H x y d e R Q S rx ry ⟨p, q, h1, h2, h3, h4, h⟩ k
  rw [hK]
  exact ⟨p, q, py_of S.sub rx h1, py_of S.sub ry h2, h3, h4, k _ _ _ _ h (Same.refl _) S (.bl _)⟩
theorem ok_neD (hK : X.K = B.K) : OkR2 B (rNeD X.K) fNeD := by
  rintro G γ σ H x y d e R Q S rx ry ⟨p, q, h1, h2, h3, h4, h⟩ k
  rw [hK]
  exact ⟨p, q, py_of S.sub rx h1, py_of S.sub ry h2, h3, h4, k _ _ _ _ h (Same.refl _) S (.bl _)⟩
def isSeqD : D → Bool
  | .tup _ => true
  | .lst _ => true
  | _ => false
abbrev fRepr : FC := fun ds R => ∃ d p, ds = [d] ∧ isSeqD d = true ∧ pyD d = some p ∧ p.showable = true ∧ p.hasDict = false ∧ p.depth ≤ 60 ∧ p.shown.length ≤ sizeLine ∧ R (.str p.shown)
theorem ok_repr (hK : X.K = B.K) : OkRC B (PH.rRepr X.K) fRepr := by
  rintro G γ σ H vs ds R Q S r ⟨d, p, rfl, h0, h1, h2, h3, h4, h5, h⟩ k
  rw [hK]
  cases r with
  | cons r1 r2 =>
    cases r2
    have hp := py_of S.sub r1 h1
    have fin := k _ _ _ _ h (Same.refl _) S (.str p.shown)
    cases r1 with
    | tup hs ra => exact ⟨_, p, rfl, hp, h2, h3, h4, h5, fin⟩
    | lst hs ra => exact ⟨_, p, rfl, hp, h2, h3, h4, h5, fin⟩
    | _ => cases h0
end
end DL
namespace DL
open PySem PySem.Spec PyProof.Rows L2
section
variable {X : Cx} {B : Bs} {G G' G1 : Hp} {γ γ' : Gm} {σ σ' : L2.St} {H H' : Hp} {e a b : Expr} {ta tb t : DT} {pos : Pos} {st : Stmt} {p : Addr}
/-- with all the tuples of a greater heap -/
def upT (G H : Hp) : Hp := fun b => match H b with
  | some (.tup xs) => some (.tup xs)
  | _ => G b
theorem upT_tup {G H : Hp} {q : Addr} {xs : List V} (h : H q = some (.tup xs)) : upT G H q = some (.tup xs) := by unfold upT; rw [h]
theorem upT_other {G H : Hp} {q : Addr} (h : ∀ xs, H q ≠ some (.tup xs)) : upT G H q = G q := by
  unfold upT
  split
  · rename_i xs e; exact absurd e (h xs)
  · rfl
theorem Dst.ext (S : Dst B G γ σ H) (h : Same H H') : ∃ G', Same G G' ∧ Dst B G' γ σ H' := by
  have s1 : Same G (upT G H') := fun b o e => by
    unfold upT
    split
    · rename_i xs z
      rw [h _ _ (S.sub b o e)] at z
      cases z
      rfl
    · exact e
  refine ⟨upT G H', s1, S.after s1 ?_ (fun p xs e => upT_tup e) ?_ (Kp.of h) fun d c e => ?_⟩
  · intro b o e
    unfold upT at e
    split at e
    · rename_i xs z; cases e; exact z
    · exact h _ _ (S.sub b o e)
  · intro p hp hg
    rw [upT_other]
    · exact hg
    · intro xs e
      cases q : H p with
      | none => exact hp q
      | some o =>
        rw [h _ _ q] at e
        cases e
        rw [S.tups _ _ q] at hg
        cases hg
  · obtain ⟨h1, _⟩ := S.dkok d c e
    obtain ⟨t1, t2⟩ := S.law.there _ _ _ h1
    have f : ∀ q, H q ≠ none → H' q = H q := fun q hq => by
      cases z : H q with
      | none => exact absurd z hq
      | some o => exact h q o z
    exact S.law.keep _ _ _ _ h1 (f d t1) (f c t2)
/-! ### == and != of instances that the class calls alike -/
abbrev fNeIns (C : Addr) (P : List (Str × V) → List (Str × V) → Prop) : F2 := fun d e R => ∃ fs gs, d = .obj C fs ∧ e = .obj C gs ∧ P fs gs ∧ R (.bl false)
abbrev fEqIns (C : Addr) (P : List (Str × V) → List (Str × V) → Prop) : F2 := fun d e R => ∃ fs gs, d = .obj C fs ∧ e = .obj C gs ∧ P fs gs ∧ R (.bl true)
theorem ok_neIns {C : Addr} {P : List (Str × V) → List (Str × V) → Prop} {Rl : Addr → Addr → Hp → Prop} (hR : ∀ a b dx dy fs gs H, H a = some (.ins C dx fs) → H b = some (.ins C dy gs) → P fs gs → Rl a b H) :
    OkR2 B (fun x y H Q => DIns C Rl x y H ∧ ∀ H', Ext H H' → Q (.bl false) H') (fNeIns C P) := by
  rintro G γ σ H x y d e R Q S rx ry ⟨fs, gs, rfl, rfl, hp, h⟩ k
  cases rx with
  | @obj a dx _ _ ha =>
    cases ry with
    | @obj b dy _ _ hb =>
      exact ⟨⟨a, b, dx, dy, fs, gs, rfl, rfl, S.sub _ _ ha, S.sub _ _ hb, hR _ _ _ _ _ _ _ (S.sub _ _ ha) (S.sub _ _ hb) hp⟩, fun H' ex => by
        obtain ⟨G2, s2, S2⟩ := S.ext ex
        exact k _ _ _ _ h s2 S2 (.bl _)⟩
theorem ok_eqIns {C : Addr} {P : List (Str × V) → List (Str × V) → Prop} {Rl : Addr → Addr → Hp → Prop} (hR : ∀ a b dx dy fs gs H, H a = some (.ins C dx fs) → H b = some (.ins C dy gs) → P fs gs → Rl a b H) :
    OkR2 B (rEqG (DIns C Rl)) (fEqIns C P) := by
  rintro G γ σ H x y d e R Q S rx ry ⟨fs, gs, rfl, rfl, hp, h⟩ k
  cases rx with
  | @obj a dx _ _ ha =>
    cases ry with
    | @obj b dy _ _ hb =>
      exact ⟨⟨a, b, dx, dy, fs, gs, rfl, rfl, S.sub _ _ ha, S.sub _ _ hb, hR _ _ _ _ _ _ _ (S.sub _ _ ha) (S.sub _ _ hb) hp⟩, fun H' ex => by
        obtain ⟨G2, s2, S2⟩ := S.ext ex
        exact k _ _ _ _ h s2 S2 (.bl _)⟩
/-! ### an item of an own list -/
theorem ixD_lst {es : List D} {d c : D} (h : ixD (.lst es) d = some c) : ∃ i, d = .int i ∧ atI es i = some c := by
  cases d with
  | int i => exact ⟨i, rfl, h⟩
  | _ => cases h
def dIxOwn (i : Nat) (t : DT) : DT := fun γ R => (∃ p ds, look γ i = .own p ds ∧ t γ fun d γ1 => ∃ es c, look γ1 i = .own p es ∧ ixD (.lst es) d = some c ∧ R c γ1) ∨
  ∃ es, look γ i = .fz (.lst es) ∧ t γ fun d γ1 => ∃ c, ixD (.lst es) d = some c ∧ R c γ1
theorem d_ixO {i : Nat} (h : PE X e (tOp (rIxL X.K) (tVar i) (tD B t))) (hK : X.K = B.K) : PE X e (tD B (dIxOwn i t)) := pe_imp h fun σ H Q ⟨G, γ, R, S, h, k⟩ => by
  rcases h with ⟨p, ds, hi, h⟩ | ⟨es, hi, h⟩
  · obtain ⟨o, h1, h2, ⟨vs, h3, h4⟩, _⟩ := S.slot i _ (look_get hi (fun z => nomatch z))
    subst h2
    refine ⟨_, h1, G, γ, _, S, h, fun d γ1 G1 v H1 ⟨es, c, hi1, hc, q⟩ sm S1 r => ?_⟩
    obtain ⟨o', k1, k2, ⟨us, k3, k4⟩, _⟩ := S1.slot i _ (look_get hi1 (fun z => nomatch z))
    obtain ⟨z, rfl, hz⟩ := ixD_lst hc
    cases rpInt r
    obtain ⟨u, hu, ru⟩ := atI_len k4 hz
    exact ⟨p, us, _, u, rfl, rfl, SqL.of k3, hu, k _ _ _ _ _ q sm S1 ru⟩
  · obtain ⟨o, h1, v, h2, rv⟩ := S.slot i _ (look_get hi (fun z => nomatch z))
    subst h2
    cases rv with
    | @lst a vs _ hs ra =>
      refine ⟨_, h1, G, γ, _, S, h, fun d γ1 G1 v H1 ⟨c, hc, q⟩ sm S1 r => ?_⟩
      obtain ⟨z, rfl, hz⟩ := ixD_lst hc
      cases rpInt r
      obtain ⟨u, hu, ru⟩ := atI_len (ra.mono sm) hz
      exact ⟨a, vs, _, u, rfl, rfl, SqL.of (S1.sub _ _ (sm _ _ hs)), hu, k _ _ _ _ _ q sm S1 ru⟩
/-! ### o.m(k = v, ..) -/
structure KBindsM (K : PySem.W.Frag) (fd : FuncData) (ps ks : List Str) : Prop where
  to : ∀ (s : Shared) (self : Value) (ws : List Value), K.In s.heap → ws.length + 1 = ps.length → BindsTo s fd ⟨[self], ks.zip ws⟩ (ps.zip (self :: ws))
def tMethKw (C : Addr) (m : Str) (sp : Sp) (E : XK) (ta : TE) (tk : TA) : TE := fun σ H Q => ta σ H fun x H1 => ∃ a dx fs, x = .ref a ∧ H1 a = some (.ins C dx fs) ∧ fs.lookup m = none ∧
  tk σ H1 fun zs H2 => sp (x :: zs) H2 Q E
theorem pe_methKw {C f : Addr} {fd : FuncData} {ps ks : List Str} {sp : Sp} {E : XK} {CX : CXT} {kk : Nat} {m : Str} {apos : Pos} {kws : List Keyword} {tk : TA} {te : TE} {pl : Sem Bool} (he : PE X e te) (c : Cls X.K C) (hm : Meth X.K C m f) (F : FnOk X.prog X.w X.K X.mg X.base CX kk f fd ps sp) (hr : Room kk X.A) (hb : KBindsM X.K fd ps ks) (hx : Passes CX X E) (hkw : PK X kws tk)
    (hall : (backToKw pos (keywordEach kws X.env)).all (·.1.isSome) = true := by rfl) (hks : (backToKw pos (keywordEach kws X.env)).filterMap (·.1) = ks := by rfl)
    (hpl : ((backTo pos (starEach [] X.env)).any (·.1) || (backToKw pos (keywordEach kws X.env)).any (·.1.isNone)) = false := by rfl)
    (ht : eval (.Call (.Attribute e m apos) [] kws pos) X.env = (do
      let ov ← eval e X.env
      standAt apos.atName
      let (f, first) ← holding [ov] (getMethod ov m pl)
      callWith pos f first (backTo pos (starEach [] X.env)) (backToKw pos (keywordEach kws X.env))) := by rfl) :
    PE X (.Call (.Attribute e m apos) [] kws pos) (tMethKw C m sp E te tk) := by
  refine ⟨fun pins s σ H Q I h => ?_⟩
  refine PySem.W.methodCall_KW (pl := pl) (thn (he.run pins s σ H _ I h) fun u s1 ⟨x, H1, I1, rx, a, dx, fs, ex, ea, l, q⟩ => ?_) ht
  subst ex
  obtain rfl : u = Value.ref a := rx
  refine getmeth_ok I1 ea c hm l ?_
  refine PySem.W.callWith_KW0 (first := [.ref a]) (h₀ := X.base) I.ok.mod.kin hm.kp hall (thn (hkw.run pos pins s1 σ H1 _ I1 q) fun ws s2 ⟨zs, H2, I2, rz, q2⟩ => ⟨I2.kIn, ?_⟩) hpl
  rw [hks]
  have r2 : Vals (V.ref a :: zs) (Value.ref a :: ws) := .cons rfl rz
  have hl := F.len _ _ _ _ q2
  have hl2 : ws.length + 1 = ps.length := by rw [← rz.length]; exact hl
  refine wpAny_call (codeAny_mono (F.run X.A X.stack s2 H2 ⟨[.ref a], ks.zip ws⟩ (.ref a :: ws) (.ref a :: zs) Q E hr I2.env0 (hb.to s2 (.ref a) ws I2.kIn hl2) r2 q2) fun r s' hq => ?_)
  cases r with
  | error e => exact hx pins σ H2 s2 e s' I2 hq
  | ok fl =>
    cases fl with
    | ret u => exact I2.after hq
    | next => exact False.elim hq
    | brk => exact False.elim hq
    | cont => exact False.elim hq
/-- keywords' values -/
theorem k_nil : PK X [] (tDA B aNil) := ⟨fun pos pins s σ H Q I ⟨_, _, _, S, h, k⟩ => pk_nil.run pos pins s σ H Q I (k _ _ _ _ _ h (Same.refl _) S .nil)⟩
theorem k_cons {kws : List Keyword} {nm : Option Str} {kpos : Pos} {tr : DA} (ha : PE X e (tD B t)) (hr : PK X kws (tDA B tr)) : PK X (⟨nm, e, kpos⟩ :: kws) (tDA B (aCons t tr)) :=
  ⟨fun pos pins s σ H Q I q => (pk_cons (nm := nm) (kpos := kpos) ha hr).run pos pins s σ H Q I (acons_core σ H Q q)⟩
theorem d_methK {C : Addr} {m : Str} {n : Nat} {F : FD} {ta : DA} {E : XK} (h : PE X e (tMethKw C m (spD B.K B.DkAt n F) E (tD B t) (tDA B ta))) : PE X e (tD B (dMeth C m n F t ta)) := pe_imp h fun σ H Q ⟨G, γ, R, S, h, k⟩ =>
  ⟨G, γ, _, S, h, fun d γ1 G1 v H1 ⟨fs, e, hm, h2⟩ sm S1 r => by
    subst e
    cases r with
    | obj hv =>
      refine ⟨_, _, fs, rfl, S1.sub _ _ hv, hm, G1, γ1, _, S1, h2, fun ds γ2 G2 vs H2 ⟨hl, hF⟩ sm2 S2 r2 => ?_⟩
      exact sp_run S2 (.cons (.obj (sm2 _ _ hv)) r2) hl hF fun d G' v H' hR s' S' r' => k _ _ _ _ _ hR (sm.trans (sm2.trans s')) S' r'⟩
/-! ### what is known of data that is ints alone -/
theorem rp_ints {K : PySem.W.Frag} {dk : Option (Addr × Addr)} : ∀ {ns : List Int} {vs : List V}, RpAll K dk G vs (ns.map D.int) → vs = ns.map V.int
  | [], _, .nil => rfl
  | n :: ns, _, .cons r t => by
    cases rpInt r
    rw [rp_ints t]
    rfl
theorem ints_rp {K : PySem.W.Frag} {dk : Option (Addr × Addr)} : ∀ (ns : List Int), RpAll K dk G (ns.map V.int) (ns.map D.int)
  | [] => .nil
  | n :: ns => .cons (.int n) (ints_rp ns)
/-- a promise told by data gives what a promise by addresses asks: an object that is there behind the call, new or a tuple -/
theorem conv_at {K : PySem.W.Frag} {DkAt : Hp → Addr → Addr → Prop} {dk : Option (Addr × Addr)} {G H H' : Hp} {R : D → Prop} {Q : VK} {d : D} {p : Addr} {o : HO} (L : DkLaw DkAt) (hd : ∀ d c, dk = some (d, c) → DkAt H d c ∧ G d = none ∧ G c = none) (sm : Same G H) (tu : ∀ p xs, H p = some (.tup xs) → G p = some (.tup xs))
    (k : ∀ d v G' H', R d → Same G G' → Same G' H' → (∀ p xs, H' p = some (.tup xs) → G' p = some (.tup xs)) → (∀ p, H p ≠ none → G p = none → G' p = none) → Kp dk H H' → (∀ d c, dk = some (d, c) → DkAt H' d c) → Rp K dk G' v d → Q v H')
    (s : Kp dk H H') (hd' : ∀ d c, dk = some (d, c) → DkAt H' d c) (np : (∃ xs, o = .tup xs) ∨ H p = none) (hp : H' p = some o) (hR : R d) (r : ∀ G', Same G G' → G' p = some o → Rp K dk G' (.ref p) d) : Q (.ref p) H' := by
  have keep : ∀ b u, G b = some u → H' b = some u := fun b u e => s b u (sm b u e) fun d c z => by
    obtain ⟨_, h2, h3⟩ := hd d c z
    have n1 : b ≠ d := fun q => by
      rw [q, h2] at e
      cases e
    have n2 : b ≠ c := fun q => by
      rw [q, h3] at e
      cases e
    exact ⟨n1, n2⟩
  -- what was not read alone is a tuple no more
  have nt : ∀ q, H q ≠ none → G q = none → ∀ xs, H' q ≠ some (.tup xs) := fun q hq hg xs e => by
    by_cases z : ∀ d c, dk = some (d, c) → q ≠ d ∧ q ≠ c
    · cases w : H q with
      | none => exact hq w
      | some u =>
        rw [s q u w z] at e
        cases e
        rw [tu _ _ w] at hg
        cases hg
    · exfalso
      apply z
      intro d c hdc
      obtain ⟨h1, h2⟩ := L.tup _ _ _ (hd' d c hdc)
      exact ⟨fun w => h1 xs (w ▸ e), fun w => h2 xs (w ▸ e)⟩
  let G2 : Hp := fun b => if b = p then some o else upT G H' b
  have g2p : G2 p = some o := if_pos rfl
  have g2n : ∀ b, b ≠ p → G2 b = upT G H' b := fun b z => if_neg z
  have s1 : Same G G2 := fun b u e => by
    by_cases z : b = p
    · subst z
      rw [g2p]
      have := keep _ _ e
      rw [hp] at this
      exact this
    · rw [g2n b z]
      unfold upT
      split
      · rename_i xs w
        rw [keep _ _ e] at w
        cases w
        rfl
      · exact e
  refine k d (.ref p) G2 H' hR s1 ?_ ?_ ?_ s hd' (r _ s1 g2p)
  · intro b u e
    by_cases z : b = p
    · subst z
      rw [g2p] at e
      cases e
      exact hp
    · rw [g2n b z] at e
      unfold upT at e
      split at e
      · rename_i xs w; cases e; exact w
      · exact keep _ _ e
  · intro q xs e
    by_cases z : q = p
    · subst z
      rw [g2p, ← hp, e]
    · rw [g2n q z]
      exact upT_tup e
  · intro q hq hg
    have z : q ≠ p := by
      intro z
      subst z
      rcases np with ⟨xs, rfl⟩ | np
      · exact nt _ hq hg xs hp
      · exact hq np
    rw [g2n q z, upT_other (nt q hq hg)]
    exact hg
theorem dk_same {DkAt : Hp → Addr → Addr → Prop} {dk : Option (Addr × Addr)} {G H H' : Hp} (L : DkLaw DkAt) (hd : ∀ d c, dk = some (d, c) → DkAt H d c ∧ G d = none ∧ G c = none) (s : Same H H') : ∀ d c, dk = some (d, c) → DkAt H' d c := fun d c e => by
  obtain ⟨h1, _⟩ := hd d c e
  obtain ⟨t1, t2⟩ := L.there _ _ _ h1
  have f : ∀ q, H q ≠ none → H' q = H q := fun q hq => by
    cases z : H q with
    | none => exact absurd z hq
    | some o => exact s q o z
  exact L.keep _ _ _ _ h1 (f d t1) (f c t2)
/-- one that tells a single value -/
theorem conv_val {K : PySem.W.Frag} {DkAt : Hp → Addr → Addr → Prop} {dk : Option (Addr × Addr)} {G H H' : Hp} {R : D → Prop} {Q : VK} {d : D} {v : V} (L : DkLaw DkAt) (hd : ∀ d c, dk = some (d, c) → DkAt H d c ∧ G d = none ∧ G c = none) (sm : Same G H) (tu : ∀ p xs, H p = some (.tup xs) → G p = some (.tup xs))
    (k : ∀ d v G' H', R d → Same G G' → Same G' H' → (∀ p xs, H' p = some (.tup xs) → G' p = some (.tup xs)) → (∀ p, H p ≠ none → G p = none → G' p = none) → Kp dk H H' → (∀ d c, dk = some (d, c) → DkAt H' d c) → Rp K dk G' v d → Q v H')
    (s : Kp dk H H') (hd' : ∀ d c, dk = some (d, c) → DkAt H' d c) (hR : R d) (r : Rp K dk G v d) : Q v H' := by
  have keep : ∀ b u, G b = some u → H' b = some u := fun b u e => s b u (sm b u e) fun d c z => by
    obtain ⟨_, h2, h3⟩ := hd d c z
    have n1 : b ≠ d := fun q => by
      rw [q, h2] at e
      cases e
    have n2 : b ≠ c := fun q => by
      rw [q, h3] at e
      cases e
    exact ⟨n1, n2⟩
  have s1 : Same G (upT G H') := fun b u e => by
    unfold upT
    split
    · rename_i xs w
      rw [keep _ _ e] at w
      cases w
      rfl
    · exact e
  refine k d v (upT G H') H' hR s1 ?_ (fun p xs e => upT_tup e) ?_ s hd' (r.mono s1)
  · intro b u e
    unfold upT at e
    split at e
    · rename_i xs w; cases e; exact w
    · exact keep _ _ e
  · intro q hq hg
    rw [upT_other]
    · exact hg
    · intro xs e
      by_cases z : ∀ d c, dk = some (d, c) → q ≠ d ∧ q ≠ c
      · cases w : H q with
        | none => exact hq w
        | some u =>
          rw [s q u w z] at e
          cases e
          rw [tu _ _ w] at hg
          cases hg
      · apply z
        intro d c hdc
        obtain ⟨h1, h2⟩ := L.tup _ _ _ (hd' d c hdc)
        exact ⟨fun w => h1 xs (w ▸ e), fun w => h2 xs (w ▸ e)⟩
end
end DL
namespace DL
open PySem PySem.Spec PyProof.Rows L2
/-- how a promise by addresses comes out of one by data -/
structure Cv (K : PySem.W.Frag) (DkAt : Hp → Addr → Addr → Prop) (dk : Option (Addr × Addr)) (G H : Hp) (R : D → Prop) (Q : VK) : Prop where
  L : DkLaw DkAt
  hd : ∀ d c, dk = some (d, c) → DkAt H d c ∧ G d = none ∧ G c = none
  sm : Same G H
  tu : ∀ p xs, H p = some (.tup xs) → G p = some (.tup xs)
  k : ∀ d v G' H', R d → Same G G' → Same G' H' → (∀ p xs, H' p = some (.tup xs) → G' p = some (.tup xs)) → (∀ p, H p ≠ none → G p = none → G' p = none) → Kp dk H H' → (∀ d c, dk = some (d, c) → DkAt H' d c) → Rp K dk G' v d → Q v H'
section
variable {K : PySem.W.Frag} {DkAt : Hp → Addr → Addr → Prop} {dk : Option (Addr × Addr)} {G H H' : Hp} {R : D → Prop} {Q : VK} {d : D} {v : V} {n : Nat} {F : FD} {vs : List V} {E : XK}
theorem spD_cv (h : spD K DkAt n F vs H Q E) : ∃ dk G ds R, Cv K DkAt dk G H R Q ∧ RpAll K dk G vs ds ∧ ds.length = n ∧ F ds R := by
  obtain ⟨dk, G, ds, R, L, hd, sm, tu, r, hl, hF, k⟩ := h
  exact ⟨dk, G, ds, R, ⟨L, hd, sm, tu, k⟩, r, hl, hF⟩
theorem Cv.tup (c : Cv K DkAt dk G H R Q) {vs : List V} {ds : List D} (hR : R (.tup ds)) (r : ∀ G', Same G G' → RpAll K dk G' vs ds) : ∀ H' t, Same H H' → H' t = some (.tup vs) → Q (.ref t) H' := fun H' t s ht =>
  conv_at c.L c.hd c.sm c.tu c.k (Kp.of s) (dk_same c.L c.hd s) (.inl ⟨_, rfl⟩) ht hR fun G' sg h => .tup h (r G' sg)
theorem Cv.tupD (c : Cv K DkAt dk G H R Q) {vs : List V} {ds : List D} (hR : R (.tup ds)) (r : ∀ G', Same G G' → RpAll K dk G' vs ds) : ∀ H' t, Kp dk H H' → (∀ d c, dk = some (d, c) → DkAt H' d c) → H' t = some (.tup vs) → Q (.ref t) H' := fun H' t s hd ht =>
  conv_at c.L c.hd c.sm c.tu c.k s hd (.inl ⟨_, rfl⟩) ht hR fun G' sg h => .tup h (r G' sg)
theorem Cv.obj (c : Cv K DkAt dk G H R Q) {C : Addr} {fs : List (Str × V)} (hR : R (.obj C fs)) : ∀ H' x dx, Same H H' → H x = none → H' x = some (.ins C dx fs) → Q (.ref x) H' := fun H' x dx s nx hx =>
  conv_at c.L c.hd c.sm c.tu c.k (Kp.of s) (dk_same c.L c.hd s) (.inr nx) hx hR fun G' sg h => .obj h
theorem Cv.val (c : Cv K DkAt dk G H R Q) (hR : R d) (r : Rp K dk G v d) : ∀ H', Same H H' → Q v H' := fun H' s =>
  conv_val c.L c.hd c.sm c.tu c.k (Kp.of s) (dk_same c.L c.hd s) hR r
theorem Cv.valD (c : Cv K DkAt dk G H R Q) (hR : R d) (r : Rp K dk G v d) : ∀ H', Kp dk H H' → (∀ d c, dk = some (d, c) → DkAt H' d c) → Q v H' := fun H' s hd =>
  conv_val c.L c.hd c.sm c.tu c.k s hd hR r
theorem Cv.here (c : Cv K DkAt dk G H R Q) (hR : R d) (r : Rp K dk G v d) : Q v H := c.val hR r H (Same.refl _)
theorem rp_obj {C : Addr} {fs : List (Str × V)} (h : Rp K dk G v (.obj C fs)) : ∃ x dx, v = .ref x ∧ G x = some (.ins C dx fs) := by
  cases h with
  | obj h => exact ⟨_, _, rfl, h⟩
theorem rp_tupI {ns : List Int} (h : Rp K dk G v (.tup (ns.map D.int))) : ∃ p, v = .ref p ∧ G p = some (.tup (ns.map V.int)) := by
  cases h with
  | tup h r =>
    rw [rp_ints r] at h
    exact ⟨_, rfl, h⟩
theorem rp_dk (h : Rp K dk G v .dk) : ∃ d c, v = .ref d ∧ dk = some (d, c) := by
  cases h with
  | dk h => exact ⟨_, _, rfl, h⟩
theorem all1 {vs : List V} {d : D} (h : RpAll K dk G vs [d]) : ∃ v, vs = [v] ∧ Rp K dk G v d := by
  cases h with
  | cons r t => cases t; exact ⟨_, rfl, r⟩
theorem all2 {vs : List V} {d e : D} (h : RpAll K dk G vs [d, e]) : ∃ v u, vs = [v, u] ∧ Rp K dk G v d ∧ Rp K dk G u e := by
  cases h with
  | cons r t =>
    obtain ⟨u, rfl, r2⟩ := all1 t
    exact ⟨_, _, rfl, r, r2⟩
end
/-- a weaker promise of a def that asks what is shown -/
theorem _root_.PH.FnG.imp {P : Program} {w : World} {K : PySem.W.Frag} {mg : Str → Option Value} {base : Heap} {CX : CXT} {k : Nat} {f : Addr} {fd : FuncData} {ps : List Str} {sp sp' : Sp} (F : PH.FnG P w K mg base CX k f fd ps sp)
    (h : ∀ vs H Q E, sp' vs H Q E → sp vs H Q E) : PH.FnG P w K mg base CX k f fd ps sp' :=
  ⟨fun vs H Q E q => F.len vs H Q E (h _ _ _ _ q), fun A outer s H args us vs Q E hg hr he hb hv hs => F.run A outer s H args us vs Q E hg hr he hb hv (h _ _ _ _ hs)⟩
theorem Dst.extAt {B : Bs} {G H H' : Hp} {γ : Gm} {σ : L2.St} {x : Addr} {o : HO} (S : Dst B G γ σ H) (h : Same H H') (nx : H x = none) (hx : H' x = some o) (no : ∀ xs, o ≠ .tup xs) : ∃ G', Same G G' ∧ Dst B G' γ σ H' ∧ G' x = some o := by
  obtain ⟨G1, s1, S1⟩ := S.ext h
  cases q : G1 x with
  | some u =>
    have := S1.sub _ _ q
    rw [hx] at this
    cases this
    exact ⟨G1, s1, S1, q⟩
  | none =>
    have hn : ∀ (i : Nat) ds, γ[i]? ≠ some (.own x ds) := S.noown nx
    obtain ⟨S2, s2⟩ := S1.frz hx (S.free0 nx) q hn
    exact ⟨_, s1.trans s2, S2, upd_same⟩
/-! ### from some point of a def on -/
def tDSx (K : PySem.W.Frag) (DkAt : Hp → Addr → Addr → Prop) (s : DS) : TS := fun De σ H => ∃ dk H0 G0, tDS ⟨K, dk, DkAt, H0, G0⟩ s De σ H
theorem ss_x {X : Cx} {K : PySem.W.Frag} {DkAt : Hp → Addr → Addr → Prop} {st : List Stmt} {s : DS} (h : ∀ dk H0 G0, PSs X st (tDS ⟨K, dk, DkAt, H0, G0⟩ s)) : PSs X st (tDSx K DkAt s) :=
  ⟨fun pins s σ H De I ⟨dk, H0, G0, q⟩ => (h dk H0 G0).run pins s σ H De I q⟩
/-- all that is tracked but the deck's two objects -/
def noDk (H : Hp) (d c : Addr) : Hp := fun b => if b = d ∨ b = c then none else H b
theorem deck_in {K : PySem.W.Frag} {DkAt : Hp → Addr → Addr → Prop} {H : Hp} {d c : Addr} {γ : Gm} {σ : L2.St} (L : DkLaw DkAt) (hk : DkAt H d c) (hl : σ.length = γ.length)
    (hs : ∀ (i : Nat) s, γ[i]? = some s → s = .un ∨ (s = .fz .dk ∧ σ[i]? = some (some (.ref d)))) : Dst ⟨K, some (d, c), DkAt, H, noDk H d c⟩ (noDk H d c) γ σ H where
  law := L
  sub := fun b o e => by
    unfold noDk at e
    split at e
    · cases e
    · exact e
  sub0 := Same.refl _
  kept := Kp.refl
  fresh := fun _ _ h => h
  tups := fun p xs e => by
    unfold noDk
    obtain ⟨h1, h2⟩ := L.tup _ _ _ hk
    rw [if_neg]
    · exact e
    · rintro (z | z)
      · exact h1 xs (z ▸ e)
      · exact h2 xs (z ▸ e)
  dkok := fun d' c' e => by
    cases e
    obtain ⟨t1, t2⟩ := L.there _ _ _ hk
    exact ⟨hk, t1, t2, if_pos (.inl rfl), if_pos (.inr rfl)⟩
  len := hl
  slot := fun i s e => by
    have l : i < σ.length := by rw [hl]; exact (List.getElem?_eq_some_iff.mp e).1
    rcases hs i s e with rfl | ⟨rfl, h⟩
    · exact ⟨σ[i], List.getElem?_eq_getElem l, trivial⟩
    · exact ⟨_, h, _, rfl, .dk rfl⟩
  nd := fun i j p ds es e _ => by
    rcases hs i _ e with z | ⟨z, _⟩ <;> cases z
end DL
namespace DL
open PySem PySem.Spec PyProof.Rows L2
/-! ### == of two instances by the class's own, whatever it tells -/
def spEqB (R : Addr → Addr → Bool → Hp → Prop) : Sp := fun vs H Q _ => ∃ a b k, vs = [.ref a, .ref b] ∧ R a b k H ∧ ∀ H', Ext H H' → Q (.bl k) H'
section
variable {X : Cx} {n : Nat}
theorem op_eqInsB {CX : CXT} {C f : Addr} {fd : FuncData} {ps : List Str} {R : Addr → Addr → Bool → Hp → Prop} {E : XK} (F : FnOk X.prog X.w X.K X.mg X.base CX n f fd ps (spEqB R))
    (hs : PySem.W.findIn X.K (.ref C) "__eq__" = some (some (.ref f))) (hf : PySem.W.isFn X.K (.ref f) = true) (hb : Binds X.K fd ps []) (hx : Passes CX X E) (hr : Room n X.A) :
    OpR X (compareOp .Eq) (fun x y H Q => ∃ a b dx dy fs gs k, x = .ref a ∧ y = .ref b ∧ H a = some (.ins C dx fs) ∧ H b = some (.ins C dy gs) ∧ R a b k H ∧ ∀ H', Ext H H' → Q (.bl k) H') := by
  intro pins s σ H x y v u Q I rx ry hq
  obtain ⟨a, b, dx, dy, fs, gs, k, rfl, rfl, ha, hb', hr', q⟩ := hq
  cases rx
  cases ry
  have sb : Sub X n X.A := ⟨hr, rfl⟩
  obtain ⟨mA, J, _⟩ := ins_get I.hok ha
  obtain ⟨mB, J', _⟩ := ins_get I.hok hb'
  obtain ⟨od, J, _⟩ := J.look
  obtain ⟨od', J', _⟩ := J'.look
  obtain ⟨m, hF⟩ := I.fr
  show wpAny (model X.prog X.w) X.A (richCompare .Eq (.ref a) (.ref b)) (EP X pins σ Q) X.xe s
  refine PySem.W.cmp_K (op := .Eq) (tb := .ref C) sb.room.units0 hF I.ok.mod.kin J J'.type (by simp [PySem.W.notFirst]) hs hf ?_
  have hsp : spEqB R [.ref a, .ref b] H (fun v H' => v = .bl k ∧ Ext H H') E := ⟨a, b, k, rfl, hr', fun H' e => ⟨rfl, e⟩⟩
  have hl := F.len _ _ _ _ hsp
  have r2 : Vals [V.ref a, V.ref b] [Value.ref a, Value.ref b] := .cons rfl (.cons rfl .nil)
  refine wpAny_call (codeAny_mono (F.run X.A X.stack s H ⟨[.ref a, .ref b], []⟩ [.ref a, .ref b] [.ref a, .ref b] _ E hr I.env0 (by
    have := hb s [.ref a, .ref b] I.kIn (by simpa using hl)
    simpa using this) r2 hsp) fun r s' hq => ?_)
  cases r with
  | error e => exact hx pins σ H s e s' I hq
  | ok fl =>
    cases fl with
    | ret w =>
      obtain ⟨z, H', I', rz, ez, ex⟩ := I.after hq
      subst ez
      cases rz
      exact ⟨.bl k, H', I', rfl, q H' ex⟩
    | next => exact False.elim hq
    | brk => exact False.elim hq
    | cont => exact False.elim hq
end
section
variable {X : Cx} {B : Bs} {G G' G1 : Hp} {γ γ' : Gm} {σ σ' : L2.St} {H H' : Hp} {e a b : Expr} {ta tb t : DT} {pos : Pos} {st : Stmt} {p : Addr}
/-- k: what the class's own == tells of these fields -/
abbrev fEqB (C : Addr) (k : List (Str × V) → List (Str × V) → Option Bool) : F2 := fun d e R => ∃ fs gs b, d = .obj C fs ∧ e = .obj C gs ∧ k fs gs = some b ∧ R (.bl b)
theorem ok_eqB {C : Addr} {k : List (Str × V) → List (Str × V) → Option Bool} {Rl : Addr → Addr → Bool → Hp → Prop} (hR : ∀ a b dx dy fs gs v H, H a = some (.ins C dx fs) → H b = some (.ins C dy gs) → k fs gs = some v → Rl a b v H) :
    OkR2 B (fun x y H Q => ∃ a b dx dy fs gs k, x = .ref a ∧ y = .ref b ∧ H a = some (.ins C dx fs) ∧ H b = some (.ins C dy gs) ∧ Rl a b k H ∧ ∀ H', Ext H H' → Q (.bl k) H') (fEqB C k) := by
  rintro G γ σ H x y d e R Q S rx ry ⟨fs, gs, v, rfl, rfl, hk, h⟩ q
  cases rx with
  | @obj a dx _ _ ha =>
    cases ry with
    | @obj b dy _ _ hb =>
      refine ⟨a, b, dx, dy, fs, gs, v, rfl, rfl, S.sub _ _ ha, S.sub _ _ hb, hR _ _ _ _ _ _ _ _ (S.sub _ _ ha) (S.sub _ _ hb) hk, fun H' ex => ?_⟩
      obtain ⟨G2, s2, S2⟩ := S.ext ex
      exact q _ _ _ _ h s2 S2 (.bl _)
/-! ### list.count of single values -/
def rCntF (K : PySem.W.Frag) : V → List V → Hp → VK → Prop := fun x xs H Q => ∃ (p : Addr) (ys : List V) (y : V), x = .ref p ∧ xs = [y] ∧ SqL K H p ys ∧ flatV y = true ∧ ys.all flatV = true ∧ Q (.int (ys.countP fun z => eqV z y : Nat)) H
theorem count_eqU {x : V} : ∀ {xs : List V} {us : List Value}, Vals xs us → xs.all flatV = true → us.countP (eqU x) = xs.countP fun y => eqV y x
  | _, _, .nil, _ => rfl
  | y :: xs, u :: us, .cons r t, f => by
    rw [List.all_cons, Bool.and_eq_true] at f
    rw [List.countP_cons, List.countP_cons, eqU_of r f.1, count_eqU t f.2]
theorem mt_lcountF : MtR X "list.count" (rCntF X.K) := by
  intro pins s σ H x xs v us Q I rx rxs h
  obtain ⟨p, ys, y, rfl, rfl, hs, fy, fs, q⟩ := h
  cases rx
  obtain ⟨u, rfl, ru⟩ := rxs.one
  obtain ⟨its, rv, ⟨⟨cls, dd, data, sl⟩, n, ho, hc, hdn, hd⟩, hlen⟩ := I.list hs
  simp only at hc hd
  subst hc hd
  refine call_meets PySem.F.slot_list_count ⟨_, ho, rfl⟩ PySem.F.entry_list_count (PySem.F.args_list_count_2 _ _)
    (SeqAt.list_countAt p its.toArray n dd sl u (eqU y)) ⟨ho, fun z hz => mem_eqAt ru fy rv fs z (by simpa using hz), ?_⟩
  have ec : its.toArray.toList.countP (eqU y) = ys.countP fun z => eqV z y := count_eqU rv fs
  refine ⟨.int (ys.countP fun z => eqV z y : Nat), H, I.tok _, ⟨s.toks, ?_⟩, q⟩
  show Value.int ((its.toArray.toList.countP (eqU y) : Nat) : Int) s.toks = _
  rw [ec]
def dCount (to ta : DT) : DT := fun γ R => to γ fun d γ1 => ∃ es, d = .lst es ∧ ta γ1 fun c γ2 => flatD c = true ∧ es.all flatD = true ∧ R (.int (es.countP fun z => eqF z c : Nat)) γ2
theorem count_of {K : PySem.W.Frag} {dk : Option (Addr × Addr)} {v : V} {d : D} (r : Rp K dk G v d) (h : flatD d = true) : ∀ {vs : List V} {ds : List D}, RpAll K dk G vs ds → ds.all flatD = true → (vs.countP fun z => eqV z v) = ds.countP fun z => eqF z d
  | _, _, .nil, _ => rfl
  | _, _, .cons r' t, h' => by
    rw [List.all_cons, Bool.and_eq_true] at h'
    rw [List.countP_cons, List.countP_cons, eqF_of r' r h'.1 h, count_of r h t h'.2]
theorem d_count (hK : X.K = B.K) (h : PE X e (tBM X.K "list" (rCntF X.K) (tD B t) (tCons (tD B ta) tNil))) : PE X e (tD B (dCount t ta)) := pe_imp h fun σ H Q ⟨G, γ, R, S, h, k⟩ =>
  ⟨G, γ, _, S, h, fun d γ1 G1 v H1 h1 sm S1 r1 => by
    obtain ⟨es, rfl, h1⟩ := h1
    cases r1 with
    | @lst pa vs _ hs ra =>
      refine ⟨.inl ⟨rfl, _, SqL.of (S1.sub _ _ hs)⟩, G1, γ1, _, S1, h1, fun c γ2 G2 u H2 ⟨fc, fe, q⟩ sm2 S2 r2 => ?_⟩
      have ra2 := ra.mono sm2
      refine ⟨pa, vs, u, rfl, rfl, SqL.of (S2.sub _ _ (sm2 _ _ hs)), flat_of r2 fc, flats_of ra2 fe, ?_⟩
      rw [count_of r2 fc ra2 fe]
      exact k _ _ _ _ _ q (sm.trans sm2) S2 (.int _)⟩
/-! ### [..] * n -/
def fRep (ta tb : DT) : DA := fun γ R => ta γ fun x γ1 => tb γ1 fun y γ2 => ∃ ds k, x = .lst ds ∧ y = .int k ∧ 0 ≤ k ∧ k < 2 ^ 62 ∧ ds.length * k.toNat ≤ 1000000 ∧ R (List.replicate k.toNat ds).flatten γ2
theorem rp_rep {K : PySem.W.Frag} {dk : Option (Addr × Addr)} {vs : List V} {ds : List D} (r : RpAll K dk G vs ds) : ∀ n : Nat, RpAll K dk G (List.replicate n vs).flatten (List.replicate n ds).flatten
  | 0 => .nil
  | n + 1 => by
    rw [List.replicate_succ, List.replicate_succ, List.flatten_cons, List.flatten_cons]
    exact r.app (rp_rep r n)
theorem f_rep (ha : PE X a (tD B ta)) (hb : PE X b (tD B tb)) : PE X (.BinOp a .Mult b pos) (tDF B (fRep ta tb)) := pe_imp (pe_op op_rep ha hb) fun σ H Q ⟨G, γ, R, S, h, k⟩ =>
  ⟨G, γ, _, S, h, fun x γ1 G1 v H1 h1 s1 S1 r1 => ⟨G1, γ1, _, S1, h1, fun y γ2 G2 u H2 ⟨ds, n, e1, e2, n0, n1, hl, h2⟩ s2 S2 r2 => by
    subst e1 e2
    cases rpInt r2
    cases r1 with
    | lst hs ra =>
      refine ⟨_, _, _, rfl, rfl, S2.sub _ _ (s2 _ _ hs), by omega, by omega, by rw [ra.len]; exact sz_ok hl, fun p hp => ?_⟩
      exact k _ _ _ _ _ _ h2 (s1.trans s2) (S2.laid hp) upd_same (rp_rep (ra.mono s2) _) (S2.free0 hp) (S2.sub.free hp) (S2.noown hp)⟩⟩
theorem d_meth0 {C : Addr} {m : Str} {n : Nat} {F : FD} {E : XK} {t : DT} (h : PE X e (tMeth C m (spD B.K B.DkAt n F) [] E (tD B t) tNil)) : PE X e (tD B (dMeth C m n F t aNil)) := pe_imp h fun σ H Q ⟨G, γ, R, S, h, k⟩ =>
  ⟨G, γ, _, S, h, fun d γ1 G1 v H1 ⟨fs, e, hm, h2⟩ sm S1 r => by
    subst e
    obtain ⟨hl, hF⟩ := h2
    cases r with
    | obj hv =>
      refine ⟨_, _, fs, rfl, S1.sub _ _ hv, hm, ?_⟩
      show spD B.K B.DkAt n F (_ :: ([] ++ [])) H1 Q E
      exact sp_run S1 (.cons (.obj hv) .nil) hl hF fun d G' v H' hR s' S' r' => k _ _ _ _ _ hR (sm.trans s') S' r'⟩
theorem d_call0 {n : Nat} {F : FD} {E : XK} (h : PE X e (tCall (spD B.K B.DkAt n F) [] E tNil)) : PE X e (tD B (dCall n F aNil)) := pe_imp h fun σ H Q ⟨G, γ, R, S, h, k⟩ => by
  obtain ⟨hl, hF⟩ := h
  show spD B.K B.DkAt n F ([] ++ []) H Q E
  exact sp_run S .nil hl hF fun d G' v H' hR s' S' r' => k _ _ _ _ _ hR s' S' r'
end
end DL
namespace PH
open PySem PySem.Spec PyProof.Rows L2 DL
/-! ### k03's promises by data -/
theorem deckLaw : DkLaw Deck := by
  constructor
  · rintro H d c ⟨ms, n1, n2, h1, h2, _⟩
    constructor
    · rw [h1]; intro z; cases z
    · rw [h2]; intro z; cases z
  · rintro H d c ⟨ms, n1, n2, h1, h2, _⟩
    constructor
    · intro xs e; rw [h1] at e; cases e
    · intro xs e; rw [h2] at e; cases e
  · rintro H H' d c ⟨ms, n1, n2, h1, h2, r⟩ e1 e2
    exact ⟨ms, n1, n2, by rw [e1]; exact h1, by rw [e2]; exact h2, r⟩
theorem kept_kp {d c : Addr} {H H' : Hp} (k : Kept d c H H') : Kp (some (d, c)) H H' := fun b o e z => k b o e (z d c rfl).1 (z d c rfl).2
def numD (C : Addr) (f : Five) : D := .obj C (flds f)
def five5 (f : Five) : List Int := [f.1, f.2.1, f.2.2.1, f.2.2.2.1, f.2.2.2.2]
def fiveT (f : Five) : D := .tup ((five5 f).map D.int)
section
variable {K : PySem.W.Frag} {DkAt : Hp → Addr → Addr → Prop} {dk : Option (Addr × Addr)} {G H H' : Hp} {R : D → Prop} {Q : VK} {v : V} {C NX NB : Addr} {f : Five} {E : XK} {vs : List V}
theorem Cv.num (c : Cv K DkAt dk G H R Q) (hR : R (numD C f)) : NewNum C H Q f := fun H' x s nx ⟨dx, hx⟩ => c.obj hR H' x dx s nx hx
theorem Cv.five (c : Cv K DkAt dk G H R Q) (hR : R (fiveT f)) : ∀ H' t, Same H H' → H' t = some (.tup (fiveV f)) → Q (.ref t) H' := c.tup hR fun _ _ => ints_rp (five5 f)
theorem Cv.fiveD (c : Cv K DkAt dk G H R Q) (hR : R (fiveT f)) : ∀ H' t, Kp dk H H' → (∀ d c, dk = some (d, c) → DkAt H' d c) → H' t = some (.tup (fiveV f)) → Q (.ref t) H' := c.tupD hR fun _ _ => ints_rp (five5 f)
theorem Cv.rnum (c : Cv K DkAt dk G H R Q) (h : Rp K dk G v (numD C f)) : ∃ x, v = .ref x ∧ NumAt C H x f := by
  obtain ⟨x, dx, rfl, hx⟩ := rp_obj h
  exact ⟨x, rfl, dx, c.sm _ _ hx⟩
theorem Cv.rfive (c : Cv K DkAt dk G H R Q) (h : Rp K dk G v (fiveT f)) : ∃ p, v = .ref p ∧ H p = some (.tup (fiveV f)) := by
  obtain ⟨p, rfl, hp⟩ := rp_tupI h
  exact ⟨p, rfl, c.sm _ _ hp⟩
def FPlus (C : Addr) : FD := fun ds R => ∃ f f', ds = [numD C f, numD C f'] ∧ Canon f ∧ Canon f' ∧ Bd 2000 900 f ∧ Bd 2000 900 f' ∧ go f f' = true ∧ R (numD C (form (fsum f f')))
def FMinus (C : Addr) : FD := fun ds R => ∃ f f', ds = [numD C f, numD C f'] ∧ Canon f ∧ Canon f' ∧ Bd 2000 900 f ∧ Bd 2000 900 f' ∧ go f f' = true ∧ R (numD C (form (fsum f (neg f'))))
def FTimes (C : Addr) : FD := fun ds R => ∃ (f f' : Five) (T T' a a' M : Nat), ds = [numD C f, numD C f'] ∧ Canon f ∧ Canon f' ∧ Fit T T' a a' M f f' ∧ go f f' = true ∧ R (numD C (form (fprod f f')))
def FAdded : FD := fun ds R => ∃ f f', ds = [fiveT f, fiveT f'] ∧ Canon f ∧ Canon f' ∧ Bd 2000 900 f ∧ Bd 2000 900 f' ∧ go f f' = true ∧ R (fiveT (form (lsum f f')))
def FMade (C : Addr) : FD := fun ds R => ∃ f, ds = [fiveT f] ∧ Right f ∧ Wide f ∧ R (numD C (form f))
def FIs (C : Addr) : FD := fun ds R => ∃ f, ds = [numD C f, fiveT f] ∧ Tiny f ∧ R (.bl true)
def FForm : FD := fun ds R => ∃ f, ds = (five5 f).map D.int ∧ Right f ∧ Wide f ∧ R (fiveT (form f))
def FLow : FD := fun ds R => ∃ a b : Int, ds = [.int a, .int b] ∧ 0 < b ∧ Wd 8999 b ∧ R (.tup [.int (low a b).1, .int (low a b).2])
def FDrw : FD := fun ds R => ∃ n : Int, ds = [.dk, .int n] ∧ 0 < n ∧ n < 2 ^ 29 ∧ ∀ r, 0 ≤ r → r < n → R (.int r)
def FFive : FD := fun ds R => ds = [.dk] ∧ ∀ f, Right f → Small f → R (fiveT f)
def FLike : FD := fun ds R => ∃ f, ds = [.dk, fiveT f] ∧ Right f ∧ Small f ∧ ∀ g, Like (form f) g → R (fiveT g)
theorem cv_plus : ∀ vs H Q E, spD K DkAt 2 (FPlus C) vs H Q E → spPlus C vs H Q E := fun vs H Q E h => by
  obtain ⟨dk, G, ds, R, c, r, _, f, f', rfl, C1, C2, B1, B2, g, hR⟩ := spD_cv h
  obtain ⟨v, u, rfl, r1, r2⟩ := all2 r
  obtain ⟨x, rfl, hx⟩ := Cv.rnum c r1
  obtain ⟨y, rfl, hy⟩ := Cv.rnum c r2
  exact ⟨x, y, f, f', rfl, hx, hy, C1, C2, B1, B2, g, Cv.num c hR⟩
theorem cv_minus : ∀ vs H Q E, spD K DkAt 2 (FMinus C) vs H Q E → spMinus C vs H Q E := fun vs H Q E h => by
  obtain ⟨dk, G, ds, R, c, r, _, f, f', rfl, C1, C2, B1, B2, g, hR⟩ := spD_cv h
  obtain ⟨v, u, rfl, r1, r2⟩ := all2 r
  obtain ⟨x, rfl, hx⟩ := Cv.rnum c r1
  obtain ⟨y, rfl, hy⟩ := Cv.rnum c r2
  exact ⟨x, y, f, f', rfl, hx, hy, C1, C2, B1, B2, g, Cv.num c hR⟩
theorem cv_times : ∀ vs H Q E, spD K DkAt 2 (FTimes C) vs H Q E → spTimes C vs H Q E := fun vs H Q E h => by
  obtain ⟨dk, G, ds, R, c, r, _, f, f', T, T', a, a', M, rfl, C1, C2, F, g, hR⟩ := spD_cv h
  obtain ⟨v, u, rfl, r1, r2⟩ := all2 r
  obtain ⟨x, rfl, hx⟩ := Cv.rnum c r1
  obtain ⟨y, rfl, hy⟩ := Cv.rnum c r2
  exact ⟨x, y, f, f', T, T', a, a', M, rfl, hx, hy, C1, C2, F, g, Cv.num c hR⟩
theorem cv_added : ∀ vs H Q E, spD K DkAt 2 FAdded vs H Q E → spAdded vs H Q E := fun vs H Q E h => by
  obtain ⟨dk, G, ds, R, c, r, _, f, f', rfl, C1, C2, B1, B2, g, hR⟩ := spD_cv h
  obtain ⟨v, u, rfl, r1, r2⟩ := all2 r
  obtain ⟨x, rfl, hx⟩ := Cv.rfive c r1
  obtain ⟨y, rfl, hy⟩ := Cv.rfive c r2
  exact ⟨x, y, f, f', rfl, hx, hy, C1, C2, B1, B2, g, Cv.five c hR⟩
theorem fiveV_in {f g : Five} (h : fiveV f = fiveV g) : f = g := by
  obtain ⟨u, l, s, a, b⟩ := f
  obtain ⟨u', l', s', a', b'⟩ := g
  unfold fiveV at h
  simpa using h
theorem cv_made : ∀ vs H Q E, spD K DkAt 1 (FMade C) vs H Q E → spMade C NX vs H Q E := fun vs H Q E h => by
  obtain ⟨dk, G, ds, R, c, r, _, f, rfl, Rf, Wf, hR⟩ := spD_cv h
  obtain ⟨v, rfl, r1⟩ := all1 r
  obtain ⟨x, rfl, hx⟩ := Cv.rfive c r1
  refine ⟨x, fiveV f, rfl, hx, rfl, fun v hv => ?_, fun e => ?_, fun g e R' => ?_⟩
  · unfold fiveV at hv
    simp only [List.mem_cons, List.not_mem_nil, or_false] at hv
    rcases hv with rfl | rfl | rfl | rfl | rfl <;> exact .inl ⟨_, rfl⟩
  · rw [B_of_right Rf] at e
    cases e
  · cases fiveV_in e
    exact ⟨Wf, Cv.num c hR⟩
theorem cv_is : ∀ vs H Q E, spD K DkAt 2 (FIs C) vs H Q E → spIs C vs H Q E := fun vs H Q E h => by
  obtain ⟨dk, G, ds, R, c, r, _, f, rfl, Tf, hR⟩ := spD_cv h
  obtain ⟨v, u, rfl, r1, r2⟩ := all2 r
  obtain ⟨x, rfl, dx, hx⟩ := Cv.rnum c r1
  obtain ⟨y, rfl, hy⟩ := Cv.rfive c r2
  exact ⟨x, dx, y, f, rfl, hx, hy, Tf, c.val hR (.bl _)⟩
theorem cv_form : ∀ vs H Q E, spD K DkAt 5 FForm vs H Q E → spForm vs H Q E := fun vs H Q E h => by
  obtain ⟨dk, G, ds, R, c, r, _, f, rfl, Rf, Wf, hR⟩ := spD_cv h
  exact ⟨f, rp_ints r, Rf, Wf, Cv.five c hR⟩
theorem cv_low : ∀ vs H Q E, spD K DkAt 2 FLow vs H Q E → spLowest vs H Q E := fun vs H Q E h => by
  obtain ⟨dk, G, ds, R, c, r, _, a, b, rfl, hb, wb, hR⟩ := spD_cv h
  obtain ⟨v, u, rfl, r1, r2⟩ := all2 r
  cases rpInt r1
  cases rpInt r2
  exact ⟨a, b, rfl, hb, wb, fun H' p s _ hp => c.tup hR (fun _ _ => .cons (.int _) (.cons (.int _) .nil)) H' p s hp⟩
theorem cv_draw : ∀ vs H Q E, spD K Deck 2 FDrw vs H Q E → spDraw vs H Q E := fun vs H Q E h => by
  obtain ⟨dk, G, ds, R, c, r, _, n, rfl, n0, n1, hR⟩ := spD_cv h
  obtain ⟨v, u, rfl, r1, r2⟩ := all2 r
  cases rpInt r2
  obtain ⟨d, cc, rfl, rfl⟩ := rp_dk r1
  exact ⟨d, cc, n, rfl, (c.hd _ _ rfl).1, n0, n1, fun H' r D k r0 r1 => c.valD (hR r r0 r1) (.int r) H' (kept_kp k) fun _ _ e => by cases e; exact D⟩
theorem cv_five : ∀ vs H Q E, spD K Deck 1 FFive vs H Q E → spFive vs H Q E := fun vs H Q E h => by
  obtain ⟨dk, G, ds, R, c, r, _, rfl, hR⟩ := spD_cv h
  obtain ⟨v, rfl, r1⟩ := all1 r
  obtain ⟨d, cc, rfl, rfl⟩ := rp_dk r1
  exact ⟨d, cc, rfl, (c.hd _ _ rfl).1, fun H' p f D k hp Rf Sf => Cv.fiveD c (hR f Rf Sf) H' p (kept_kp k) (fun _ _ e => by cases e; exact D) hp⟩
theorem cv_like : ∀ vs H Q E, spD K Deck 2 FLike vs H Q E → spLike vs H Q E := fun vs H Q E h => by
  obtain ⟨dk, G, ds, R, c, r, _, f, rfl, Rf, Sf, hR⟩ := spD_cv h
  obtain ⟨v, u, rfl, r1, r2⟩ := all2 r
  obtain ⟨d, cc, rfl, rfl⟩ := rp_dk r1
  obtain ⟨p, rfl, hp⟩ := Cv.rfive c r2
  exact ⟨d, cc, p, f, rfl, (c.hd _ _ rfl).1, hp, Rf, Sf, fun H' t g D k ht Lg => Cv.fiveD c (hR g Lg) H' t (kept_kp k) (fun _ _ e => by cases e; exact D) ht⟩
def FSgn (C : Addr) : FD := fun ds R => ∃ f, ds = [numD C f] ∧ Wds 2500 f ∧ R (.int (sgnF f))
theorem cv_sgn : ∀ vs H Q E, spD K DkAt 1 (FSgn C) vs H Q E → spSgn C vs H Q E := fun vs H Q E h => by
  obtain ⟨dk, G, ds, R, c, r, _, f, rfl, Wf, hR⟩ := spD_cv h
  obtain ⟨v, rfl, r1⟩ := all1 r
  obtain ⟨x, rfl, hx⟩ := Cv.rnum c r1
  exact ⟨x, f, rfl, hx, Wf, c.val hR (.int _) H fun _ _ e => e⟩
def FRootW : FD := fun ds R => ∃ n : Int, ds = [.int n] ∧ 0 ≤ n ∧ Wd 7000 n ∧ R (.int (rt n))
theorem cv_sqrt : ∀ vs H Q E, spD K DkAt 1 FRootW vs H Q E → spSqrt vs H Q E := fun vs H Q E h => by
  obtain ⟨dk, G, ds, R, c, r, _, n, rfl, n0, wn, hR⟩ := spD_cv h
  obtain ⟨v, rfl, r1⟩ := all1 r
  cases rpInt r1
  exact ⟨n, rfl, n0, wn, c.val hR (.int _)⟩
end
end PH
namespace PH
open PySem PySem.Spec PyProof.Rows L2 DL
/-! ### making an Exact, by data -/
section
variable {X : Cx} {B : Bs} {e : Expr} {C NX : Addr} {ta tk : DA}
def dNew (C : Addr) (dvs : List Int) (ta : DA) : DT := fun γ R => ta γ fun ds γ1 => ∃ (ns : List Int) (f : Five), ds = ns.map D.int ∧ ns ++ dvs = five5 f ∧ Right f ∧ Wide f ∧ R (numD C (form f)) γ1
theorem new_core {G H : Hp} {γ : Gm} {σ : L2.St} {R : D → Gm → Prop} {Q : VK} {f : Five} {E : XK} (S : Dst B G γ σ H) (Rf : Right f) (Wf : Wide f) (hR : R (numD C (form f)) γ)
    (k : ∀ d γ' G' v H', R d γ' → Same G G' → Dst B G' γ' σ H' → Rp B.K B.dk G' v d → Q v H') : ∀ x dx, H x = none → H dx = none → dx ≠ x →
    spInit C NX (.ref x :: fiveV f) (upd (upd H dx (.own x)) x (.ins C dx [])) (fun v H2 => v = .non ∧ Q (.ref x) H2) E := fun x dx nx ndx _ => by
  refine init_right2 (f := f) (q := fun H2 => Q (.ref x) H2) nx ndx Rf Wf fun H1 s1 hz => ?_
  obtain ⟨dz, hz⟩ := hz
  obtain ⟨G2, s2, S2, hg⟩ := S.extAt s1 nx hz (fun xs z => by cases z)
  exact k _ _ _ _ _ hR s2 S2 (.obj hg)
theorem d_new {dvs : List Int} {E : XK} (h : PE X e (tMake C (spInit C NX) (dvs.map V.int) E (tDA B ta))) : PE X e (tD B (dNew C dvs ta)) := pe_imp h fun σ H Q ⟨G, γ, R, S, h, k⟩ =>
  ⟨G, γ, _, S, h, fun ds γ1 G1 vs H1 ⟨ns, f, e1, e2, Rf, Wf, hR⟩ sm S1 r => by
    subst e1
    have e3 := rp_ints r
    subst e3
    show ∀ x dx, H1 x = none → H1 dx = none → dx ≠ x → spInit C NX (.ref x :: (ns.map V.int ++ dvs.map V.int)) _ _ E
    rw [← List.map_append, e2]
    exact new_core S1 Rf Wf hR fun d γ' G' v H' q s => k d γ' G' v H' q (sm.trans s)⟩
/-- with keywords: g puts positional and keywords' values in order -/
def dNewK (C : Addr) (g : List Int → List Int → List Int) (ta tk : DA) : DT := fun γ R => ta γ fun ds γ1 => tk γ1 fun es γ2 => ∃ (ns ms : List Int) (f : Five), ds = ns.map D.int ∧ es = ms.map D.int ∧ g ns ms = five5 f ∧ Right f ∧ Wide f ∧ R (numD C (form f)) γ2
theorem kb_so {K : PySem.W.Frag} {f : Addr} {fd : FuncData} (F : InitD K f fd) : ∃ its mv : List Value, KBn K fd psI 2 ["sign", "over"] (fun us ws => us ++ (its ++ (ws ++ mv))) (fun vs zs => vs ++ ([.int 1] ++ (zs ++ [.int 1]))) :=
  F.kbinds 2 ["sign", "over"] [("under", .int 1)] (fun us its mv ws => us ++ (its ++ (ws ++ mv))) (by simp) (by simp) (by simp) (fun r1 r2 r3 r4 => r1.append (r2.append (r4.append r3)))
    fun T D doc pm an cdv ct us its mv ws h1 h2 h3 h4 => match us, its, mv, ws, h1, h2, h3, h4 with
      | [_, _], [_], [_], [_, _], _, _, _, _ => ⟨_, rfl, ⟨_, _, _, _, _, _, rfl, rfl, rfl⟩⟩
end
def nil5 : Five := (0, 1, 0, 0, 1)
theorem canon_nil5 : Canon nil5 := ⟨by decide, by decide, .inl ⟨rfl, rfl, rfl⟩⟩
theorem small_bd {f : Five} (R : Right f) (h : Small f) : Bd 20 14 f := by
  have h1 := h.u
  have h2 := h.l
  have h3 := h.a
  have h4 := h.b
  have r1 := R.l
  have r2 := R.a
  have r3 := R.b
  exact ⟨by unfold Wd; omega, by unfold Wd; omega, by unfold Wd; omega, by unfold Wd; omega⟩
theorem like_bd {f g : Five} (h : Like f g) : Bd 20 14 g := by
  have h1 := h.u
  have h2 := h.l
  have h3 := h.x
  have h4 := h.y
  have r1 := h.R.l
  have r2 := h.R.a
  have r3 := h.R.b
  exact ⟨by unfold Wd; omega, by unfold Wd; omega, by unfold Wd; omega, by unfold Wd; omega⟩
def one5 : Five := (1, 1, 0, 0, 1)
theorem canon_one5 : Canon one5 := ⟨by decide, by decide, .inl ⟨rfl, rfl, rfl⟩⟩
theorem bd_nil5 : Bd 36 14 nil5 := ⟨by unfold Wd; decide, by unfold Wd; decide, by unfold Wd; decide, by unfold Wd; decide⟩
theorem bd_one5 : Bd 36 14 one5 := ⟨by unfold Wd; decide, by unfold Wd; decide, by unfold Wd; decide, by unfold Wd; decide⟩
theorem ixD_at {L : List D} {z : Int} {j : Nat} {d : D} (e : z = (j : Int)) (h : L[j]? = some d) : ixD (.lst L) (.int z) = some d := by
  subst e
  exact atI_nat h
theorem Bd.tiny {T a : Nat} {f : Five} (C : Canon f) (h : Bd T a f) (h1 : T ≤ 1900) (h2 : a + a ≤ 1900) : Tiny f :=
  ⟨h.u.mono h1, h.l.mono h1, (Wd.one (canon_right C).m).mono (by decide), h.x.mono h2, h.y.mono h2⟩
section
variable {X : Cx} {B : Bs} {e : Expr} {C NX : Addr} {ta tk : DA}
def dNewSO (C : Addr) (ta tk : DA) : DT := fun γ R => ta γ fun ds γ1 => tk γ1 fun es γ2 => ∃ u s a : Int, ds = [.int u] ∧ es = [.int s, .int a] ∧ Right (u, 1, s, a, 1) ∧ Wide (u, 1, s, a, 1) ∧ R (numD C (form (u, 1, s, a, 1))) γ2
theorem d_newSO {E : XK} (h : PE X e (tMakeK C 1 2 (spInit C NX) (fun vs zs => vs ++ ([.int 1] ++ (zs ++ [.int 1]))) E (tDA B ta) (tDA B tk))) : PE X e (tD B (dNewSO C ta tk)) := pe_imp h fun σ H Q ⟨G, γ, R, S, h, k⟩ =>
  ⟨G, γ, _, S, h, fun ds γ1 G1 vs H1 h1 sm S1 r => ⟨G1, γ1, _, S1, h1, fun es γ2 G2 us H2 ⟨u, s, a, e1, e2, Rf, Wf, hR⟩ sm2 S2 r2 => by
    subst e1 e2
    obtain ⟨v, rfl, r1⟩ := all1 r
    obtain ⟨v1, v2, rfl, q1, q2⟩ := all2 r2
    cases rpInt r1
    cases rpInt q1
    cases rpInt q2
    refine ⟨rfl, rfl, ?_⟩
    exact new_core (f := (u, 1, s, a, 1)) S2 Rf Wf hR fun d γ' G' v H' q s => k d γ' G' v H' q (sm.trans (sm2.trans s))⟩⟩
end
theorem for_inv {b : BdT} {s : DS} {E : DEnds} (Inv : Gm → Prop) (fin : ∀ γ, Inv γ → E.nx γ)
    (step : ∀ d ds γ, Inv γ → (∀ γ', Inv γ' → forD b s E ds γ') → b d γ fun γ1 => s { nx := forD b s E ds, ct := forD b s E ds, bk := E.nx, rt := E.rt } γ1) : ∀ ds γ, Inv γ → forD b s E ds γ
  | [], γ, h => fin γ h
  | d :: ds, γ, h => step d ds γ h fun γ' h' => for_inv Inv fin step ds γ' h'
section
variable {P : Program} {w : World} {K : PySem.W.Frag} {mg : Str → Option Value} {base : Heap} {C NX : Addr}
theorem kb_two {K : PySem.W.Frag} {f : Addr} {fd : FuncData} (F : InitD K f fd) : ∃ ds, Vals [.int 0, .int 0, .int 1] ds ∧ Binds K fd psI ds :=
  F.binds 3 1 (by simp) rfl (fun T D doc pm an cdv ct us its ks h1 h2 h3 => match us, its, ks, h1, h2, h3 with
      | [_, _, _], [_], [_, _, _], _, _, _ => ⟨_, rfl, ⟨_, _, _, _, _, _, rfl, rfl, ⟨_, _, _, _, _, _, rfl, rfl, ⟨_, _, _, _, _, _, rfl, rfl, rfl⟩⟩⟩⟩) (by simp)
/-! ### == of any two numbers -/
def EqNum (C : Addr) : Addr → Addr → Bool → Hp → Prop := fun x y b H => ∃ f f' : Five, NumAt C H x f ∧ NumAt C H y f' ∧ b = decide (f = f')
theorem ok_eqB2 {f : Addr} {fd : FuncData} (F : Fun K "__eq__" "Exact.__eq__" sEq f fd) (T : TEx K mg C) (I : TIs mg) : FnOk P w K mg base CX0 1 f fd ["self", "other"] (spEqB (EqNum C)) := by
  refine F.ok scEq ?_ ?_
  · rintro vs H Q E ⟨x, y, b, rfl, _⟩
    rfl
  intro cdv A outer s H vs Q E hr h
  obtain ⟨x, y, b, rfl, ⟨f, f', ⟨dx, hx⟩, ⟨dy, hy⟩, rfl⟩, kk⟩ := h
  have k := kk H Ext.rfl'
  refine ⟨_, pss_one (ps_ret (pe_and (pe_callB call_isi (by rfl) I.is (by decide +kernel) (pa_cons (pv 1) (pa_cons (pe_glob rfl T.mgC (show RelV (.ref C) (.ref C) from rfl)) pa_nil)))
    (pe_and (pe_cmpR op_eq (pe_fld (pv 0) rfl) (pe_fld (pv 1) rfl) (nomark _)) (pe_and (pe_cmpR op_eq (pe_fld (pv 0) rfl) (pe_fld (pv 1) rfl) (nomark _)) (pe_and (pe_cmpR op_eq (pe_fld (pv 0) rfl) (pe_fld (pv 1) rfl) (nomark _))
    (pe_and (pe_cmpR op_eq (pe_fld (pv 0) rfl) (pe_fld (pv 1) rfl) (nomark _)) (pe_one (pe_cmpR op_eq (pe_fld (pv 0) rfl) (pe_fld (pv 1) rfl) (nomark _))))))))), ?_⟩
  refine ⟨_, rfl, V.ref y, V.ref C, _, _, true, rfl, .own C, .base (.ins hy T.cl T.ha T.hn T.htk T.hm), T.kc, true, rfl, iteT ?_⟩
  have e : ∀ i j : Int, decide (V.int i = V.int j) = decide (i = j) := fun i j => by
    apply decide_eq_decide.mpr
    constructor
    · intro h
      injection h
    · intro h
      rw [h]
  obtain ⟨u, l, s, a, b⟩ := f
  obtain ⟨u', l', s', a', b'⟩ := f'
  dsimp only [flds] at hx hy
  have ff : decide (((u, l, s, a, b) : Five) = (u', l', s', a', b')) = (decide (u = u') && (decide (l = l') && (decide (s = s') && (decide (a = a') && decide (b = b'))))) := by
    simp only [Prod.mk.injEq, Bool.decide_and]
  rw [ff] at k
  refine ⟨_, rfl, x, C, dx, _, _, rfl, hx, T.cl, T.nT, (by rfl), _, rfl, y, C, dy, _, _, rfl, hy, T.cl, T.nT, (by rfl), rfl, decide (u = u'), congrArg V.bl (e _ _), ?_⟩
  cases h1 : decide (u = u')
  · rw [h1] at k
    exact iteF k
  rw [h1, Bool.true_and] at k
  refine iteT ?_
  refine ⟨_, rfl, x, C, dx, _, _, rfl, hx, T.cl, T.nB, (by rfl), _, rfl, y, C, dy, _, _, rfl, hy, T.cl, T.nB, (by rfl), rfl, decide (l = l'), congrArg V.bl (e _ _), ?_⟩
  cases h2 : decide (l = l')
  · rw [h2] at k
    exact iteF k
  rw [h2, Bool.true_and] at k
  refine iteT ?_
  refine ⟨_, rfl, x, C, dx, _, _, rfl, hx, T.cl, T.nS, (by rfl), _, rfl, y, C, dy, _, _, rfl, hy, T.cl, T.nS, (by rfl), rfl, decide (s = s'), congrArg V.bl (e _ _), ?_⟩
  cases h3 : decide (s = s')
  · rw [h3] at k
    exact iteF k
  rw [h3, Bool.true_and] at k
  refine iteT ?_
  refine ⟨_, rfl, x, C, dx, _, _, rfl, hx, T.cl, T.nO, (by rfl), _, rfl, y, C, dy, _, _, rfl, hy, T.cl, T.nO, (by rfl), rfl, decide (a = a'), congrArg V.bl (e _ _), ?_⟩
  cases h4 : decide (a = a')
  · rw [h4] at k
    exact iteF k
  rw [h4, Bool.true_and] at k
  refine iteT ?_
  refine ⟨_, rfl, x, C, dx, _, _, rfl, hx, T.cl, T.nU, (by rfl), _, rfl, y, C, dy, _, _, rfl, hy, T.cl, T.nU, (by rfl), rfl, ?_⟩
  show Q (V.bl (decide (V.int b = V.int b'))) H
  rw [e]
  exact k
/-- the fields' word -/
def fiveOf (fs : List (Str × V)) : Option Five := match fs with
  | [(_, .int u), (_, .int l), (_, .int s), (_, .int a), (_, .int b)] => some (u, l, s, a, b)
  | _ => none
def kEq (fs gs : List (Str × V)) : Option Bool := match fiveOf fs, fiveOf gs with
  | some f, some f' => if fs = flds f ∧ gs = flds f' then some (decide (f = f')) else none
  | _, _ => none
theorem kEq_flds (f f' : Five) : kEq (flds f) (flds f') = some (decide (f = f')) := by
  obtain ⟨u, l, s, a, b⟩ := f
  obtain ⟨u', l', s', a', b'⟩ := f'
  unfold kEq fiveOf flds
  simp
theorem kEq_num : ∀ a b dx dy fs gs v H, H a = some (.ins C dx fs) → H b = some (.ins C dy gs) → kEq fs gs = some v → EqNum C a b v H := fun a b dx dy fs gs v H h1 h2 h3 => by
  unfold kEq at h3
  split at h3
  · rename_i f f' _ _
    split at h3
    · rename_i e
      obtain ⟨e1, e2⟩ := e
      subst e1 e2
      cases h3
      exact ⟨f, f', ⟨dx, h1⟩, ⟨dy, h2⟩, rfl⟩
    · cases h3
  · cases h3
end
end PH
namespace PH
open PySem PySem.Spec PyProof.Rows L2 DL RZ
abbrev s_Exact_is_less : Stmt := inClass (topS 12) 9
abbrev N_sc_Exact_is_less : List Str := ["self", "other"]
theorem sc_Exact_is_less : FnScope N_sc_Exact_is_less ["self", "other"] (defScope s_Exact_is_less) := ⟨rfl, rfl, rfl, by decide +kernel, rfl, by decide +kernel, by decide +kernel⟩
abbrev s__law_sign : Stmt := topS 35
abbrev N_sc__law_sign : List Str := ["_law_five_here", "_law_part", "_law_far"]
theorem sc__law_sign : FnScope N_sc__law_sign ["_law_five_here"] (defScope s__law_sign) := ⟨rfl, rfl, rfl, by decide +kernel, rfl, by decide +kernel, by decide +kernel⟩
abbrev s__law_near_nought : Stmt := topS 36
abbrev N_sc__law_near_nought : List Str := ["_law_deck_here", "_law_free", "_law_lower", "_law_upper", "_law_mark"]
theorem sc__law_near_nought : FnScope N_sc__law_near_nought ["_law_deck_here"] (defScope s__law_near_nought) := ⟨rfl, rfl, rfl, by decide +kernel, rfl, by decide +kernel, by decide +kernel⟩
/-- what bounds are asked to take one of another one -/
structure LFit (T T' a a' M : Nat) (f f' : Five) : Prop where
  b : Bd T a f
  b' : Bd T' a' f'
  a1 : 1 ≤ a
  am : a ≤ M
  am' : a' ≤ M
  t : T ≤ 2000
  t' : T' ≤ 2000
  m : M ≤ 900
  s : T + T' + 1 + (a + a' + 2 + M) + 2 ≤ 2500
  r : a + a' + 2 + M ≤ 1100
def FLess (C : Addr) : FD := fun ds R => ∃ (f f' : Five) (T T' a a' M : Nat) (r q m q' m' : Rat), ds = [numD C f, numD C f'] ∧ Nu r f q m ∧ Nu r f' q' m' ∧ LFit T T' a a' M f f' ∧ R (.bl (less f f'))
def FSign : FD := fun ds R => ∃ f, ds = [fiveT f] ∧ Canon f ∧ Bd 1000 500 f ∧ R (.int (lsgn f))
def FNear : FD := fun ds R => ds = [.dk] ∧ ∀ f, Right f → Bd 24 14 f → R (fiveT (form f))
theorem LFit.dif {T T' a a' M : Nat} {f f' : Five} {r q m q' m' : Rat} (h : LFit T T' a a' M f f') (n : Nu r f q m) (n' : Nu r f' q' m') : Bd (T + T' + 1 + (a + a' + 2 + M) + 2) (a + a' + 2 + M) (form (fsum f (neg f'))) := by
  obtain ⟨R, _⟩ := fsum_is n.N n.C n'.neg.C n.h n'.neg.h
  exact (fsum_bd n.C n'.neg.C h.b h.b'.neg h.am h.am' h.a1).form R (by omega)
section
variable {P : Program} {w : World} {K : PySem.W.Frag} {mg : Str → Option Value} {base : Heap} {C NX NB PC : Addr}
theorem ok_less {f fMi fSg : Addr} {fd dMi dSg : FuncData} (F : Fun K "is_less" "Exact.is_less" s_Exact_is_less f fd) (T : TEx K mg C)
    (G_minus : FnOk P w K mg base CX0 7 fMi dMi ["self", "other"] (spD K Deck 2 (FMinus C))) (M_minus : Mth K C fMi dMi "minus" "Exact.minus" 5 ["self", "other"])
    (G_sign_of : FnOk P w K mg base CX0 2 fSg dSg ["self"] (spD K Deck 1 (FSgn C))) (M_sign_of : Mth K C fSg dSg "sign_of" "Exact.sign_of" 8 ["self"]) :
    FnOk P w K mg base CX0 8 f fd ["self", "other"] (spD K Deck 2 (FLess C)) := by
  refine F.ok sc_Exact_is_less (spD_len rfl) fun cdv A outer s H vs Q E hr h => bodyD (K := K) h (fun dk G => (ss_one (s_ret (d_cmp op_lt ok_P (d_meth0 (pe_meth0 (d_meth (pe_meth (d_var 0 (pv 0)) T.cl M_minus.m G_minus (hr.mono (by decide)) M_minus.b .nil pass0 (a_cons (d_var 1 (pv 1)) a_nil))) T.cl M_sign_of.m G_sign_of (hr.mono (by decide)) M_sign_of.b .nil pass0)) d_int (nomark _))))) ?_
  rintro ds R hl ⟨f, f', TT, T', a, a', M, r, q, m, q', m', rfl, n, n', L, hR⟩
  change sRet _ _ [.fz (numD C f), .fz (numD C f')]
  have Bf := L.dif n n'
  refine ⟨_, rfl, rfl, rfl, f, f', rfl, n.C, n'.C, L.b.mono L.t (by have := L.am; have := L.m; omega), L.b'.mono L.t' (by have := L.am'; have := L.m; omega), (n.go n').go, ?_⟩
  refine ⟨_, rfl, rfl, rfl, form (fsum f (neg f')), rfl, Bf.wds L.s L.r, ?_⟩
  exact ⟨_, _, rfl, rfl, hR⟩
theorem pick_sign (n : Int) : ixD (.lst [.int (if decide (0 < n) = true then 1 else 0), .int (-1)]) (.int (if decide (n < 0) = true then 1 else 0)) = some (.int (lmark n)) := by
  by_cases h : n < 0 <;> by_cases k : 0 < n <;> simp only [lmark, h, k, decide_true, decide_false, if_true, if_false] <;> first | rfl | omega
theorem pick_far (a b : Int) (p : Bool) : ixD (.lst [.int a, .int b]) (.int (if p = true then 1 else 0)) = some (.int (if p = true then b else a)) := by
  cases p <;> rfl
theorem ok_lsign {f : Addr} {fd : FuncData} (F : Fun K "_law_sign" "_law_sign" s__law_sign f fd) (z_int : mg "int" = none) :
    FnOk P w K mg base CX0 1 f fd ["_law_five_here"] (spD K Deck 1 FSign) := by
  refine F.ok sc__law_sign (spD_len rfl) fun cdv A outer s H vs Q E hr h => bodyD (K := K) h (fun dk G => (ss_cons (s_set (i := 1) (ps_set (i := 1) sc__law_sign.nd rfl (Or.inl rfl) (d_item rfl (d_f (f_lst (a_cons (d_cb ok_int1 (pe_callTy call_int1 (by rfl) z_int (by decide +kernel) (a_cons (d_cmp op_gt ok_P (d_item rfl (d_var 0 (pv 0)) d_int (fun _ _ => rfl)) d_int (nomark _)) a_nil))) (a_cons (d_un un_neg ok_neg d_int) a_nil)))) (d_cb ok_int1 (pe_callTy call_int1 (by rfl) z_int (by decide +kernel) (a_cons (d_cmp op_lt ok_P (d_item rfl (d_var 0 (pv 0)) d_int (fun _ _ => rfl)) d_int (nomark _)) a_nil))) (fun _ _ => rfl))))
    (ss_cons (s_if (PW.pt (bw_or (b_cmp op_eq ok_eq (d_item rfl (d_var 0 (pv 0)) d_int (fun _ _ => rfl)) d_int (nomark _)) (bw_or1 (b_cmp op_eq ok_eq (d_var 1 (pv 1)) (d_item rfl (d_var 0 (pv 0)) d_int (fun _ _ => rfl)) (nomark _))))) (ss_one (s_ret (d_var 1 (pv 1)))) ss_nil)
    (ss_cons (s_if (b_cmp op_eq ok_eq (d_var 1 (pv 1)) d_int (nomark _)) (ss_one (s_ret (d_item rfl (d_var 0 (pv 0)) d_int (fun _ _ => rfl)))) ss_nil)
    (ss_cons (s_set (i := 2) (ps_set (i := 2) sc__law_sign.nd rfl (Or.inl rfl) (d_op op_mulX ok_I (d_op op_mulX ok_I (d_item rfl (d_var 0 (pv 0)) d_int (fun _ _ => rfl)) (d_item rfl (d_var 0 (pv 0)) d_int (fun _ _ => rfl))) (d_item rfl (d_var 0 (pv 0)) d_int (fun _ _ => rfl)))))
    (ss_one (s_ret (d_item rfl (d_f (f_lst (a_cons (d_var 1 (pv 1)) (a_cons (d_item rfl (d_var 0 (pv 0)) d_int (fun _ _ => rfl)) a_nil)))) (d_cb ok_int1 (pe_callTy call_int1 (by rfl) z_int (by decide +kernel) (a_cons (d_cmp op_gt ok_P (d_op op_mulX ok_I (d_op op_mulX ok_I (d_item rfl (d_var 0 (pv 0)) d_int (fun _ _ => rfl)) (d_item rfl (d_var 0 (pv 0)) d_int (fun _ _ => rfl))) (d_item rfl (d_var 0 (pv 0)) d_int (fun _ _ => rfl))) (d_var 2 (pv 2)) (nomark _)) a_nil))) (fun _ _ => rfl))))))))) ?_
  rintro ds R hl ⟨f, rfl, Cf, Bf, hR⟩
  change sSeq _ _ _ [.fz (fiveT f), .un, .un]
  refine ⟨_, rfl, _, _, rfl, rfl, _, _, rfl, rfl, _, rfl, by show 2 ≤ 1000000; decide, _, rfl, _, _, rfl, rfl, _, _, rfl, rfl, _, pick_sign f.1, ?_⟩
  dsimp only [putS]
  unfold lsgn at hR
  have tt : ∀ {a b : Int}, decide (a = b) = true → a = b := fun h => of_decide_eq_true h
  have ff : ∀ {a b : Int}, decide (a = b) = false → ¬ a = b := fun h => of_decide_eq_false h
  refine ⟨_, rfl, _, rfl, _, rfl, fun e1 => ⟨fun _ => ?_, fun e => (nomatch e)⟩, fun e1 => ⟨_, rfl, _, rfl, _, rfl, fun e2 => ?_, fun e2 => ?_⟩⟩
  · rw [if_pos (.inl (tt e1))] at hR
    exact hR
  · rw [if_pos (.inr (tt e2))] at hR
    exact hR
  · rw [if_neg (fun h => h.elim (ff e1) (ff e2))] at hR
    refine ⟨_, rfl, _, rfl, fun e3 => ⟨_, rfl, ?_⟩, fun e3 => ?_⟩
    · rw [if_pos (tt e3)] at hR
      exact hR
    · rw [if_neg (ff e3)] at hR
      have B1 := (Bf.u.mul Bf.u).toMul (Bf.y.mono (by decide : 500 + 500 ≤ 1000)) (by decide)
      have B2 := (Bf.x.mono (by decide : 500 + 500 ≤ 1000)).toMul Bf.l (by decide)
      have B3 := ((Bf.x.mono (by decide : 500 + 500 ≤ 1000)).mul Bf.l).toMul Bf.l (by decide)
      refine ⟨_, rfl, _, rfl, _, _, rfl, rfl, Bf.u.toMul Bf.u (by decide), _, rfl, _, _, rfl, rfl, B1, ?_⟩
      dsimp only [putS]
      refine ⟨_, rfl, by show 2 ≤ 1000000; decide, _, rfl, _, rfl, _, _, rfl, rfl, B2, _, rfl, _, _, rfl, rfl, B3, _, _, rfl, rfl, _, _, rfl, rfl, _, pick_far _ _ _, ?_⟩
      show R (.int (if decide (f.1 * f.1 * f.2.2.2.2 < f.2.2.2.1 * f.2.1 * f.2.1) = true then f.2.2.1 else lmark f.1))
      by_cases z : f.1 * f.1 * f.2.2.2.2 < f.2.2.2.1 * f.2.1 * f.2.1
      · rw [if_pos z] at hR
        rw [if_pos (decide_eq_true z)]
        exact hR
      · rw [if_neg z] at hR
        rw [if_neg (fun h => z (of_decide_eq_true h))]
        exact hR
theorem ok_near {f fDr fSq fFm : Addr} {fd dDr dSq dFm : FuncData} (F : Fun K "_law_near_nought" "_law_near_nought" s__law_near_nought f fd)
    (G__law_draw : FnOk P w K mg base CX0 1 fDr dDr ["_law_deck_here", "_law_many"] (spD K Deck 2 FDrw)) (N__law_draw : Fns K mg fDr dDr "_law_draw" 21 ["_law_deck_here", "_law_many"])
    (G__law_square_root : FnOk P w K mg base CX0 1 fSq dSq ["_law_number"] (spD K Deck 1 FRootW)) (N__law_square_root : Fns K mg fSq dSq "_law_square_root" 23 ["_law_number"])
    (G__law_form : FnOk P w K mg base CX0 3 fFm dFm ["_law_upper", "_law_lower", "_law_mark", "_law_aloft", "_law_beneath"] (spD K Deck 5 FForm)) (N__law_form : Fns K mg fFm dFm "_law_form" 25 ["_law_upper", "_law_lower", "_law_mark", "_law_aloft", "_law_beneath"]) :
    FnOk P w K mg base CX0 4 f fd ["_law_deck_here"] (spD K Deck 1 FNear) := by
  refine F.ok sc__law_near_nought (spD_len rfl) fun cdv A outer s H vs Q E hr h => bodyD (K := K) h (fun dk G => (ss_cons (s_set (i := 1) (ps_set (i := 1) sc__law_near_nought.nd rfl (Or.inl rfl) (d_item rfl (d_f (f_lst (a_cons d_int (a_cons d_int (a_cons d_int (a_cons d_int (a_cons d_int (a_cons d_int a_nil)))))))) (d_call (pe_call G__law_draw (hr.mono (by decide)) rfl N__law_draw.m N__law_draw.F.kp N__law_draw.b .nil pass0 (a_cons (d_var 0 (pv 0)) (a_cons d_int a_nil)))) (fun _ _ => rfl))))
    (ss_cons (s_set (i := 2) (ps_set (i := 2) sc__law_near_nought.nd rfl (Or.inl rfl) (d_item rfl (d_f (f_lst (a_cons d_int (a_cons d_int (a_cons d_int (a_cons d_int a_nil)))))) (d_call (pe_call G__law_draw (hr.mono (by decide)) rfl N__law_draw.m N__law_draw.F.kp N__law_draw.b .nil pass0 (a_cons (d_var 0 (pv 0)) (a_cons d_int a_nil)))) (fun _ _ => rfl))))
    (ss_cons (s_set (i := 3) (ps_set (i := 3) sc__law_near_nought.nd rfl (Or.inl rfl) (d_op op_sub ok_I0 (d_op op_add ok_I0 (d_call (pe_call G__law_square_root (hr.mono (by decide)) rfl N__law_square_root.m N__law_square_root.F.kp N__law_square_root.b .nil pass0 (a_cons (d_op op_mulX ok_I (d_op op_mulX ok_I (d_var 1 (pv 1)) (d_var 2 (pv 2))) (d_var 2 (pv 2))) a_nil))) (d_call (pe_call G__law_draw (hr.mono (by decide)) rfl N__law_draw.m N__law_draw.F.kp N__law_draw.b .nil pass0 (a_cons (d_var 0 (pv 0)) (a_cons d_int a_nil))))) d_int)))
    (ss_cons (s_set (i := 4) (ps_set (i := 4) sc__law_near_nought.nd rfl (Or.inl rfl) (d_item rfl (d_f (f_lst (a_cons d_int (a_cons (d_un un_neg ok_neg d_int) a_nil)))) (d_call (pe_call G__law_draw (hr.mono (by decide)) rfl N__law_draw.m N__law_draw.F.kp N__law_draw.b .nil pass0 (a_cons (d_var 0 (pv 0)) (a_cons d_int a_nil)))) (fun _ _ => rfl))))
    (ss_one (s_ret (d_call (pe_call G__law_form (hr.mono (by decide)) rfl N__law_form.m N__law_form.F.kp N__law_form.b .nil pass0 (a_cons (d_op op_sub ok_I0 d_int (d_op op_mulX ok_I (d_var 4 (pv 4)) (d_var 3 (pv 3)))) (a_cons (d_var 2 (pv 2)) (a_cons (d_var 4 (pv 4)) (a_cons (d_var 1 (pv 1)) (a_cons d_int a_nil)))))))))))))) ?_
  rintro ds R hl ⟨rfl, hR⟩
  change sSeq _ _ _ [.fz .dk, .un, .un, .un, .un]
  have le6 : 6 ≤ 1000000 := by decide
  have le4 : 4 ≤ 1000000 := by decide
  have le2 : 2 ≤ 1000000 := by decide
  refine ⟨le6, rfl, 6, rfl, by decide, by decide, fun w1 p0 p1 => ?_⟩
  obtain ⟨fr, h1, f0, f1⟩ : ∃ fr : Int, ixD (.lst [.int 2, .int 3, .int 5, .int 7, .int 10, .int 999]) (.int w1) = some (.int fr) ∧ 1 < fr ∧ fr < 1000 := by
    have cs : w1 = 0 ∨ w1 = 1 ∨ w1 = 2 ∨ w1 = 3 ∨ w1 = 4 ∨ w1 = 5 := by omega
    rcases cs with rfl | rfl | rfl | rfl | rfl | rfl <;> exact ⟨_, rfl, by decide, by decide⟩
  refine ⟨_, h1, ?_⟩
  dsimp only [putS]
  refine ⟨le4, rfl, 4, rfl, by decide, by decide, fun w2 p0 p1 => ?_⟩
  obtain ⟨lo, h2, l0, l1⟩ : ∃ lo : Int, ixD (.lst [.int 1, .int 10, .int 997, .int 30000]) (.int w2) = some (.int lo) ∧ 0 < lo ∧ lo ≤ 30000 := by
    have cs : w2 = 0 ∨ w2 = 1 ∨ w2 = 2 ∨ w2 = 3 := by omega
    rcases cs with rfl | rfl | rfl | rfl <;> exact ⟨_, rfl, by decide, by decide⟩
  refine ⟨_, h2, ?_⟩
  dsimp only [putS]
  have wf : Wd 10 fr := by unfold Wd; omega
  have wl : Wd 15 lo := by unfold Wd; omega
  have nn : 0 ≤ fr * lo * lo := Int.mul_nonneg (Int.mul_nonneg (by omega) (by omega)) (by omega)
  have wn := ((wf.mul wl).mul wl).mono (by decide : 10 + 15 + 15 ≤ 7000)
  have up : rt (fr * lo * lo) ≤ 999999 := by
    have h2 : fr * lo * lo ≤ 999 * 30000 * 30000 := Int.mul_le_mul (Int.mul_le_mul (by omega) l1 (by omega) (by omega)) l1 (by omega) (by omega)
    exact rt_le nn (by decide) (Int.lt_of_le_of_lt h2 (by decide))
  have up0 := rt_nonneg (fr * lo * lo)
  refine ⟨_, _, rfl, rfl, wf.toMul wl (by decide), _, _, rfl, rfl, (wf.mul wl).toMul wl (by decide), rfl, _, rfl, nn, wn, rfl, 3, rfl, by decide, by decide, fun w3 p0 p1 => ?_⟩
  refine ⟨_, _, rfl, rfl, _, _, rfl, rfl, ?_⟩
  dsimp only [putS]
  refine ⟨_, rfl, le2, rfl, 2, rfl, by decide, by decide, fun w4 p2 p3 => ?_⟩
  obtain ⟨mk, h4, hm⟩ : ∃ mk : Int, ixD (.lst [.int 1, .int (-1)]) (.int w4) = some (.int mk) ∧ (mk = -1 ∨ mk = 0 ∨ mk = 1) := by
    have cs : w4 = 0 ∨ w4 = 1 := by omega
    rcases cs with rfl | rfl <;> exact ⟨_, rfl, by decide⟩
  refine ⟨_, h4, ?_⟩
  dsimp only [putS]
  have wu : Wd 20 (rt (fr * lo * lo) + w3 - 1) := by unfold Wd; omega
  have wm : Wd 1 mk := Wd.one hm
  have Rf : Right (0 - mk * (rt (fr * lo * lo) + w3 - 1), lo, mk, fr, 1) := ⟨l0, hm, by show 0 ≤ fr; omega, by show (0 : Int) < 1; decide⟩
  have Bf : Bd 24 14 (0 - mk * (rt (fr * lo * lo) + w3 - 1), lo, mk, fr, 1) := ⟨((wm.mul wu).neg0).mono (by decide), wl.mono (by decide), wf.mono (by decide), wd_one.mono (by decide)⟩
  refine ⟨_, _, rfl, rfl, wm.toMul wu (by decide), _, _, rfl, rfl, rfl, (0 - mk * (rt (fr * lo * lo) + w3 - 1), lo, mk, fr, 1), rfl, Rf, Bf.wide (by decide) (by decide), ?_⟩
  exact hR _ Rf Bf
end
end PH
namespace PH
open PySem PySem.Spec PyProof.Rows L2 DL RZ
abbrev s__law_row : Stmt := topS 37
abbrev N_sc__law_row : List Str := ["_law_deck_here", "_law_five_here", "_law_found", "_law_k", "_law_like_here", "_law_more", "_law_one"]
theorem sc__law_row : FnScope N_sc__law_row ["_law_deck_here"] (defScope s__law_row) := ⟨rfl, rfl, rfl, by decide +kernel, rfl, by decide +kernel, by decide +kernel⟩
theorem for_invL {b : BdT} {s : DS} {E : DEnds} (Inv : List D → Gm → Prop) (fin : ∀ γ, Inv [] γ → E.nx γ)
    (step : ∀ d ds γ, Inv (d :: ds) γ → (∀ γ', Inv ds γ' → forD b s E ds γ') → b d γ fun γ1 => s { nx := forD b s E ds, ct := forD b s E ds, bk := E.nx, rt := E.rt } γ1) : ∀ ds γ, Inv ds γ → forD b s E ds γ
  | [], γ, h => fin γ h
  | d :: ds, γ, h => step d ds γ h fun γ' h' => for_invL Inv fin step ds γ' h'
theorem for_map {α : Type} (F : α → D) (P : α → Prop) {b : BdT} {s : DS} {E : DEnds} (Inv : Gm → Prop) (fin : ∀ γ, Inv γ → E.nx γ)
    (step : ∀ x ds γ, P x → Inv γ → (∀ γ', Inv γ' → forD b s E ds γ') → b (F x) γ fun γ1 => s { nx := forD b s E ds, ct := forD b s E ds, bk := E.nx, rt := E.rt } γ1) : ∀ (L : List α) γ, (∀ x ∈ L, P x) → Inv γ → forD b s E (L.map F) γ
  | [], γ, _, h => fin γ h
  | x :: L, γ, hp, h => step x _ γ (hp x List.mem_cons_self) h fun γ' h' => for_map F P Inv fin step L γ' (fun y hy => hp y (List.mem_cons_of_mem _ hy)) h'
/-- what a row holds ahead of its form -/
structure Pre (r : Rat) (g : Five) : Prop where
  R : Right g
  B : Bd 40 14 g
  F : Fam r (form g)
theorem pre_like {r : Rat} {f g : Five} (Fr : Fam r (form f)) (hr : (form f).2.2.1 = 0 ∨ r = rad (form f)) (Lh : Like (form f) g) : Pre r (form g) := by
  obtain ⟨a, b, ha, hb, e1, e2⟩ := Lh.e
  have F5 : Fam r (form g) := Fr.like hr Lh.R ha hb e1 e2 Lh.z
  exact ⟨canon_right F5.C, ((like_bd Lh).form Lh.R (by decide)).mono (by decide) (by decide), by rw [form_canon F5.C]; exact F5⟩
theorem pre_more {r : Rat} {f : Five} (F : Fam r f) (B : Bd 36 14 f) : Pre r (f.1 + 1, f.2) := by
  have R := canon_right F.C
  have R' : Right (f.1 + 1, f.2) := ⟨R.l, R.m, R.a, R.b⟩
  have I : ∃ q m, Is r (f.1 + 1, f.2) q m := by
    obtain ⟨q, m, h⟩ := F.is
    rcases h with ⟨h1, h2, h3⟩ | ⟨x, h1, h2, h3, h4⟩ | ⟨x, h1, h2, h3, h4⟩
    · exact ⟨_, m, .inl ⟨h1, rfl, h3⟩⟩
    · exact ⟨_, m, .inr (.inl ⟨x, h1, h2, rfl, h4⟩)⟩
    · exact ⟨_, m, .inr (.inr ⟨x, h1, h2, rfl, h4⟩)⟩
  obtain ⟨q, m, i⟩ := I
  exact ⟨R', ⟨(B.u.add ((Wd.one (.inr (.inr rfl))).mono (by decide))).mono (by decide), B.l.mono (by decide), B.x, B.y⟩, ⟨F.N, canon_form R', q, m, is_is F.N R' i⟩⟩
theorem ixT_at {L : List D} {z : Int} {j : Nat} {d : D} (e : z = (j : Int)) (h : L[j]? = some d) : ixD (.tup L) (.int z) = some d := by
  subst e
  exact atI_nat h
theorem ix_last (x : Five) (L : List Five) : ∃ g ∈ x :: L, ixD (.lst ((x :: L).map fiveT)) (.int (-1)) = some (fiveT g) := by
  refine ⟨(x :: L).getLast (by simp), List.getLast_mem _, ?_⟩
  have h : ((x :: L).map fiveT)[L.length]? = some (fiveT ((x :: L).getLast (by simp))) := by
    rw [List.getElem?_map, List.getLast_eq_getElem, List.getElem?_eq_getElem (by simp)]
    rfl
  show atI ((x :: L).map fiveT) (-1) = _
  unfold atI
  simp only [List.length_map, List.length_cons]
  have e : ixN (L.length + 1) (-1) = some L.length := by
    unfold ixN
    rw [if_neg (by omega), if_pos (by omega)]
    congr 1
    omega
  rw [e]
  exact h
theorem lc_form {R : List D → Gm → Prop} {a b c d e f : Sl} : ∀ (L : List Five) (acc : List D), acc.length + L.length ≤ 1000000 → (∀ g ∈ L, Right g ∧ Wide g) → (∀ γ, R (acc ++ (L.map form).map fiveT) γ) →
    lcD (bN 6) bYes (dCall 5 FForm (aCons (dOp fIx (dVar 6) (dC (D.int 0))) (aCons (dOp fIx (dVar 6) (dC (D.int 1))) (aCons (dOp fIx (dVar 6) (dC (D.int 2))) (aCons (dOp fIx (dVar 6) (dC (D.int 3))) (aCons (dOp fIx (dVar 6) (dC (D.int 4))) aNil)))))) [6] (L.map fiveT) acc [a, b, c, d, e, f, .un] R
  | [], acc, _, _, q => by
    have := q (wipeS [a, b, c, d, e, f, .un] [6])
    simp only [List.map_nil, List.append_nil] at this
    exact this
  | x :: L, acc, hl, hx, q => by
    obtain ⟨R1, W1⟩ := hx x List.mem_cons_self
    refine ⟨fun _ => ⟨_, rfl, _, rfl, _, rfl, _, rfl, _, rfl, rfl, x, rfl, R1, W1, by simp at hl; omega, ?_⟩, fun e => (nomatch e)⟩
    refine lc_form L (acc ++ [fiveT (form x)]) (by simp at hl; simp; omega) (fun y hy => hx y (List.mem_cons_of_mem _ hy)) fun γ => ?_
    have := q γ
    simp only [List.map_cons] at this
    rw [List.append_assoc]
    exact this
def FRow : FD := fun ds R => ds = [.dk] ∧ ∀ (r : Rat) (L : List Five), L ≠ [] → (∀ f ∈ L, Fam r f ∧ Bd 60 14 f) → R (.lst (L.map fiveT))
section
variable {P : Program} {w : World} {K : PySem.W.Frag} {mg : Str → Option Value} {base : Heap} {C NX NB PC : Addr}
theorem ok_row {f fDr fFv fLi fFm : Addr} {fd dDr dFv dLi dFm : FuncData} (F : Fun K "_law_row" "_law_row" s__law_row f fd) (z_range : mg "range" = none)
    (G__law_draw : FnOk P w K mg base CX0 1 fDr dDr ["_law_deck_here", "_law_many"] (spD K Deck 2 FDrw)) (N__law_draw : Fns K mg fDr dDr "_law_draw" 21 ["_law_deck_here", "_law_many"])
    (G__law_five : FnOk P w K mg base CX0 3 fFv dFv ["_law_deck_here"] (spD K Deck 1 FFive)) (N__law_five : Fns K mg fFv dFv "_law_five" 30 ["_law_deck_here"])
    (G__law_like : FnOk P w K mg base CX0 4 fLi dLi ["_law_deck_here", "_law_five_here"] (spD K Deck 2 FLike)) (N__law_like : Fns K mg fLi dLi "_law_like" 31 ["_law_deck_here", "_law_five_here"])
    (G__law_form : FnOk P w K mg base CX0 3 fFm dFm ["_law_upper", "_law_lower", "_law_mark", "_law_aloft", "_law_beneath"] (spD K Deck 5 FForm)) (N__law_form : Fns K mg fFm dFm "_law_form" 25 ["_law_upper", "_law_lower", "_law_mark", "_law_aloft", "_law_beneath"]) :
    FnOk P w K mg base CX0 5 f fd ["_law_deck_here"] (spD K Deck 1 FRow) := by
  refine F.ok sc__law_row (spD_len rfl) fun cdv A outer s H vs Q E hr h => bodyD (K := K) h (fun dk G => (ss_cons (s_set (i := 1) (ps_set (i := 1) sc__law_row.nd rfl (Or.inl rfl) (d_call (pe_call G__law_five (hr.mono (by decide)) rfl N__law_five.m N__law_five.F.kp N__law_five.b .nil pass0 (a_cons (d_var 0 (pv 0)) a_nil)))))
    (ss_cons (s_own (i := 2) (ps_set (i := 2) sc__law_row.nd rfl (Or.inl rfl) (f_lst (a_cons (d_call (pe_call G__law_form (hr.mono (by decide)) rfl N__law_form.m N__law_form.F.kp N__law_form.b .nil pass0 (a_cons (d_item rfl (d_var 1 (pv 1)) d_int (fun _ _ => rfl)) (a_cons (d_item rfl (d_var 1 (pv 1)) d_int (fun _ _ => rfl)) (a_cons (d_item rfl (d_var 1 (pv 1)) d_int (fun _ _ => rfl)) (a_cons (d_item rfl (d_var 1 (pv 1)) d_int (fun _ _ => rfl)) (a_cons (d_item rfl (d_var 1 (pv 1)) d_int (fun _ _ => rfl)) a_nil))))))) a_nil))))
    (ss_cons (s_for (vs := [3]) (ps_for PassesOwn.never rfl (i_rng1 (pi_range1 rfl z_range (a_cons d_int a_nil))) (g_name (vs := [3]) (pg_name (i := 3) sc__law_row.nd rfl (Or.inl rfl)))
    (ss_cons (s_set (i := 4) (ps_set (i := 4) sc__law_row.nd rfl (Or.inl rfl) (d_call (pe_call G__law_like (hr.mono (by decide)) rfl N__law_like.m N__law_like.F.kp N__law_like.b .nil pass0 (a_cons (d_var 0 (pv 0)) (a_cons (d_var 1 (pv 1)) a_nil))))))
    (ss_cons (s_set (i := 5) (ps_set (i := 5) sc__law_row.nd rfl (Or.inl rfl) (d_call (pe_call G__law_form (hr.mono (by decide)) rfl N__law_form.m N__law_form.F.kp N__law_form.b .nil pass0 (a_cons (d_item rfl (d_var 4 (pv 4)) d_int (fun _ _ => rfl)) (a_cons (d_item rfl (d_var 4 (pv 4)) d_int (fun _ _ => rfl)) (a_cons (d_item rfl (d_var 4 (pv 4)) d_int (fun _ _ => rfl)) (a_cons (d_item rfl (d_var 4 (pv 4)) d_int (fun _ _ => rfl)) (a_cons (d_item rfl (d_var 4 (pv 4)) d_int (fun _ _ => rfl)) a_nil)))))))))
    (ss_one (s_app (i := 2) (ps_expr (pe_bm PySem.F.plainAttrs_list PySem.F.slot_list_append PySem.F.type_list_append mt_append (pv 2) (pa_cons (d_item rfl (d_f (f_lst (a_cons (d_var 5 (pv 5)) (a_cons (d_var 5 (pv 5)) (a_cons (d_ixO (pe_ix ix_list (pv 2) (d_un un_neg ok_neg d_int) (fun _ _ => rfl)) rfl) (a_cons (d_catT rfl (d_tup (a_cons (d_op op_add ok_I0 (d_item rfl (d_ixO (pe_ix ix_list (pv 2) d_int (fun _ _ => rfl)) rfl) d_int (fun _ _ => rfl)) d_int) a_nil)) (d_slT rfl (d_ixO (pe_ix ix_list (pv 2) d_int (fun _ _ => rfl)) rfl) (o_some d_int) o_none (pe_slice sl_tupA (d_ixO (pe_ix ix_list (pv 2) d_int (fun _ _ => rfl)) rfl) (o_some d_int) o_none))) a_nil)))))) (d_call (pe_call G__law_draw (hr.mono (by decide)) rfl N__law_draw.m N__law_draw.F.kp N__law_draw.b .nil pass0 (a_cons (d_var 0 (pv 0)) (a_cons d_int a_nil)))) (fun _ _ => rfl)) pa_nil))) rfl))))))
    (ss_one (s_ret (d_f (f_lc (pe_lc (own := [("_law_one", 6)]) rfl sc__law_row.nd (i_seq rfl (d_var 2 (pv 2))) (blkOk_by (own := [("_law_one", 6)]) (N := N_sc__law_row) (sc := defScope s__law_row) (by decide +kernel)) (fun _ _ _ _ _ => gx (vs := [6]) fun _ => (g_name (vs := [6]) (pg_name (i := 6) sc__law_row.nd rfl (Or.inl rfl)))) (fun _ _ _ _ _ => bx_yes) (fun _ _ _ _ _ => dx fun _ => (d_call (pe_call G__law_form (hr.mono (by decide)) rfl N__law_form.m N__law_form.F.kp N__law_form.b .nil pass0 (a_cons (d_item rfl (d_var 6 (pv 6)) d_int (fun _ _ => rfl)) (a_cons (d_item rfl (d_var 6 (pv 6)) d_int (fun _ _ => rfl)) (a_cons (d_item rfl (d_var 6 (pv 6)) d_int (fun _ _ => rfl)) (a_cons (d_item rfl (d_var 6 (pv 6)) d_int (fun _ _ => rfl)) (a_cons (d_item rfl (d_var 6 (pv 6)) d_int (fun _ _ => rfl)) a_nil))))))))))))))))) ?_
  rintro ds R hl ⟨rfl, hR⟩
  change sSeq _ _ _ [.fz .dk, .un, .un, .un, .un, .un, .un]
  have le1 : 1 ≤ 1000000 := by decide
  have le4 : 4 ≤ 1000000 := by decide
  refine ⟨rfl, rfl, fun f Rf Sf => ?_⟩
  dsimp only [putS]
  refine ⟨_, rfl, _, rfl, _, rfl, _, rfl, _, rfl, rfl, f, rfl, Rf, small_wide Rf Sf, le1, fun p => ?_⟩
  dsimp only [putS]
  refine ⟨5, rfl, by decide, by decide, ?_⟩
  obtain ⟨r, Fr, hr⟩ := fam_of (canon_form Rf)
  have B0 := (small_bd Rf Sf).form Rf (by decide)
  refine for_invL (fun ds γ => ∃ (L : List Five) (o3 o4 o5 o6 : Sl), (∀ g ∈ L, Pre r g) ∧ L.length + ds.length ≤ 5 ∧ γ = [.fz .dk, .fz (fiveT f), .own p ((form f :: L).map fiveT), o3, o4, o5, o6]) ?_ ?_ _ _ ⟨[], _, _, _, _, by simp, by decide, rfl⟩
  · rintro γ ⟨L, o3, o4, o5, o6, hL, hn, rfl⟩
    refine ⟨_, rfl, ?_⟩
    refine lc_form (form f :: L) [] (by simp at hn; simp; omega) ?_ ?_
    · intro g hg
      rcases List.mem_cons.mp hg with rfl | hg
      · exact ⟨canon_right Fr.C, B0.wide (by decide) (by decide)⟩
      · exact ⟨(hL g hg).R, (hL g hg).B.wide (by decide) (by decide)⟩
    · intro γ'
      refine hR r ((form f :: L).map form) (by simp) ?_
      intro g hg
      obtain ⟨x, hx, rfl⟩ := List.mem_map.mp hg
      rcases List.mem_cons.mp hx with rfl | hx
      · rw [form_canon Fr.C]
        exact ⟨Fr, B0.mono (by decide) (by decide)⟩
      · exact ⟨(hL x hx).F, ((hL x hx).B.form (hL x hx).R (by decide)).mono (by decide) (by decide)⟩
  · rintro d ds γ ⟨L, o3, o4, o5, o6, hL, hn, rfl⟩ ih
    refine ⟨rfl, f, rfl, Rf, Sf, fun h Lh => ?_⟩
    dsimp only [putS]
    have Ph := pre_like Fr hr Lh
    obtain ⟨g, hg, hgl⟩ := ix_last (form f) L
    have Pg : Pre r g := by
      rcases List.mem_cons.mp hg with rfl | hg
      · exact ⟨canon_right Fr.C, B0.mono (by decide) (by decide), by rw [form_canon Fr.C]; exact Fr⟩
      · exact hL g hg
    have Pm := pre_more Fr B0
    refine ⟨_, rfl, _, rfl, _, rfl, _, rfl, _, rfl, rfl, h, rfl, Lh.R, (like_bd Lh).wide (by decide) (by decide), ?_⟩
    dsimp only [putS]
    refine ⟨_, _, rfl, .inl ⟨_, _, rfl, _, rfl, _, _, rfl, hgl, .inl ⟨_, _, rfl, _, fiveT (form f), rfl, ixD_at (j := 0) rfl rfl, .int (form f).1, ixT_at (j := 0) rfl rfl, _, _, rfl, rfl, by show 1 ≤ 1000000; decide, .inl ⟨_, _, rfl, _, fiveT (form f), rfl, ixD_at (j := 0) rfl rfl, _, rfl, _, rfl, _, _, rfl, rfl, by show 5 ≤ 1000000; decide, le4, rfl, 4, rfl, by decide, by decide, fun w4 p0 p1 => ?_⟩⟩⟩⟩
    obtain ⟨x, hx, Px⟩ : ∃ x, ixD (.lst [fiveT (form h), fiveT (form h), fiveT g, fiveT ((form f).1 + 1, (form f).2)]) (.int w4) = some (fiveT x) ∧ Pre r x := by
      have cs : w4 = 0 ∨ w4 = 1 ∨ w4 = 2 ∨ w4 = 3 := by omega
      rcases cs with rfl | rfl | rfl | rfl
      · exact ⟨_, rfl, Ph⟩
      · exact ⟨_, rfl, Ph⟩
      · exact ⟨_, rfl, Pg⟩
      · exact ⟨_, rfl, Pm⟩
    refine ⟨_, hx, _, rfl, by simp at hn; simp; omega, ?_⟩
    dsimp only [putS]
    have em : (form f :: L).map fiveT ++ [fiveT x] = (form f :: (L ++ [x])).map fiveT := by simp [List.map_append]
    rw [em]
    refine ih _ ⟨L ++ [x], _, _, _, _, ?_, by simp at hn; simp; omega, rfl⟩
    intro y hy
    rcases List.mem_append.mp hy with hy | hy
    · exact hL y hy
    · rw [List.mem_singleton.mp hy]
      exact Px
end
end PH
namespace PH
open PySem PySem.Spec PyProof.Rows L2 DL RZ
abbrev s__law_row_right : Stmt := topS 38
abbrev N_sc__law_row_right : List Str := ["_law_row_here", "_law_more", "_law_one", "_law_theirs", "_law_about", "_law_due", "_law_here", "_law_there", "_law_told", "_law_three"]
theorem sc__law_row_right : FnScope N_sc__law_row_right ["_law_row_here"] (defScope s__law_row_right) := ⟨rfl, rfl, rfl, by decide +kernel, rfl, by decide +kernel, by decide +kernel⟩
variable {r q m q' m' : Rat} {f f' : Five}
def FRowR : FD := fun ds R => ∃ (r : Rat) (L : List Five), ds = [.lst (L.map fiveT)] ∧ L ≠ [] ∧ (∀ f ∈ L, Fam r f ∧ Bd 60 14 f) ∧ R (.bl true)
def FNearest : FD := fun ds R => ds = [] ∧ R (.bl true)
structure TEqB (P : Program) (w : World) (K : PySem.W.Frag) (mg : Str → Option Value) (base : Heap) (C fE : Addr) (fdE : FuncData) : Prop where
  g : FnOk P w K mg base CX0 1 fE fdE ["self", "other"] (spEqB (EqNum C))
  s : PySem.W.findIn K (.ref C) "__eq__" = some (some (.ref fE))
  f : PySem.W.isFn K (.ref fE) = true
  b : Binds K fdE ["self", "other"] []
theorem kb_meth {K : PySem.W.Frag} {x qual : Str} {st : Stmt} {f : Addr} {fd : FuncData} (F : Fun K x qual st f fd)
    (h : ∀ (kV doc pm : Value) (an : Option Addr) (cdv ct : Value) (self w : Value), bindArgs (PySem.W.fnOf x qual (defArgs st) (defBody st) (defScope st) .none kV doc pm an cdv ct) ⟨[self], [("other", w)]⟩ = pure ([("self", self), ("other", w)] : List (Str × Value))) : KBindsM K fd ["self", "other"] ["other"] := by
  obtain ⟨oc, od, kV, doc, pm, an, cdv, ct, osl, rfl, lk, hcd⟩ := F.ex
  refine ⟨fun s self ws _ hl => ?_⟩
  match ws, hl with
  | [w], _ => exact .of_eq (h kV doc pm an cdv ct self w)
theorem Nu.one (h : Nu r f q m) (h' : Nu r f' q' m') : (less f f' = true ∧ decide (f = f') = false ∧ less f' f = false) ∨ (less f f' = false ∧ decide (f = f') = true ∧ less f' f = false) ∨ (less f f' = false ∧ decide (f = f') = false ∧ less f' f = true) := by
  obtain ⟨e1, e2, e3⟩ := h.three h'
  rw [e1, e2, e3]
  rcases Int.lt_trichotomy (sgnF (form (fsum f (PH.neg f')))) 0 with z | z | z
  · exact .inl ⟨decide_eq_true z, decide_eq_false (by omega), decide_eq_false (by omega)⟩
  · exact .inr (.inl ⟨decide_eq_false (by omega), decide_eq_true z, decide_eq_false (by omega)⟩)
  · exact .inr (.inr ⟨decide_eq_false (by omega), decide_eq_false (by omega), decide_eq_true z⟩)
theorem Nu.sum_b {T T' a a' M : Nat} (h : Nu r f q m) (h' : Nu r f' q' m') (B : Bd T a f) (B' : Bd T' a' f') (h1 : a ≤ M) (h2 : a' ≤ M) (h3 : 1 ≤ a) : Bd (T + T' + 1 + (a + a' + 2 + M) + 2) (a + a' + 2 + M) (form (fsum f f')) := by
  obtain ⟨R, _⟩ := fsum_is h.N h.C h'.C h.h h'.h
  exact (fsum_bd h.C h'.C B B' h1 h2 h3).form R (by omega)
section
variable {P : Program} {w : World} {K : PySem.W.Frag} {mg : Str → Option Value} {base : Heap} {C NX NB PC : Addr}
theorem ok_rowR {f fMd fAd fSi fPl fMi fLe fE fI : Addr} {fd dMd dAd dSi dPl dMi dLe dE dI : FuncData} (F : Fun K "_law_row_right" "_law_row_right" s__law_row_right f fd) (T : TEx K mg C) (TQ : TEqB P w K mg base C fE dE) (z_repr : mg "repr" = none)
    (M : Mk K C fI) (FI : InitD K fI dI) (GI : GInit P w K mg base C NX fI dI)
    (G__law_made : FnOk P w K mg base (L2.CX P w) 5 fMd dMd ["_law_five_here"] (spD K Deck 1 (FMade C))) (N__law_made : Fns K mg fMd dMd "_law_made" 32 ["_law_five_here"])
    (G__law_added : FnOk P w K mg base CX0 5 fAd dAd ["_law_one", "_law_theirs"] (spD K Deck 2 FAdded)) (N__law_added : Fns K mg fAd dAd "_law_added" 28 ["_law_one", "_law_theirs"])
    (G__law_sign : FnOk P w K mg base CX0 1 fSi dSi ["_law_five_here"] (spD K Deck 1 FSign)) (N__law_sign : Fns K mg fSi dSi "_law_sign" 35 ["_law_five_here"])
    (G_plus : FnOk P w K mg base CX0 6 fPl dPl ["self", "other"] (spD K Deck 2 (FPlus C))) (M_plus : Mth K C fPl dPl "plus" "Exact.plus" 4 ["self", "other"])
    (G_minus : FnOk P w K mg base CX0 7 fMi dMi ["self", "other"] (spD K Deck 2 (FMinus C))) (M_minus : Mth K C fMi dMi "minus" "Exact.minus" 5 ["self", "other"])
    (G_is_less : FnOk P w K mg base CX0 8 fLe dLe ["self", "other"] (spD K Deck 2 (FLess C))) (M_is_less : Mth K C fLe dLe "is_less" "Exact.is_less" 9 ["self", "other"]) (KB_is_less : KBindsM K dLe ["self", "other"] ["other"]) :
    FnG P w K mg base CX0 9 f fd ["_law_row_here"] (spD K Deck 1 FRowR) := by
  obtain ⟨ds1, vd1, KB1⟩ := kb_one FI
  refine Fun.okG F sc__law_row_right (spD_len rfl) fun cdv A outer s H vs Q E hg hr h => bodyD (K := K) h (fun dk G => (ss_cons (s_set (i := 1) (ps_set (i := 1) sc__law_row_right.nd rfl (Or.inl rfl) (d_call (pe_call G__law_made (hr.mono (by decide)) rfl N__law_made.m N__law_made.F.kp N__law_made.b .nil passX0 (a_cons (d_item rfl (d_var 0 (pv 0)) (d_un un_neg ok_neg d_int) (fun _ _ => rfl)) a_nil)))))
    (ss_cons (s_for (vs := [2]) (ps_for PassesOwn.never rfl (i_seq rfl (d_var 0 (pv 0))) (g_name (vs := [2]) (pg_name (i := 2) sc__law_row_right.nd rfl (Or.inl rfl)))
    (ss_one (s_for (vs := [3]) (ps_for PassesOwn.never rfl (i_seq rfl (d_var 0 (pv 0))) (g_name (vs := [3]) (pg_name (i := 3) sc__law_row_right.nd rfl (Or.inl rfl)))
    (ss_cons (s_set (i := 4) (ps_set (i := 4) sc__law_row_right.nd rfl (Or.inl rfl) (d_tup (a_cons (d_op op_sub ok_I0 d_int (d_item rfl (d_var 2 (pv 2)) d_int (fun _ _ => rfl))) (a_cons (d_item rfl (d_var 2 (pv 2)) d_int (fun _ _ => rfl)) (a_cons (d_op op_sub ok_I0 d_int (d_item rfl (d_var 2 (pv 2)) d_int (fun _ _ => rfl))) (a_cons (d_item rfl (d_var 2 (pv 2)) d_int (fun _ _ => rfl)) (a_cons (d_item rfl (d_var 2 (pv 2)) d_int (fun _ _ => rfl)) a_nil))))))))
    (ss_cons (s_set (i := 5) (ps_set (i := 5) sc__law_row_right.nd rfl (Or.inl rfl) (d_cmp op_gt ok_P (d_call (pe_call G__law_sign (hr.mono (by decide)) rfl N__law_sign.m N__law_sign.F.kp N__law_sign.b .nil pass0 (a_cons (d_call (pe_call G__law_added (hr.mono (by decide)) rfl N__law_added.m N__law_added.F.kp N__law_added.b .nil pass0 (a_cons (d_var 3 (pv 3)) (a_cons (d_var 4 (pv 4)) a_nil)))) a_nil))) d_int (nomark _))))
    (ss_cons (s_par (ps_par (i := 6) (j := 7) rfl sc__law_row_right.nd rfl rfl (by decide) rfl rfl (a_cons (d_call (pe_call G__law_made (hr.mono (by decide)) rfl N__law_made.m N__law_made.F.kp N__law_made.b .nil passX0 (a_cons (d_var 2 (pv 2)) a_nil))) (a_cons (d_call (pe_call G__law_made (hr.mono (by decide)) rfl N__law_made.m N__law_made.F.kp N__law_made.b .nil passX0 (a_cons (d_var 3 (pv 3)) a_nil))) a_nil)) (by rfl)))
    (ss_cons (s_own (i := 8) (ps_set (i := 8) sc__law_row_right.nd rfl (Or.inl rfl) (f_lst (a_cons (d_meth (pe_meth (d_var 6 (pv 6)) T.cl M_is_less.m G_is_less (hr.mono (by decide)) M_is_less.b .nil pass0 (a_cons (d_var 7 (pv 7)) a_nil))) (a_cons (d_methK (pe_methKw (d_var 6 (pv 6)) T.cl M_is_less.m G_is_less (hr.mono (by decide)) KB_is_less pass0 (k_cons (d_var 7 (pv 7)) k_nil))) (a_cons (d_meth (pe_meth (d_meth (pe_meth (d_var 6 (pv 6)) T.cl M_plus.m G_plus (hr.mono (by decide)) M_plus.b .nil pass0 (a_cons (d_var 1 (pv 1)) a_nil))) T.cl M_is_less.m G_is_less (hr.mono (by decide)) M_is_less.b .nil pass0 (a_cons (d_meth (pe_meth (d_var 7 (pv 7)) T.cl M_plus.m G_plus (hr.mono (by decide)) M_plus.b .nil pass0 (a_cons (d_var 1 (pv 1)) a_nil))) a_nil))) a_nil))))))
    (ss_cons (s_app (i := 8) (ps_expr (pe_bm PySem.F.plainAttrs_list PySem.F.slot_list_append PySem.F.type_list_append mt_append (pv 8) (pa_cons (d_meth (pe_meth (d_meth (pe_meth (d_new (dvs := [1, 0, 0, 1]) (pe_make M GI (hr.mono (by decide)) rfl T.mgC KB1 vd1 passX0 (a_cons d_int a_nil))) T.cl M_minus.m G_minus (hr.mono (by decide)) M_minus.b .nil pass0 (a_cons (d_var 7 (pv 7)) a_nil))) T.cl M_is_less.m G_is_less (hr.mono (by decide)) M_is_less.b .nil pass0 (a_cons (d_meth (pe_meth (d_new (dvs := [1, 0, 0, 1]) (pe_make M GI (hr.mono (by decide)) rfl T.mgC KB1 vd1 passX0 (a_cons d_int a_nil))) T.cl M_minus.m G_minus (hr.mono (by decide)) M_minus.b .nil pass0 (a_cons (d_var 6 (pv 6)) a_nil))) a_nil))) pa_nil))) rfl)
    (ss_cons (s_set (i := 9) (ps_set (i := 9) sc__law_row_right.nd rfl (Or.inl rfl) (d_f (f_lst (a_cons (d_meth (pe_meth (d_var 6 (pv 6)) T.cl M_is_less.m G_is_less (hr.mono (by decide)) M_is_less.b .nil pass0 (a_cons (d_var 7 (pv 7)) a_nil))) (a_cons (d_cmp (op_eqInsB TQ.g TQ.s TQ.f TQ.b pass0 (hr.mono (by decide))) (ok_eqB (C := C) (k := kEq) kEq_num) (d_var 6 (pv 6)) (d_var 7 (pv 7)) (nomark _)) (a_cons (d_meth (pe_meth (d_var 7 (pv 7)) T.cl M_is_less.m G_is_less (hr.mono (by decide)) M_is_less.b .nil pass0 (a_cons (d_var 6 (pv 6)) a_nil))) a_nil)))))))
    (ss_one (s_if (PW.pt (bw_or (b_cmp op_ne ok_ne (d_cb (ok_repr rfl) (pe_callB (PH.cr_repr hg hr) (by rfl) z_repr (by decide +kernel) (a_cons (d_var 8 (pv 8)) a_nil))) (d_cb (ok_repr rfl) (pe_callB (PH.cr_repr hg hr) (by rfl) z_repr (by decide +kernel) (a_cons (d_f (f_rep (d_f (f_lst (a_cons (d_var 5 (pv 5)) a_nil))) d_int)) a_nil))) (nomark _)) (bw_or1 (b_cmp op_ne ok_ne (d_count rfl (pe_bm PySem.F.plainAttrs_list PySem.F.slot_list_count PySem.F.type_list_count mt_lcountF (d_var 9 (pv 9)) (pa_cons d_bl pa_nil))) d_int (nomark _))))) (ss_one (s_ret d_bl)) ss_nil)))))))))))))
    (ss_one (s_ret d_bl))))) ?_
  rintro ds R hl ⟨r, L, rfl, hn, hL, hR⟩
  change sSeq _ _ _ [.fz (.lst (L.map fiveT)), .un, .un, .un, .un, .un, .un, .un, .un, .un]
  have le1 : 1 ≤ 1000000 := by decide
  have le3 : 3 ≤ 1000000 := by decide
  have le5 : 5 ≤ 1000000 := by decide
  obtain ⟨x, L', rfl⟩ := List.exists_cons_of_ne_nil hn
  obtain ⟨hh, hm, hix⟩ := ix_last x L'
  obtain ⟨Fh, Bh⟩ := hL hh hm
  refine ⟨_, rfl, fiveT hh, hix, rfl, hh, rfl, canon_right Fh.C, Bh.wide (by decide) (by decide), ?_⟩
  rw [form_canon Fh.C]
  dsimp only [putS]
  refine ⟨_, rfl, ?_⟩
  refine for_map fiveT (fun f => Fam r f ∧ Bd 60 14 f) (fun γ => ∃ o2 o3 o4 o5 o6 o7 o8 o9 : Sl, γ = [.fz (.lst ((x :: L').map fiveT)), .fz (numD C hh), o2, o3, o4, o5, o6, o7, o8, o9]) ?_ ?_ (x :: L') _ hL ⟨_, _, _, _, _, _, _, _, rfl⟩
  · rintro γ ⟨o2, o3, o4, o5, o6, o7, o8, o9, rfl⟩
    exact hR
  rintro f ds γ ⟨Ff, Bf⟩ ⟨o2, o3, o4, o5, o6, o7, o8, o9, rfl⟩ ih
  refine ⟨_, rfl, ?_⟩
  refine for_map fiveT (fun f => Fam r f ∧ Bd 60 14 f) (fun γ => ∃ o3 o4 o5 o6 o7 o8 o9 : Sl, γ = [.fz (.lst ((x :: L').map fiveT)), .fz (numD C hh), .fz (fiveT f), o3, o4, o5, o6, o7, o8, o9]) ?_ ?_ (x :: L') _ hL ⟨_, _, _, _, _, _, _, rfl⟩
  · rintro γ ⟨o3, o4, o5, o6, o7, o8, o9, rfl⟩
    exact ih _ ⟨_, _, _, _, _, _, _, _, rfl⟩
  rintro f' ds' γ ⟨Ff', Bf'⟩ ⟨p3, p4, p5, p6, p7, p8, p9, rfl⟩ ih2
  obtain ⟨q, m, n⟩ := Ff.nu
  obtain ⟨q', m', n'⟩ := Ff'.nu
  obtain ⟨qh, mh, nh⟩ := Fh.nu
  have b1 : Bd 2000 900 f := Bf.mono (by decide) (by decide)
  have b2 : Bd 2000 900 f' := Bf'.mono (by decide) (by decide)
  have b3 : Bd 2000 900 hh := Bh.mono (by decide) (by decide)
  have zz : form nil5 = nil5 := form_canon canon_nil5
  have nz : Nu r (form nil5) 0 0 := by rw [zz]; exact nu_nil Ff.N
  have bz : Bd 36 14 (form nil5) := by rw [zz]; exact bd_nil5
  have bz2 : Bd 2000 900 (form nil5) := bz.mono (by decide) (by decide)
  have Rz : Right nil5 := canon_right canon_nil5
  have Wz : Wide nil5 := bd_nil5.wide (by decide) (by decide)
  have eL : form (lsum f' (neg f)) = form (fsum f' (neg f)) := ((n'.go n).neg.sum_eq).symm
  have bL : Bd 1000 500 (form (lsum f' (neg f))) := by
    rw [eL]
    exact (n'.sum_b n.neg Bf' Bf.neg (M := 14) (by decide) (by decide) (by decide)).mono (by decide) (by decide)
  have cL : Canon (form (lsum f' (neg f))) := by rw [eL]; exact (n'.dif n).C
  refine ⟨_, rfl, _, _, rfl, rfl, _, rfl, _, rfl, _, _, rfl, rfl, _, rfl, _, rfl, le5, ?_⟩
  dsimp only [putS]
  refine ⟨rfl, f', neg f, rfl, n'.C, n.neg.C, b2, b1.neg, (n'.go n).neg.go, rfl, form (lsum f' (neg f)), rfl, cL, bL, _, _, rfl, rfl, ?_⟩
  dsimp only [putS]
  rw [n.due n']
  refine ⟨rfl, f, rfl, canon_right n.C, Bf.wide (by decide) (by decide), rfl, f', rfl, canon_right n'.C, Bf'.wide (by decide) (by decide), _, _, rfl, ?_⟩
  rw [form_canon n.C, form_canon n'.C]
  dsimp only [putS]
  have L1 : LFit 60 60 14 14 14 f f' := ⟨Bf, Bf', by decide, by decide, by decide, by decide, by decide, by decide, by decide, by decide⟩
  have L2 : LFit 60 60 14 14 14 f' f := ⟨Bf', Bf, by decide, by decide, by decide, by decide, by decide, by decide, by decide, by decide⟩
  have L3 : LFit 167 167 44 44 44 (form (fsum f hh)) (form (fsum f' hh)) := ⟨n.sum_b nh Bf Bh (M := 14) (by decide) (by decide) (by decide), n'.sum_b nh Bf' Bh (M := 14) (by decide) (by decide) (by decide), by decide, by decide, by decide, by decide, by decide, by decide, by decide, by decide⟩
  have L4 : LFit 143 143 44 44 44 (form (fsum (form nil5) (neg f'))) (form (fsum (form nil5) (neg f))) := ⟨nz.sum_b n'.neg bz Bf'.neg (M := 14) (by decide) (by decide) (by decide), nz.sum_b n.neg bz Bf.neg (M := 14) (by decide) (by decide) (by decide), by decide, by decide, by decide, by decide, by decide, by decide, by decide, by decide⟩
  refine ⟨_, rfl, rfl, rfl, f, f', 60, 60, 14, 14, 14, r, q, m, q', m', rfl, n, n', L1, ?_⟩
  refine ⟨_, rfl, rfl, rfl, f, f', 60, 60, 14, 14, 14, r, q, m, q', m', rfl, n, n', L1, ?_⟩
  refine ⟨_, rfl, rfl, rfl, f, hh, rfl, n.C, nh.C, b1, b3, (n.go nh).go, _, rfl, rfl, _, rfl, rfl, rfl, f', hh, rfl, n'.C, nh.C, b2, b3, (n'.go nh).go, rfl, form (fsum f hh), form (fsum f' hh), 167, 167, 44, 44, 44, r, _, _, _, _, rfl, n.sum nh, n'.sum nh, L3, le3, fun p1 => ?_⟩
  dsimp only [putS]
  refine ⟨_, _, rfl, [0], nil5, rfl, rfl, Rz, Wz, _, rfl, rfl, rfl, form nil5, f', rfl, nz.C, n'.C, bz2, b2, (nz.go n').go, _, rfl, rfl, [0], nil5, rfl, rfl, Rz, Wz, _, rfl, rfl, rfl, form nil5, f, rfl, nz.C, n.C, bz2, b1, (nz.go n).go, rfl, form (fsum (form nil5) (neg f')), form (fsum (form nil5) (neg f)), 143, 143, 44, 44, 44, r, _, _, _, _, rfl, nz.dif n', nz.dif n, L4, _, rfl, by show 3 < 1000000; decide, ?_⟩
  dsimp only [putS]
  refine ⟨_, rfl, rfl, rfl, f, f', 60, 60, 14, 14, 14, r, q, m, q', m', rfl, n, n', L1, ?_⟩
  refine ⟨_, _, _, rfl, rfl, kEq_flds f f', ?_⟩
  refine ⟨_, rfl, rfl, rfl, f', f, 60, 60, 14, 14, 14, r, q', m', q, m, rfl, n', n, L2, le3, ?_⟩
  dsimp only [putS]
  rw [Nu.less_of n n' (n.sum nh) (n'.sum nh) (by grind) (by grind), Nu.less_of n n' (nz.dif n') (nz.dif n) (by grind) (by grind)]
  rcases n.one n' with ⟨e1, e2, e3⟩ | ⟨e1, e2, e3⟩ | ⟨e1, e2, e3⟩
  all_goals
    rw [e1, e2, e3]
    refine ⟨_, _, rfl, rfl, rfl, rfl, rfl, by decide, by decide, le1, _, _, rfl, rfl, by decide, by decide, by decide, _, _, rfl, rfl, rfl, rfl, rfl, by decide, by decide, _, rfl, _, rfl, fun e => ?_, fun _ => ?_⟩
    · exfalso
      simp only [decide_true, Bool.not_true, Bool.false_eq_true] at e
    · refine ⟨_, rfl, rfl, rfl, _, rfl, _, rfl, fun e => absurd e (by decide), fun _ => ?_⟩
      exact ih2 _ ⟨_, _, _, _, _, _, _, rfl⟩
/-! ### nearer and nearer -/
end
end PH
namespace PH
open PySem PySem.Spec PyProof.Rows L2 DL RZ
abbrev s__law_nearest_right : Stmt := topS 39
abbrev N_sc__law_nearest_right : List Str := ["_law_here", "_law_part", "_law_k", "_law_told", "_law_third", "_law_more"]
theorem sc__law_nearest_right : FnScope N_sc__law_nearest_right [] (defScope s__law_nearest_right) := ⟨rfl, rfl, rfl, by decide +kernel, rfl, by decide +kernel, by decide +kernel⟩
/-! ### one less the root of two, times itself -/
def part5 : Five := (1, 1, -1, 2, 1)
theorem right_part5 : Right part5 := ⟨by decide, by decide, by decide, by decide⟩
theorem is_part5 : Is 2 part5 1 (-1) := .inr (.inr ⟨1, by decide, by decide +kernel, by decide +kernel, by decide +kernel⟩)
theorem nu_part : Nu 2 (form part5) 1 (-1) := ⟨nonsq2, canon_form right_part5, is_is nonsq2 right_part5 is_part5⟩
theorem bd_part : Bd 36 14 (form part5) := Bd.form (T := 20) (a := 14) right_part5 ⟨by unfold Wd; decide, by unfold Wd; decide, by unfold Wd; decide, by unfold Wd; decide⟩ (by decide)
theorem low_one (a : Int) : low a 1 = (a, 1) := by
  unfold low g
  simp
theorem lq_int (a : Int) : lq (a : Rat) = (a, 1) := by
  unfold lq
  rw [Rat.num_intCast, Rat.den_intCast]
  exact low_one a
structure Near (e : Int) (k : Nat) (h : Five) (a c : Int) : Prop where
  a0 : 0 < a
  c0 : 0 ≤ c
  ak : a ≤ 3 ^ k
  ck : c ≤ 3 ^ k
  n : a * a = 2 * c * c + e
  e1 : e = 1 ∨ e = -1
  N : Nu 2 h a (-c)
theorem Near.eq {e : Int} {k : Nat} {h : Five} {a c : Int} (H : Near e k h a c) : h = (a, 1, if c = 0 then 0 else -1, 2 * c * c, 1) := by
  have e := (form_canon H.N.C).symm.trans (is_form H.N.N (canon_right H.N.C) H.N.h)
  rw [e]
  unfold can
  have m2 : (-(c : Rat)) * -(c : Rat) * 2 = ((2 * c * c : Int) : Rat) := by
    rw [Rat.intCast_mul, Rat.intCast_mul]
    show _ = (2 : Rat) * c * c
    grind
  by_cases z : c = 0
  · subst z
    rw [if_pos (by simp), lq_int]
    simp
  · have cz : (c : Rat) ≠ 0 := by simpa using z
    have cp : (0 : Rat) < c := by
      have : 0 < c := by have := H.c0; omega
      exact_mod_cast this
    rw [if_neg (by grind), lq_int, m2, lq_int, if_neg z]
    unfold sgn
    rw [if_neg (by grind), if_neg (by grind)]
theorem Near.sgn {e : Int} {k : Nat} {h : Five} {a c : Int} (H : Near e k h a c) : sgnF h = e := by
  rw [H.eq]
  unfold sgnF
  dsimp only
  have n := H.n
  have a0 := H.a0
  have c0 := H.c0
  rw [Int.mul_one, Int.mul_one, Int.mul_one]
  rcases H.e1 with rfl | rfl
  · rw [if_pos (by omega)]
    unfold sgI
    rw [if_pos a0]
  · rw [if_neg (by omega), if_neg]
    intro z
    subst z
    have := Int.mul_pos a0 a0
    omega
theorem Near.next {e : Int} {k : Nat} {h : Five} {a c : Int} (H : Near e k h a c) : Near (-e) (k + 1) (form (fprod h (form part5))) (a + 2 * c) (a + c) := by
  have a0 := H.a0
  have c0 := H.c0
  have ak := H.ak
  have ck := H.ck
  have n := H.n
  have N := H.N.prod nu_part
  have k3 : (3 : Int) ^ (k + 1) = 3 * 3 ^ k := by rw [Int.pow_succ]; omega
  refine ⟨by omega, by omega, by omega, by omega, by grind, by have := H.e1; omega, ?_⟩
  have e1 : (a : Rat) * 1 + -(c : Rat) * (-1) * 2 = ((a + 2 * c : Int) : Rat) := by
    rw [Rat.intCast_add, Rat.intCast_mul]
    show _ = (a : Rat) + (2 : Rat) * c
    grind
  have e2 : (a : Rat) * (-1) + 1 * -(c : Rat) = -((a + c : Int) : Rat) := by
    rw [Rat.intCast_add]
    grind
  rw [e1, e2] at N
  exact N
theorem pow3 {k : Nat} (h : k ≤ 310) : (3 : Int) ^ k < 2 ^ 495 := by
  have h1 : (3 : Nat) ^ k ≤ 3 ^ 310 := Nat.pow_le_pow_right (by decide) h
  have h2 : (3 : Nat) ^ 310 < 2 ^ 495 := by decide +kernel
  have e1 : ((3 ^ k : Nat) : Int) = (3 : Int) ^ k := by simp
  have e2 : ((2 ^ 495 : Nat) : Int) = (2 : Int) ^ 495 := by simp
  rw [← e1, ← e2]
  exact Int.ofNat_lt.mpr (Nat.lt_of_le_of_lt h1 h2)
theorem Near.bd {e : Int} {k : Nat} {h : Five} {a c : Int} (H : Near e k h a c) (hk : k ≤ 310) : Bd 500 500 h := by
  have a0 := H.a0
  have c0 := H.c0
  have ak := H.ak
  have ck := H.ck
  have p3 := pow3 hk
  have wa : Wd 495 a := by unfold Wd; omega
  have wc : Wd 495 c := by unfold Wd; omega
  rw [H.eq]
  have w2 : Wd 2 2 := by unfold Wd; decide
  exact ⟨wa.mono (by decide), wd_one.mono (by decide), ((w2.mul wc).mul wc).mono (by decide), wd_one.mono (by decide)⟩
theorem near0 : Near 1 0 (form (1, 1, 0, 0, 1)) 1 0 := by
  have C : Canon (1, 1, 0, 0, 1) := ⟨by decide, by decide, .inl ⟨rfl, rfl, rfl⟩⟩
  refine ⟨by decide, by decide, by decide, by decide, by decide, .inl rfl, ?_⟩
  rw [form_canon C]
  exact ⟨nonsq2, C, .inl ⟨rfl, by decide +kernel, by decide +kernel⟩⟩
theorem last_sgn : sgnF (form (fsum (form (100000000000000000000000000000000000000000000000003, 300000000000000000000000000000000000000000000000000, 0, 0, 1)) (neg (form (1, 3, 0, 0, 1))))) = 1 := by decide +kernel
theorem less_nil {h : Five} {q m : Rat} (N : Nu 2 h q m) : less h (form nil5) = decide (sgnF h < 0) ∧ less (form nil5) h = decide (- sgnF h < 0) := by
  have nz : Nu 2 (form nil5) 0 0 := by rw [form_canon canon_nil5]; exact nu_nil nonsq2
  unfold less
  rw [(N.dif nz).eq N (by grind) (by grind), (nz.dif N).eq N.neg (by grind) (by grind), sgnF_neg]
  exact ⟨rfl, rfl⟩
def third5 : Five := (1, 3, 0, 0, 1)
def more5 : Five := (100000000000000000000000000000000000000000000000003, 300000000000000000000000000000000000000000000000000, 0, 0, 1)
theorem right_third : Right third5 := ⟨by decide, by decide, by decide, by decide⟩
theorem right_more : Right more5 := ⟨by decide, by decide, by decide, by decide⟩
theorem bd_third0 : Bd 20 14 third5 := ⟨by unfold Wd; decide, by unfold Wd; decide, by unfold Wd; decide, by unfold Wd; decide⟩
theorem bd_more0 : Bd 180 14 more5 := ⟨by unfold Wd; decide, by unfold Wd; decide, by unfold Wd; decide, by unfold Wd; decide⟩
theorem bd_third : Bd 36 14 (form third5) := bd_third0.form right_third (by decide)
theorem bd_more : Bd 196 14 (form more5) := bd_more0.form right_more (by decide)
theorem nu_third : ∃ q m, Nu 2 (form third5) q m := ⟨_, _, nonsq2, canon_form right_third, is_is nonsq2 right_third (is_plain 2 rfl)⟩
theorem nu_more : ∃ q m, Nu 2 (form more5) q m := ⟨_, _, nonsq2, canon_form right_more, is_is nonsq2 right_more (is_plain 2 rfl)⟩
theorem less_third {q m q' m' : Rat} (n : Nu 2 (form third5) q m) (n' : Nu 2 (form more5) q' m') : less (form third5) (form more5) = true ∧ less (form more5) (form third5) = false := by
  obtain ⟨e1, e2, e3⟩ := n'.three n
  have s : sgnF (form (fsum (form more5) (neg (form third5)))) = 1 := last_sgn
  rw [e1, e2, s]
  exact ⟨rfl, rfl⟩
theorem e50 : (10 : Int) ^ (Int.toNat 50) = 100000000000000000000000000000000000000000000000000 := by decide +kernel
section
variable {P : Program} {w : World} {K : PySem.W.Frag} {mg : Str → Option Value} {base : Heap} {C NX NB PC : Addr}
theorem ok_nearest {f fTi fMi fSg fLe fI : Addr} {fd dTi dMi dSg dLe dI : FuncData} (F : Fun K "_law_nearest_right" "_law_nearest_right" s__law_nearest_right f fd) (T : TEx K mg C) (z_repr : mg "repr" = none) (z_range : mg "range" = none)
    (M : Mk K C fI) (FI : InitD K fI dI) (GI : GInit P w K mg base C NX fI dI)
    (G_times : FnOk P w K mg base CX0 6 fTi dTi ["self", "other"] (spD K Deck 2 (FTimes C))) (M_times : Mth K C fTi dTi "times" "Exact.times" 6 ["self", "other"])
    (G_minus : FnOk P w K mg base CX0 7 fMi dMi ["self", "other"] (spD K Deck 2 (FMinus C))) (M_minus : Mth K C fMi dMi "minus" "Exact.minus" 5 ["self", "other"])
    (G_sign_of : FnOk P w K mg base CX0 2 fSg dSg ["self"] (spD K Deck 1 (FSgn C))) (M_sign_of : Mth K C fSg dSg "sign_of" "Exact.sign_of" 8 ["self"])
    (G_is_less : FnOk P w K mg base CX0 8 fLe dLe ["self", "other"] (spD K Deck 2 (FLess C))) (M_is_less : Mth K C fLe dLe "is_less" "Exact.is_less" 9 ["self", "other"]) :
    FnG P w K mg base CX0 9 f fd [] (spD K Deck 0 FNearest) := by
  obtain ⟨ds1, vd1, KB1⟩ := kb_one FI
  obtain ⟨ds2, vd2, KB2⟩ := kb_two FI
  obtain ⟨its, mv, KBS⟩ := kb_so FI
  refine Fun.okG F sc__law_nearest_right (spD_len rfl) fun cdv A outer s H vs Q E hg hr h => bodyD (K := K) h (fun dk G => (ss_cons (s_par (ps_par (i := 0) (j := 1) rfl sc__law_nearest_right.nd rfl rfl (by decide) rfl rfl (a_cons (d_new (dvs := [1, 0, 0, 1]) (pe_make M GI (hr.mono (by decide)) rfl T.mgC KB1 vd1 passX0 (a_cons d_int a_nil))) (a_cons (d_newSO (pe_makeK (n := 1) (ks := ["sign", "over"]) M GI (hr.mono (by decide)) rfl T.mgC KBS passX0 (a_cons d_int a_nil) (k_cons (d_un un_neg ok_neg d_int) (k_cons d_int k_nil)))) a_nil)) (by rfl)))
    (ss_cons (s_for (vs := [2]) (ps_for PassesOwn.never rfl (i_rng1 (pi_range1 rfl z_range (a_cons d_int a_nil))) (g_name (vs := [2]) (pg_name (i := 2) sc__law_nearest_right.nd rfl (Or.inl rfl)))
    (ss_cons (s_set (i := 3) (ps_set (i := 3) sc__law_nearest_right.nd rfl (Or.inl rfl) (d_f (f_lst (a_cons (d_meth0 (pe_meth0 (d_var 0 (pv 0)) T.cl M_sign_of.m G_sign_of (hr.mono (by decide)) M_sign_of.b .nil pass0)) (a_cons (d_meth (pe_meth (d_var 0 (pv 0)) T.cl M_is_less.m G_is_less (hr.mono (by decide)) M_is_less.b .nil pass0 (a_cons (d_new (dvs := [1, 0, 0, 1]) (pe_make M GI (hr.mono (by decide)) rfl T.mgC KB1 vd1 passX0 (a_cons d_int a_nil))) a_nil))) (a_cons (d_meth (pe_meth (d_new (dvs := [1, 0, 0, 1]) (pe_make M GI (hr.mono (by decide)) rfl T.mgC KB1 vd1 passX0 (a_cons d_int a_nil))) T.cl M_is_less.m G_is_less (hr.mono (by decide)) M_is_less.b .nil pass0 (a_cons (d_var 0 (pv 0)) a_nil))) a_nil)))))))
    (ss_cons (s_if (b_cmp op_ne ok_ne (d_cb (ok_repr rfl) (pe_callB (PH.cr_repr hg hr) (by rfl) z_repr (by decide +kernel) (a_cons (d_var 3 (pv 3)) a_nil))) (d_cb (ok_repr rfl) (pe_callB (PH.cr_repr hg hr) (by rfl) z_repr (by decide +kernel) (a_cons (d_f (f_lst (a_cons (d_item rfl (d_f (f_lst (a_cons d_int (a_cons (d_un un_neg ok_neg d_int) a_nil)))) (d_op op_mod ok_I (d_var 2 (pv 2)) d_int) (fun _ _ => rfl)) (a_cons (d_cmp op_eq ok_eq (d_op op_mod ok_I (d_var 2 (pv 2)) d_int) d_int (nomark _)) (a_cons (d_cmp op_eq ok_eq (d_op op_mod ok_I (d_var 2 (pv 2)) d_int) d_int (nomark _)) a_nil))))) a_nil))) (nomark _)) (ss_one (s_ret d_bl)) ss_nil)
    (ss_one (s_set (i := 0) (ps_set (i := 0) sc__law_nearest_right.nd rfl (Or.inl rfl) (d_meth (pe_meth (d_var 0 (pv 0)) T.cl M_times.m G_times (hr.mono (by decide)) M_times.b .nil pass0 (a_cons (d_var 1 (pv 1)) a_nil))))))))))
    (ss_cons (s_par (ps_par (i := 4) (j := 5) rfl sc__law_nearest_right.nd rfl rfl (by decide) rfl rfl (a_cons (d_new (dvs := [0, 0, 1]) (pe_make M GI (hr.mono (by decide)) rfl T.mgC KB2 vd2 passX0 (a_cons d_int (a_cons d_int a_nil)))) (a_cons (d_new (dvs := [0, 0, 1]) (pe_make M GI (hr.mono (by decide)) rfl T.mgC KB2 vd2 passX0 (a_cons (d_op op_add ok_I0 (d_op op_pow ok_I d_int d_int) d_int) (a_cons (d_op op_mulX ok_I d_int (d_op op_pow ok_I d_int d_int)) a_nil)))) a_nil)) (by rfl)))
    (ss_one (s_ret (d_cmp op_eq ok_eq (d_cb (ok_repr rfl) (pe_callB (PH.cr_repr hg hr) (by rfl) z_repr (by decide +kernel) (a_cons (d_f (f_lst (a_cons (d_meth (pe_meth (d_var 4 (pv 4)) T.cl M_is_less.m G_is_less (hr.mono (by decide)) M_is_less.b .nil pass0 (a_cons (d_var 5 (pv 5)) a_nil))) (a_cons (d_meth (pe_meth (d_var 5 (pv 5)) T.cl M_is_less.m G_is_less (hr.mono (by decide)) M_is_less.b .nil pass0 (a_cons (d_var 4 (pv 4)) a_nil))) (a_cons (d_meth0 (pe_meth0 (d_meth (pe_meth (d_var 5 (pv 5)) T.cl M_minus.m G_minus (hr.mono (by decide)) M_minus.b .nil pass0 (a_cons (d_var 4 (pv 4)) a_nil))) T.cl M_sign_of.m G_sign_of (hr.mono (by decide)) M_sign_of.b .nil pass0)) a_nil))))) a_nil))) (d_cb (ok_repr rfl) (pe_callB (PH.cr_repr hg hr) (by rfl) z_repr (by decide +kernel) (a_cons (d_f (f_lst (a_cons d_bl (a_cons d_bl (a_cons d_int a_nil))))) a_nil))) (nomark _)))))))) ?_
  rintro ds R hl ⟨rfl, hR⟩
  change sSeq _ _ _ [.un, .un, .un, .un, .un, .un]
  have t2 : (0 : Int) < 2 := by decide
  have le2 : 2 ≤ 1000000 := by decide
  have le3 : 3 ≤ 1000000 := by decide
  have Rz : Right nil5 := canon_right canon_nil5
  have Wz : Wide nil5 := bd_nil5.wide (by decide) (by decide)
  have nz : Nu 2 (form nil5) 0 0 := by rw [form_canon canon_nil5]; exact nu_nil nonsq2
  have bz : Bd 36 14 (form nil5) := by rw [form_canon canon_nil5]; exact bd_nil5
  refine ⟨[1], one5, rfl, rfl, canon_right canon_one5, bd_one5.wide (by decide) (by decide), _, rfl, 1, -1, 2, rfl, rfl, right_part5, (Bd.wide (T := 20) (a := 14) ⟨by unfold Wd; decide, by unfold Wd; decide, by unfold Wd; decide, by unfold Wd; decide⟩ (by decide) (by decide) : Wide part5), _, _, rfl, ?_⟩
  dsimp only [putS]
  refine ⟨310, rfl, by decide, by decide, ?_⟩
  refine for_invL (fun ds γ => ∃ (k : Nat) (h : Five) (a c : Int) (o2 o3 : Sl), ds = (rngD 0 310).drop k ∧ k ≤ 310 ∧ Near (if k % 2 = 0 then 1 else -1) k h a c ∧ γ = [.fz (numD C h), .fz (numD C (form part5)), o2, o3, .un, .un]) ?_ ?_ _ _ ⟨0, form one5, 1, 0, _, _, rfl, by decide, near0, rfl⟩
  · rintro γ ⟨k, h, a, c, o2, o3, _, _, _, rfl⟩
    obtain ⟨q, m, n⟩ := nu_third
    obtain ⟨q', m', n'⟩ := nu_more
    obtain ⟨l1, l2⟩ := less_third n n'
    have w3 : Wd 2 3 := by unfold Wd; decide
    have wp : Wd 180 100000000000000000000000000000000000000000000000000 := by unfold Wd; decide
    refine ⟨[1, 3], third5, rfl, rfl, right_third, bd_third0.wide (by decide) (by decide), _, _, rfl, rfl, ⟨by decide, by decide, by decide⟩, _, _, rfl, rfl, _, _, rfl, rfl, ⟨by decide, by decide, by decide⟩, _, _, rfl, rfl, by show CMulX 3 ((10 : Int) ^ (Int.toNat 50)); rw [e50]; exact w3.toMul wp (by decide), [100000000000000000000000000000000000000000000000003, 300000000000000000000000000000000000000000000000000], more5, by show ([.int ((10 : Int) ^ (Int.toNat 50) + 3), .int (3 * (10 : Int) ^ (Int.toNat 50))] : List D) = _; rw [e50]; rfl, rfl, right_more, bd_more0.wide (by decide) (by decide), _, _, rfl, ?_⟩
    dsimp only [putS]
    have L1 : LFit 36 196 14 14 14 (form third5) (form more5) := ⟨bd_third, bd_more, by decide, by decide, by decide, by decide, by decide, by decide, by decide, by decide⟩
    have L2 : LFit 196 36 14 14 14 (form more5) (form third5) := ⟨bd_more, bd_third, by decide, by decide, by decide, by decide, by decide, by decide, by decide, by decide⟩
    refine ⟨_, rfl, rfl, rfl, form third5, form more5, 36, 196, 14, 14, 14, 2, q, m, q', m', rfl, n, n', L1, ?_⟩
    refine ⟨_, rfl, rfl, rfl, form more5, form third5, 196, 36, 14, 14, 14, 2, q', m', q, m, rfl, n', n, L2, ?_⟩
    refine ⟨_, rfl, rfl, rfl, form more5, form third5, rfl, n'.C, n.C, bd_more.mono (by decide) (by decide), bd_third.mono (by decide) (by decide), (n'.go n).go, _, rfl, rfl, rfl, form (fsum (form more5) (neg (form third5))), rfl, (L2.dif n' n).wds (by decide) (by decide), le3, ?_⟩
    rw [l1, l2, show sgnF (form (fsum (form more5) (neg (form third5)))) = 1 from last_sgn]
    refine ⟨_, _, rfl, rfl, rfl, rfl, rfl, by decide, by decide, le3, _, _, rfl, rfl, rfl, rfl, rfl, by decide, by decide, _, rfl, ?_⟩
    simp only [decide_true]
    exact hR
  · rintro d ds γ ⟨k, h, a, c, o2, o3, hd, hk, H, rfl⟩ ih
    have k1 : k < 310 := by
      rcases Nat.lt_or_ge k 310 with z | z
      · exact z
      · rw [List.drop_eq_nil_of_le (by simp [rngD]; omega)] at hd
        cases hd
    rw [List.drop_eq_getElem_cons (by simp [rngD]; omega)] at hd
    injection hd with d1 d2
    have d1' : d = .int (0 + (k : Int)) := by rw [d1]; simp [rngD]
    subst d1' d2
    have N := H.N
    have Bh := H.bd hk
    obtain ⟨l1, l2⟩ := less_nil N
    rw [H.sgn] at l1 l2
    have L1 : LFit 500 36 500 14 500 h (form nil5) := ⟨Bh, bz, by decide, by decide, by decide, by decide, by decide, by decide, by decide, by decide⟩
    have L2 : LFit 36 500 14 500 500 (form nil5) h := ⟨bz, Bh, by decide, by decide, by decide, by decide, by decide, by decide, by decide, by decide⟩
    have Fp : Fit 500 36 500 14 500 h (form part5) := ⟨Bh, bd_part, by decide, by decide, by decide, by decide, by decide, by decide, by decide, by decide⟩
    have Hn := H.next
    refine ⟨_, rfl, rfl, rfl, h, rfl, Bh.wds (by decide) (by decide), ?_⟩
    refine ⟨_, rfl, rfl, [0], nil5, rfl, rfl, Rz, Wz, rfl, h, form nil5, 500, 36, 500, 14, 500, 2, _, _, _, _, rfl, N, nz, L1, ?_⟩
    refine ⟨[0], nil5, rfl, rfl, Rz, Wz, _, rfl, rfl, rfl, form nil5, h, 36, 500, 14, 500, 500, 2, _, _, _, _, rfl, nz, N, L2, le3, ?_⟩
    dsimp only [putS]
    rw [H.sgn, l1, l2]
    have par : k % 2 = 0 ∨ k % 2 = 1 := by omega
    rcases par with par | par
    · have e0 : (if k % 2 = 0 then (1 : Int) else -1) = 1 := if_pos par
      have e1 : (if (k + 1) % 2 = 0 then (1 : Int) else -1) = -1 := if_neg (by omega)
      have m2 : (0 + (k : Int)) % 2 = 0 := by omega
      rw [e0] at H Hn ⊢
      refine ⟨_, _, rfl, rfl, rfl, rfl, rfl, by decide, by decide, _, rfl, le2, _, _, rfl, rfl, t2, .int 1, by rw [m2]; rfl, _, _, rfl, rfl, t2, false, by show some (decide _) = _; rw [m2]; rfl, _, _, rfl, rfl, t2, true, by show some (decide _) = _; rw [m2]; rfl, le3, _, _, rfl, rfl, rfl, rfl, rfl, by decide, by decide, _, rfl, _, rfl, fun e => ?_, fun _ => ?_⟩
      · exfalso
        revert e
        decide
      · refine ⟨_, rfl, rfl, rfl, h, form part5, 500, 36, 500, 14, 500, rfl, N.C, nu_part.C, Fp, (N.go nu_part).go, ?_⟩
        dsimp only [putS]
        exact ih _ ⟨k + 1, _, _, _, _, _, rfl, by omega, by rw [e1]; exact Hn, rfl⟩
    · have e0 : (if k % 2 = 0 then (1 : Int) else -1) = -1 := if_neg (by omega)
      have e1 : (if (k + 1) % 2 = 0 then (1 : Int) else -1) = 1 := if_pos (by omega)
      have m2 : (0 + (k : Int)) % 2 = 1 := by omega
      rw [e0] at H Hn ⊢
      refine ⟨_, _, rfl, rfl, rfl, rfl, rfl, by decide, by decide, _, rfl, le2, _, _, rfl, rfl, t2, .int (-1), by rw [m2]; rfl, _, _, rfl, rfl, t2, true, by show some (decide _) = _; rw [m2]; rfl, _, _, rfl, rfl, t2, false, by show some (decide _) = _; rw [m2]; rfl, le3, _, _, rfl, rfl, rfl, rfl, rfl, by decide, by decide, _, rfl, _, rfl, fun e => ?_, fun _ => ?_⟩
      · exfalso
        revert e
        decide
      · refine ⟨_, rfl, rfl, rfl, h, form part5, 500, 36, 500, 14, 500, rfl, N.C, nu_part.C, Fp, (N.go nu_part).go, ?_⟩
        dsimp only [putS]
        exact ih _ ⟨k + 1, _, _, _, _, _, rfl, by omega, by rw [e1]; exact Hn, rfl⟩
end
end PH
namespace PH
open PySem PySem.Spec PyProof.Rows L2 DL RZ
abbrev s_law : Stmt := topS 40
abbrev N_sc_law : List Str := ["_law_script", "_law_deck_here", "_law_turn", "_law_five_here", "_law_due", "_law_here"]
theorem sc_law : FnScope N_sc_law ["_law_script"] (defScope s_law) := ⟨rfl, rfl, rfl, by decide +kernel, rfl, by decide +kernel, by decide +kernel⟩
section
variable {X : Cx} {k : Nat} {f : Addr} {fd : FuncData} {ps : List Str} {sp : Sp} {x : Str} {p pos : Pos} {e : Expr} {es : List Expr} {t : TA}
theorem pe_callG0 (F : FnG X.prog X.w X.K X.mg X.base CX0 k f fd ps sp) (hgu : X.A.guards = some []) (hr : Room k X.A) (hg : Gl X x) (hm : X.mg x = some (.ref f))
    (hk : PySem.W.keepIn X.K (.ref f) = true) (hb : Binds X.K fd ps []) (hdb : (x == ("__debug__" : Str)) = false := by decide) :
    PE X (.Call (.Name x p) [] [] pos) (tCall sp [] E0 tNil) := by
  constructor
  intro pins s σ H Q I h
  refine wpAny_Call_Name_kw (ld_glob I hg hm (PySem.W.callWith_K0 I.kIn hk ?_) hdb)
  have q : sp [] H Q E0 := h
  have hl := F.len _ _ _ _ q
  have hb' := hb s [] I.kIn (by simpa using hl)
  rw [List.append_nil] at hb'
  refine wpAny_call (codeAny_mono (F.run X.A X.stack s H ⟨[], []⟩ [] [] Q E0 hgu hr I.env0 hb' .nil q) ?_)
  intro r' s' hq
  match r', hq with
  | .error _, hq => exact hq.elim
  | .ok (.ret _), hq => exact I.after hq
  | .ok .next, hq => exact hq.elim
  | .ok .brk, hq => exact hq.elim
  | .ok .cont, hq => exact hq.elim
end
section
variable {P : Program} {w : World} {K : PySem.W.Frag} {mg : Str → Option Value} {base : Heap} {C NX NB PC : Addr}
def spLaw (K : PySem.W.Frag) : Sp := fun vs H Q _ => ∃ (a : Addr) (ns : List Int), vs = [.ref a] ∧ SqL K H a (ns.map V.int) ∧ ns.length ≤ 63 ∧ ∀ H', Q (.bl true) H'
theorem ok_law {f fDk fDr fFv fFm fNn fMd fSi fIs fRo fRR fNe fSg : Addr} {fd dDk dDr dFv dFm dNn dMd dSi dIs dRo dRR dNe dSg : FuncData} (F : Fun K "law" "law" s_law f fd) (T : TEx K mg C) (z_repr : mg "repr" = none) (z_range : mg "range" = none)
    (G__law_deck : FnOk P w K mg base CX0 1 fDk dDk ["_law_script"] (spDeck K)) (N__law_deck : Fns K mg fDk dDk "_law_deck" 20 ["_law_script"])
    (G__law_draw : FnOk P w K mg base CX0 1 fDr dDr ["_law_deck_here", "_law_many"] (spD K Deck 2 FDrw)) (N__law_draw : Fns K mg fDr dDr "_law_draw" 21 ["_law_deck_here", "_law_many"])
    (G__law_five : FnOk P w K mg base CX0 3 fFv dFv ["_law_deck_here"] (spD K Deck 1 FFive)) (N__law_five : Fns K mg fFv dFv "_law_five" 30 ["_law_deck_here"])
    (G__law_form : FnOk P w K mg base CX0 3 fFm dFm ["_law_upper", "_law_lower", "_law_mark", "_law_aloft", "_law_beneath"] (spD K Deck 5 FForm)) (N__law_form : Fns K mg fFm dFm "_law_form" 25 ["_law_upper", "_law_lower", "_law_mark", "_law_aloft", "_law_beneath"])
    (G__law_near_nought : FnOk P w K mg base CX0 4 fNn dNn ["_law_deck_here"] (spD K Deck 1 FNear)) (N__law_near_nought : Fns K mg fNn dNn "_law_near_nought" 36 ["_law_deck_here"])
    (G__law_made : FnOk P w K mg base (L2.CX P w) 5 fMd dMd ["_law_five_here"] (spD K Deck 1 (FMade C))) (N__law_made : Fns K mg fMd dMd "_law_made" 32 ["_law_five_here"])
    (G__law_sign : FnOk P w K mg base CX0 1 fSi dSi ["_law_five_here"] (spD K Deck 1 FSign)) (N__law_sign : Fns K mg fSi dSi "_law_sign" 35 ["_law_five_here"])
    (G__law_is : FnG P w K mg base CX0 2 fIs dIs ["_law_found", "_law_due"] (spD K Deck 2 (FIs C))) (N__law_is : Fns K mg fIs dIs "_law_is" 34 ["_law_found", "_law_due"])
    (G__law_row : FnOk P w K mg base CX0 5 fRo dRo ["_law_deck_here"] (spD K Deck 1 FRow)) (N__law_row : Fns K mg fRo dRo "_law_row" 37 ["_law_deck_here"])
    (G__law_row_right : FnG P w K mg base CX0 9 fRR dRR ["_law_row_here"] (spD K Deck 1 FRowR)) (N__law_row_right : Fns K mg fRR dRR "_law_row_right" 38 ["_law_row_here"])
    (G__law_nearest_right : FnG P w K mg base CX0 9 fNe dNe [] (spD K Deck 0 FNearest)) (N__law_nearest_right : Fns K mg fNe dNe "_law_nearest_right" 39 [])
    (G_sign_of : FnOk P w K mg base CX0 2 fSg dSg ["self"] (spD K Deck 1 (FSgn C))) (M_sign_of : Mth K C fSg dSg "sign_of" "Exact.sign_of" 8 ["self"]) :
    FnG P w K mg base CX0 10 f fd ["_law_script"] (spLaw K) := by
  refine Fun.okG F sc_law ?_ ?_
  · rintro vs H Q E ⟨a, ns, rfl, _⟩
    rfl
  intro cdv A outer s H vs Q E hg hr h
  obtain ⟨a, ns, rfl, hs, hl, hQ⟩ := h
  have le2 : 2 ≤ 1000000 := by decide
  have le1 : 1 ≤ 1000000 := by decide
  refine ⟨_, pss_cons (ps_set (i := 1) sc_law.nd rfl (Or.inl rfl) (pe_call G__law_deck (hr.mono (by decide)) rfl N__law_deck.m N__law_deck.F.kp N__law_deck.b .nil pass0 (pa_cons (pv 0) pa_nil)))
    (ss_x (K := K) (DkAt := Deck) fun dk H0 G0 => (ss_cons (s_if (b_not (b_val (d_call0 (pe_callG0 G__law_nearest_right hg (hr.mono (by decide)) rfl N__law_nearest_right.m N__law_nearest_right.F.kp N__law_nearest_right.b)))) (ss_one (s_ret d_bl)) ss_nil)
    (ss_cons (s_for (vs := [2]) (ps_for PassesOwn.never rfl (i_rng1 (pi_range1 rfl z_range (a_cons d_int a_nil))) (g_name (vs := [2]) (pg_name (i := 2) sc_law.nd rfl (Or.inl rfl)))
    (ss_cons (s_set (i := 3) (ps_set (i := 3) sc_law.nd rfl (Or.inl rfl) (d_call (pe_call G__law_five (hr.mono (by decide)) rfl N__law_five.m N__law_five.F.kp N__law_five.b .nil pass0 (a_cons (d_var 1 (pv 1)) a_nil)))))
    (ss_cons (s_set (i := 4) (ps_set (i := 4) sc_law.nd rfl (Or.inl rfl) (d_call (pe_call G__law_form (hr.mono (by decide)) rfl N__law_form.m N__law_form.F.kp N__law_form.b .nil pass0 (a_cons (d_item rfl (d_var 3 (pv 3)) d_int (fun _ _ => rfl)) (a_cons (d_item rfl (d_var 3 (pv 3)) d_int (fun _ _ => rfl)) (a_cons (d_item rfl (d_var 3 (pv 3)) d_int (fun _ _ => rfl)) (a_cons (d_item rfl (d_var 3 (pv 3)) d_int (fun _ _ => rfl)) (a_cons (d_item rfl (d_var 3 (pv 3)) d_int (fun _ _ => rfl)) a_nil)))))))))
    (ss_cut (s_if (b_cmp op_eq ok_eq (d_call (pe_call G__law_draw (hr.mono (by decide)) rfl N__law_draw.m N__law_draw.F.kp N__law_draw.b .nil pass0 (a_cons (d_var 1 (pv 1)) (a_cons d_int a_nil)))) d_int (nomark _)) (ss_one (s_set (i := 4) (ps_set (i := 4) sc_law.nd rfl (Or.inl rfl) (d_call (pe_call G__law_near_nought (hr.mono (by decide)) rfl N__law_near_nought.m N__law_near_nought.F.kp N__law_near_nought.b .nil pass0 (a_cons (d_var 1 (pv 1)) a_nil)))))) ss_nil)
    (ss_cons (s_set (i := 5) (ps_set (i := 5) sc_law.nd rfl (Or.inl rfl) (d_call (pe_call G__law_made (hr.mono (by decide)) rfl N__law_made.m N__law_made.F.kp N__law_made.b .nil passX0 (a_cons (d_var 4 (pv 4)) a_nil)))))
    (ss_one (s_if (PW.pt (bw_or (b_cmp op_ne ok_ne (d_cb (ok_repr rfl) (pe_callB (PH.cr_repr hg hr) (by rfl) z_repr (by decide +kernel) (a_cons (d_f (f_lst (a_cons (d_meth0 (pe_meth0 (d_var 5 (pv 5)) T.cl M_sign_of.m G_sign_of (hr.mono (by decide)) M_sign_of.b .nil pass0)) (a_cons (d_meth0 (pe_meth0 (d_var 5 (pv 5)) T.cl M_sign_of.m G_sign_of (hr.mono (by decide)) M_sign_of.b .nil pass0)) a_nil)))) a_nil))) (d_cb (ok_repr rfl) (pe_callB (PH.cr_repr hg hr) (by rfl) z_repr (by decide +kernel) (a_cons (d_f (f_rep (d_f (f_lst (a_cons (d_call (pe_call G__law_sign (hr.mono (by decide)) rfl N__law_sign.m N__law_sign.F.kp N__law_sign.b .nil pass0 (a_cons (d_var 4 (pv 4)) a_nil))) a_nil))) d_int)) a_nil))) (nomark _)) (bw_or1 (b_not (b_val (d_call (pe_callG G__law_is hg (hr.mono (by decide)) rfl N__law_is.m N__law_is.F.kp N__law_is.b (a_cons (d_var 5 (pv 5)) (a_cons (d_var 4 (pv 4)) a_nil))))))))) (ss_one (s_ret d_bl)) ss_nil))))))))
    (ss_one (s_ret (d_and (d_call (pe_callG G__law_row_right hg (hr.mono (by decide)) rfl N__law_row_right.m N__law_row_right.F.kp N__law_row_right.b (a_cons (d_call (pe_call G__law_row (hr.mono (by decide)) rfl N__law_row.m N__law_row.F.kp N__law_row.b .nil pass0 (a_cons (d_var 1 (pv 1)) a_nil))) a_nil))) (d_one (d_call (pe_callG G__law_row_right hg (hr.mono (by decide)) rfl N__law_row_right.m N__law_row_right.F.kp N__law_row_right.b (a_cons (d_call (pe_call G__law_row (hr.mono (by decide)) rfl N__law_row.m N__law_row.F.kp N__law_row.b .nil pass0 (a_cons (d_var 1 (pv 1)) a_nil))) a_nil)))))))))), ?_⟩
  refine ⟨_, rfl, ?_⟩
  dsimp only [tNil, tC, tCons]
  refine ⟨a, ns, rfl, hs, hl, fun H1 d c s1 nd nc Dk => ?_⟩
  refine ⟨some (d, c), H1, noDk H1 d c, noDk H1 d c, [.un, .fz .dk, .un, .un, .un, .un], ⟨fun _ => False, fun r => r = .bl true, fun _ => False, fun _ => False⟩, deck_in deckLaw Dk rfl ?_, ?_, ?_⟩
  · intro i s e
    match i, e with
    | 0, e => exact .inl (by simpa using e.symm)
    | 1, e => exact .inr ⟨by simpa using e.symm, rfl⟩
    | i + 2, e =>
      refine .inl ?_
      have := List.mem_of_getElem? e
      simp at e
      have h2 := List.mem_of_getElem? e
      simpa using h2
  · refine ⟨rfl, rfl, _, rfl, fun e => (nomatch e), fun _ => ?_⟩
    refine ⟨12, rfl, by decide, by decide, ?_⟩
    refine for_inv (fun γ => ∃ o2 o3 o4 o5 : Sl, γ = [.un, .fz .dk, o2, o3, o4, o5]) ?_ ?_ _ _ ⟨_, _, _, _, rfl⟩
    · rintro γ ⟨o2, o3, o4, o5, rfl⟩
      refine ⟨rfl, rfl, fun r L hn hL => ⟨rfl, r, L, rfl, hn, hL, ?_⟩⟩
      refine ⟨true, rfl, fun _ => ?_, fun e => (nomatch e)⟩
      exact ⟨rfl, rfl, fun r L hn hL => ⟨rfl, r, L, rfl, hn, hL, rfl⟩⟩
    · rintro dd ds γ ⟨o2, o3, o4, o5, rfl⟩ ih
      refine ⟨rfl, rfl, fun f Rf Sf => ?_⟩
      dsimp only [putS]
      refine ⟨_, rfl, _, rfl, _, rfl, _, rfl, _, rfl, rfl, f, rfl, Rf, small_wide Rf Sf, ?_⟩
      dsimp only [putS]
      refine ⟨fun γ => ∃ g : Five, Right g ∧ Bd 24 14 g ∧ γ = [.un, .fz .dk, .fz dd, .fz (fiveT f), .fz (fiveT (form g)), o5], ?_, ?_⟩
      · refine ⟨rfl, 2, rfl, by decide, by decide, fun w0 p0 p1 => ⟨_, rfl, _, rfl, fun _ => ?_, fun _ => ?_⟩⟩
        · refine ⟨rfl, rfl, fun g Rg Bg => ?_⟩
          exact ⟨g, Rg, Bg, rfl⟩
        · exact ⟨f, Rf, (small_bd Rf Sf).mono (by decide) (by decide), rfl⟩
      · rintro γ ⟨g, Rg, Bg, rfl⟩
        have Cg := canon_form Rg
        have B := Bg.form Rg (by decide)
        refine ⟨rfl, form g, rfl, canon_right Cg, B.wide (by decide) (by decide), ?_⟩
        rw [form_canon Cg]
        dsimp only [putS]
        refine ⟨_, rfl, rfl, rfl, form g, rfl, B.wds (by decide) (by decide), _, rfl, rfl, rfl, form g, rfl, B.wds (by decide) (by decide), le2, ?_⟩
        obtain ⟨s, hs⟩ : ∃ s, sgnF (form g) = s := ⟨_, rfl⟩
        have s3 : s = -1 ∨ s = 0 ∨ s = 1 := by
          rw [← hs]
          unfold sgnF
          split
          · exact sgI_or _
          · exact (canon_right Cg).m
        have hs2 : lsgn (form g) = s := by rw [lsgn_eq Cg, hs]
        rw [hs]
        have Tg : Tiny (form g) := B.tiny Cg (by decide) (by decide)
        have Bg5 : Bd 1000 500 (form g) := B.mono (by decide) (by decide)
        clear hs
        rcases s3 with rfl | rfl | rfl
        all_goals
          refine ⟨_, _, rfl, rfl, rfl, rfl, rfl, by decide, by decide, rfl, form g, rfl, Cg, Bg5, ?_⟩
          rw [hs2]
          refine ⟨le1, _, _, rfl, rfl, by decide, by decide, by decide, _, _, rfl, rfl, rfl, rfl, rfl, by decide, by decide, _, rfl, _, rfl, fun e => ?_, fun _ => ?_⟩
          · exfalso
            simp only [decide_true, Bool.not_true, Bool.false_eq_true] at e
          · refine ⟨rfl, form g, rfl, Tg, true, rfl, fun e => (nomatch e), fun _ => ?_⟩
            exact ih _ ⟨_, _, _, _, rfl⟩
  · exact ⟨fun _ _ _ _ q => q.elim, fun r γ G' σ v H' q _ _ rv => by
      subst q
      cases rpBl rv
      exact hQ H', fun _ _ _ _ q => q.elim, fun _ _ _ _ q => q.elim⟩
end
end PH
namespace PH
open PySem PySem.Spec PyProof.Rows L2 DL
theorem fns_mk {K : PySem.W.Frag} {h : Heap} {mg : Str → Option Value} {x : Str} {i : Nat} {ps : List Str} {f : Addr} {oc : Value} {od an : Option Addr} {osl : Array (Option Value)} {kV doc pm cdv ct : Value} (X : K.In h) (G : h.Ns mainGlobals mg)
    (a : PySem.W.nsIn K mainGlobals x = some (some (.ref f)))
    (l : K.lookup f = some ⟨oc, od, .func (PySem.W.fnOf x x (defArgs (topS i)) (defBody (topS i)) (defScope (topS i)) .none kV doc pm an cdv ct), osl⟩) (c : PySem.W.codeIn K cdv x = true) (k : PySem.W.keepIn K (.ref f) = true)
    (hb : ∀ (kV doc pm : Value) (an : Option Addr) (cdv ct : Value) (us : List Value), us.length = ps.length → bindArgs (PySem.W.fnOf x x (defArgs (topS i)) (defBody (topS i)) (defScope (topS i)) .none kV doc pm an cdv ct) ⟨us, []⟩ = pure (ps.zip us)) :
    Fns K mg f (PySem.W.fnOf x x (defArgs (topS i)) (defBody (topS i)) (defScope (topS i)) .none kV doc pm an cdv ct) x i ps :=
  ⟨fun_mk (st := topS i) l c k, (fun_mk (st := topS i) l c k).binds hb, PySem.W.mg_of X G a⟩
theorem all_mk {P : Program} {w : World} {K : PySem.W.Frag} {h : Heap} {mg : Str → Option Value} {fa : Addr} (X : K.In h) (G : h.Ns mainGlobals mg) (hfa : mg "law" = some (.ref fa))
    {f7 f8 f9 f10 f13 f14 f15 f16 f20 f21 f22 f23 f24 f25 f26 f27 f28 f29 f30 f31 f32 f33 f34 f35 f36 f37 f38 f39 f40 C fI TI DI NX fm1 fm4 fm5 fm6 fm8 fm9 : Addr} {od7 an7 od8 an8 od9 an9 od10 an10 od13 an13 od14 an14 od15 an15 od16 an16 od20 an20 od21 an21 od22 an22 od23 an23 od24 an24 od25 an25 od26 an26 od27 an27 od28 an28 od29 an29 od30 an30 od31 an31 od32 an32 od33 an33 od34 an34 od35 an35 od36 an36 od37 an37 od38 an38 od39 an39 od40 an40 odI anI odT odm1 anm1 odm4 anm4 odm5 anm5 odm6 anm6 odm8 anm8 odm9 anm9 : Option Addr} {sl7 sl8 sl9 sl10 sl13 sl14 sl15 sl16 sl20 sl21 sl22 sl23 sl24 sl25 sl26 sl27 sl28 sl29 sl30 sl31 sl32 sl33 sl34 sl35 sl36 sl37 sl38 sl39 sl40 slI slT slm1 slm4 slm5 slm6 slm8 slm9 : Array (Option Value)} {oc7 kV7 dc7 pm7 cd7 ct7 oc8 kV8 dc8 pm8 cd8 ct8 oc9 kV9 dc9 pm9 cd9 ct9 oc10 kV10 dc10 pm10 cd10 ct10 oc13 kV13 dc13 pm13 cd13 ct13 oc14 kV14 dc14 pm14 cd14 ct14 oc15 kV15 dc15 pm15 cd15 ct15 oc16 kV16 dc16 pm16 cd16 ct16 oc20 kV20 dc20 pm20 cd20 ct20 oc21 kV21 dc21 pm21 cd21 ct21 oc22 kV22 dc22 pm22 cd22 ct22 oc23 kV23 dc23 pm23 cd23 ct23 oc24 kV24 dc24 pm24 cd24 ct24 oc25 kV25 dc25 pm25 cd25 ct25 oc26 kV26 dc26 pm26 cd26 ct26 oc27 kV27 dc27 pm27 cd27 ct27 oc28 kV28 dc28 pm28 cd28 ct28 oc29 kV29 dc29 pm29 cd29 ct29 oc30 kV30 dc30 pm30 cd30 ct30 oc31 kV31 dc31 pm31 cd31 ct31 oc32 kV32 dc32 pm32 cd32 ct32 oc33 kV33 dc33 pm33 cd33 ct33 oc34 kV34 dc34 pm34 cd34 ct34 oc35 kV35 dc35 pm35 cd35 ct35 oc36 kV36 dc36 pm36 cd36 ct36 oc37 kV37 dc37 pm37 cd37 ct37 oc38 kV38 dc38 pm38 cd38 ct38 oc39 kV39 dc39 pm39 cd39 ct39 oc40 kV40 dc40 pm40 cd40 ct40 ocI dcI pmI cdI ctI ocT ocm1 kVm1 dcm1 pmm1 cdm1 ctm1 ocm4 kVm4 dcm4 pmm4 cdm4 ctm4 ocm5 kVm5 dcm5 pmm5 cdm5 ctm5 ocm6 kVm6 dcm6 pmm6 cdm6 ctm6 ocm8 kVm8 dcm8 pmm8 cdm8 ctm8 ocm9 kVm9 dcm9 pmm9 cdm9 ctm9 : Value} {tkT tksign tkover tkunder : Tok} {nT : Nat} 
    (a7 : PySem.W.nsIn K mainGlobals "is_whole" = some (some (.ref f7)))
    (l7 : K.lookup f7 = some ⟨oc7, od7, .func (PySem.W.fnOf "is_whole" "is_whole" (defArgs (topS 7)) (defBody (topS 7)) (defScope (topS 7)) .none kV7 dc7 pm7 an7 cd7 ct7), sl7⟩)
    (c7 : PySem.W.codeIn K cd7 "is_whole" = true)
    (k7 : PySem.W.keepIn K (.ref f7) = true)
    (a8 : PySem.W.nsIn K mainGlobals "sign_of_whole" = some (some (.ref f8)))
    (l8 : K.lookup f8 = some ⟨oc8, od8, .func (PySem.W.fnOf "sign_of_whole" "sign_of_whole" (defArgs (topS 8)) (defBody (topS 8)) (defScope (topS 8)) .none kV8 dc8 pm8 an8 cd8 ct8), sl8⟩)
    (c8 : PySem.W.codeIn K cd8 "sign_of_whole" = true)
    (k8 : PySem.W.keepIn K (.ref f8) = true)
    (a9 : PySem.W.nsIn K mainGlobals "lowest_terms" = some (some (.ref f9)))
    (l9 : K.lookup f9 = some ⟨oc9, od9, .func (PySem.W.fnOf "lowest_terms" "lowest_terms" (defArgs (topS 9)) (defBody (topS 9)) (defScope (topS 9)) .none kV9 dc9 pm9 an9 cd9 ct9), sl9⟩)
    (c9 : PySem.W.codeIn K cd9 "lowest_terms" = true)
    (k9 : PySem.W.keepIn K (.ref f9) = true)
    (a10 : PySem.W.nsIn K mainGlobals "is_square" = some (some (.ref f10)))
    (l10 : K.lookup f10 = some ⟨oc10, od10, .func (PySem.W.fnOf "is_square" "is_square" (defArgs (topS 10)) (defBody (topS 10)) (defScope (topS 10)) .none kV10 dc10 pm10 an10 cd10 ct10), sl10⟩)
    (c10 : PySem.W.codeIn K cd10 "is_square" = true)
    (k10 : PySem.W.keepIn K (.ref f10) = true)
    (a13 : PySem.W.nsIn K mainGlobals "are_fields" = some (some (.ref f13)))
    (l13 : K.lookup f13 = some ⟨oc13, od13, .func (PySem.W.fnOf "are_fields" "are_fields" (defArgs (topS 13)) (defBody (topS 13)) (defScope (topS 13)) .none kV13 dc13 pm13 an13 cd13 ct13), sl13⟩)
    (c13 : PySem.W.codeIn K cd13 "are_fields" = true)
    (k13 : PySem.W.keepIn K (.ref f13) = true)
    (a14 : PySem.W.nsIn K mainGlobals "go_together" = some (some (.ref f14)))
    (l14 : K.lookup f14 = some ⟨oc14, od14, .func (PySem.W.fnOf "go_together" "go_together" (defArgs (topS 14)) (defBody (topS 14)) (defScope (topS 14)) .none kV14 dc14 pm14 an14 cd14 ct14), sl14⟩)
    (c14 : PySem.W.codeIn K cd14 "go_together" = true)
    (k14 : PySem.W.keepIn K (.ref f14) = true)
    (a15 : PySem.W.nsIn K mainGlobals "on_one_root" = some (some (.ref f15)))
    (l15 : K.lookup f15 = some ⟨oc15, od15, .func (PySem.W.fnOf "on_one_root" "on_one_root" (defArgs (topS 15)) (defBody (topS 15)) (defScope (topS 15)) .none kV15 dc15 pm15 an15 cd15 ct15), sl15⟩)
    (c15 : PySem.W.codeIn K cd15 "on_one_root" = true)
    (k15 : PySem.W.keepIn K (.ref f15) = true)
    (a16 : PySem.W.nsIn K mainGlobals "with_root" = some (some (.ref f16)))
    (l16 : K.lookup f16 = some ⟨oc16, od16, .func (PySem.W.fnOf "with_root" "with_root" (defArgs (topS 16)) (defBody (topS 16)) (defScope (topS 16)) .none kV16 dc16 pm16 an16 cd16 ct16), sl16⟩)
    (c16 : PySem.W.codeIn K cd16 "with_root" = true)
    (k16 : PySem.W.keepIn K (.ref f16) = true)
    (a20 : PySem.W.nsIn K mainGlobals "_law_deck" = some (some (.ref f20)))
    (l20 : K.lookup f20 = some ⟨oc20, od20, .func (PySem.W.fnOf "_law_deck" "_law_deck" (defArgs (topS 20)) (defBody (topS 20)) (defScope (topS 20)) .none kV20 dc20 pm20 an20 cd20 ct20), sl20⟩)
    (c20 : PySem.W.codeIn K cd20 "_law_deck" = true)
    (k20 : PySem.W.keepIn K (.ref f20) = true)
    (a21 : PySem.W.nsIn K mainGlobals "_law_draw" = some (some (.ref f21)))
    (l21 : K.lookup f21 = some ⟨oc21, od21, .func (PySem.W.fnOf "_law_draw" "_law_draw" (defArgs (topS 21)) (defBody (topS 21)) (defScope (topS 21)) .none kV21 dc21 pm21 an21 cd21 ct21), sl21⟩)
    (c21 : PySem.W.codeIn K cd21 "_law_draw" = true)
    (k21 : PySem.W.keepIn K (.ref f21) = true)
    (a22 : PySem.W.nsIn K mainGlobals "_law_lowest" = some (some (.ref f22)))
    (l22 : K.lookup f22 = some ⟨oc22, od22, .func (PySem.W.fnOf "_law_lowest" "_law_lowest" (defArgs (topS 22)) (defBody (topS 22)) (defScope (topS 22)) .none kV22 dc22 pm22 an22 cd22 ct22), sl22⟩)
    (c22 : PySem.W.codeIn K cd22 "_law_lowest" = true)
    (k22 : PySem.W.keepIn K (.ref f22) = true)
    (a23 : PySem.W.nsIn K mainGlobals "_law_square_root" = some (some (.ref f23)))
    (l23 : K.lookup f23 = some ⟨oc23, od23, .func (PySem.W.fnOf "_law_square_root" "_law_square_root" (defArgs (topS 23)) (defBody (topS 23)) (defScope (topS 23)) .none kV23 dc23 pm23 an23 cd23 ct23), sl23⟩)
    (c23 : PySem.W.codeIn K cd23 "_law_square_root" = true)
    (k23 : PySem.W.keepIn K (.ref f23) = true)
    (a24 : PySem.W.nsIn K mainGlobals "_law_root" = some (some (.ref f24)))
    (l24 : K.lookup f24 = some ⟨oc24, od24, .func (PySem.W.fnOf "_law_root" "_law_root" (defArgs (topS 24)) (defBody (topS 24)) (defScope (topS 24)) .none kV24 dc24 pm24 an24 cd24 ct24), sl24⟩)
    (c24 : PySem.W.codeIn K cd24 "_law_root" = true)
    (k24 : PySem.W.keepIn K (.ref f24) = true)
    (a25 : PySem.W.nsIn K mainGlobals "_law_form" = some (some (.ref f25)))
    (l25 : K.lookup f25 = some ⟨oc25, od25, .func (PySem.W.fnOf "_law_form" "_law_form" (defArgs (topS 25)) (defBody (topS 25)) (defScope (topS 25)) .none kV25 dc25 pm25 an25 cd25 ct25), sl25⟩)
    (c25 : PySem.W.codeIn K cd25 "_law_form" = true)
    (k25 : PySem.W.keepIn K (.ref f25) = true)
    (a26 : PySem.W.nsIn K mainGlobals "_law_ratio" = some (some (.ref f26)))
    (l26 : K.lookup f26 = some ⟨oc26, od26, .func (PySem.W.fnOf "_law_ratio" "_law_ratio" (defArgs (topS 26)) (defBody (topS 26)) (defScope (topS 26)) .none kV26 dc26 pm26 an26 cd26 ct26), sl26⟩)
    (c26 : PySem.W.codeIn K cd26 "_law_ratio" = true)
    (k26 : PySem.W.keepIn K (.ref f26) = true)
    (a27 : PySem.W.nsIn K mainGlobals "_law_of_parts" = some (some (.ref f27)))
    (l27 : K.lookup f27 = some ⟨oc27, od27, .func (PySem.W.fnOf "_law_of_parts" "_law_of_parts" (defArgs (topS 27)) (defBody (topS 27)) (defScope (topS 27)) .none kV27 dc27 pm27 an27 cd27 ct27), sl27⟩)
    (c27 : PySem.W.codeIn K cd27 "_law_of_parts" = true)
    (k27 : PySem.W.keepIn K (.ref f27) = true)
    (a28 : PySem.W.nsIn K mainGlobals "_law_added" = some (some (.ref f28)))
    (l28 : K.lookup f28 = some ⟨oc28, od28, .func (PySem.W.fnOf "_law_added" "_law_added" (defArgs (topS 28)) (defBody (topS 28)) (defScope (topS 28)) .none kV28 dc28 pm28 an28 cd28 ct28), sl28⟩)
    (c28 : PySem.W.codeIn K cd28 "_law_added" = true)
    (k28 : PySem.W.keepIn K (.ref f28) = true)
    (a29 : PySem.W.nsIn K mainGlobals "_law_whole" = some (some (.ref f29)))
    (l29 : K.lookup f29 = some ⟨oc29, od29, .func (PySem.W.fnOf "_law_whole" "_law_whole" (defArgs (topS 29)) (defBody (topS 29)) (defScope (topS 29)) .none kV29 dc29 pm29 an29 cd29 ct29), sl29⟩)
    (c29 : PySem.W.codeIn K cd29 "_law_whole" = true)
    (k29 : PySem.W.keepIn K (.ref f29) = true)
    (a30 : PySem.W.nsIn K mainGlobals "_law_five" = some (some (.ref f30)))
    (l30 : K.lookup f30 = some ⟨oc30, od30, .func (PySem.W.fnOf "_law_five" "_law_five" (defArgs (topS 30)) (defBody (topS 30)) (defScope (topS 30)) .none kV30 dc30 pm30 an30 cd30 ct30), sl30⟩)
    (c30 : PySem.W.codeIn K cd30 "_law_five" = true)
    (k30 : PySem.W.keepIn K (.ref f30) = true)
    (a31 : PySem.W.nsIn K mainGlobals "_law_like" = some (some (.ref f31)))
    (l31 : K.lookup f31 = some ⟨oc31, od31, .func (PySem.W.fnOf "_law_like" "_law_like" (defArgs (topS 31)) (defBody (topS 31)) (defScope (topS 31)) .none kV31 dc31 pm31 an31 cd31 ct31), sl31⟩)
    (c31 : PySem.W.codeIn K cd31 "_law_like" = true)
    (k31 : PySem.W.keepIn K (.ref f31) = true)
    (a32 : PySem.W.nsIn K mainGlobals "_law_made" = some (some (.ref f32)))
    (l32 : K.lookup f32 = some ⟨oc32, od32, .func (PySem.W.fnOf "_law_made" "_law_made" (defArgs (topS 32)) (defBody (topS 32)) (defScope (topS 32)) .none kV32 dc32 pm32 an32 cd32 ct32), sl32⟩)
    (c32 : PySem.W.codeIn K cd32 "_law_made" = true)
    (k32 : PySem.W.keepIn K (.ref f32) = true)
    (a33 : PySem.W.nsIn K mainGlobals "_law_fields" = some (some (.ref f33)))
    (l33 : K.lookup f33 = some ⟨oc33, od33, .func (PySem.W.fnOf "_law_fields" "_law_fields" (defArgs (topS 33)) (defBody (topS 33)) (defScope (topS 33)) .none kV33 dc33 pm33 an33 cd33 ct33), sl33⟩)
    (c33 : PySem.W.codeIn K cd33 "_law_fields" = true)
    (k33 : PySem.W.keepIn K (.ref f33) = true)
    (a34 : PySem.W.nsIn K mainGlobals "_law_is" = some (some (.ref f34)))
    (l34 : K.lookup f34 = some ⟨oc34, od34, .func (PySem.W.fnOf "_law_is" "_law_is" (defArgs (topS 34)) (defBody (topS 34)) (defScope (topS 34)) .none kV34 dc34 pm34 an34 cd34 ct34), sl34⟩)
    (c34 : PySem.W.codeIn K cd34 "_law_is" = true)
    (k34 : PySem.W.keepIn K (.ref f34) = true)
    (a35 : PySem.W.nsIn K mainGlobals "_law_sign" = some (some (.ref f35)))
    (l35 : K.lookup f35 = some ⟨oc35, od35, .func (PySem.W.fnOf "_law_sign" "_law_sign" (defArgs (topS 35)) (defBody (topS 35)) (defScope (topS 35)) .none kV35 dc35 pm35 an35 cd35 ct35), sl35⟩)
    (c35 : PySem.W.codeIn K cd35 "_law_sign" = true)
    (k35 : PySem.W.keepIn K (.ref f35) = true)
    (a36 : PySem.W.nsIn K mainGlobals "_law_near_nought" = some (some (.ref f36)))
    (l36 : K.lookup f36 = some ⟨oc36, od36, .func (PySem.W.fnOf "_law_near_nought" "_law_near_nought" (defArgs (topS 36)) (defBody (topS 36)) (defScope (topS 36)) .none kV36 dc36 pm36 an36 cd36 ct36), sl36⟩)
    (c36 : PySem.W.codeIn K cd36 "_law_near_nought" = true)
    (k36 : PySem.W.keepIn K (.ref f36) = true)
    (a37 : PySem.W.nsIn K mainGlobals "_law_row" = some (some (.ref f37)))
    (l37 : K.lookup f37 = some ⟨oc37, od37, .func (PySem.W.fnOf "_law_row" "_law_row" (defArgs (topS 37)) (defBody (topS 37)) (defScope (topS 37)) .none kV37 dc37 pm37 an37 cd37 ct37), sl37⟩)
    (c37 : PySem.W.codeIn K cd37 "_law_row" = true)
    (k37 : PySem.W.keepIn K (.ref f37) = true)
    (a38 : PySem.W.nsIn K mainGlobals "_law_row_right" = some (some (.ref f38)))
    (l38 : K.lookup f38 = some ⟨oc38, od38, .func (PySem.W.fnOf "_law_row_right" "_law_row_right" (defArgs (topS 38)) (defBody (topS 38)) (defScope (topS 38)) .none kV38 dc38 pm38 an38 cd38 ct38), sl38⟩)
    (c38 : PySem.W.codeIn K cd38 "_law_row_right" = true)
    (k38 : PySem.W.keepIn K (.ref f38) = true)
    (a39 : PySem.W.nsIn K mainGlobals "_law_nearest_right" = some (some (.ref f39)))
    (l39 : K.lookup f39 = some ⟨oc39, od39, .func (PySem.W.fnOf "_law_nearest_right" "_law_nearest_right" (defArgs (topS 39)) (defBody (topS 39)) (defScope (topS 39)) .none kV39 dc39 pm39 an39 cd39 ct39), sl39⟩)
    (c39 : PySem.W.codeIn K cd39 "_law_nearest_right" = true)
    (k39 : PySem.W.keepIn K (.ref f39) = true)
    (a40 : PySem.W.nsIn K mainGlobals "law" = some (some (.ref f40)))
    (l40 : K.lookup f40 = some ⟨oc40, od40, .func (PySem.W.fnOf "law" "law" (defArgs (topS 40)) (defBody (topS 40)) (defScope (topS 40)) .none kV40 dc40 pm40 an40 cd40 ct40), sl40⟩)
    (c40 : PySem.W.codeIn K cd40 "law" = true)
    (k40 : PySem.W.keepIn K (.ref f40) = true)
    (aC : PySem.W.nsIn K mainGlobals "Exact" = some (some (.ref C)))
    (iC : PySem.W.findIn K (.ref C) "__init__" = some (some (.ref fI)))
    (iF : PySem.W.isFn K (.ref fI) = true)
    (lI : K.lookup fI = some ⟨ocI, odI, .func (PySem.W.fnOf "__init__" "Exact.__init__" (defArgs sInit) (defBody sInit) (defScope sInit) (.ref TI) (.ref DI) dcI pmI anI cdI ctI), slI⟩)
    (cI : PySem.W.codeIn K cdI "Exact.__init__" = true)
    (kI : PySem.W.keepIn K (.ref fI) = true)
    (lT : K.lookup TI = some ⟨ocT, odT, .seq #[.int 1 tkT] nT, slT⟩)
    (dsign : PySem.W.nsIn K DI "sign" = some (some (.int 0 tksign)))
    (dover : PySem.W.nsIn K DI "over" = some (some (.int 0 tkover)))
    (dunder : PySem.W.nsIn K DI "under" = some (some (.int 1 tkunder)))
    (pgC : PySem.W.plainGet K C Str.empty = true)
    (hdC : PySem.W.hasDictIn K C = true)
    (poC : PySem.W.plainOver K C = true)
    (saC : PySem.W.findIn K (.ref C) "__setattr__" = some (some (.builtin "object.__setattr__")))
    (mkC : PySem.W.makesIn K C = true)
    (kcC : PySem.W.keepIn K (.ref C) = true)
    (ntop : PySem.W.findIn K (.ref C) "top" = some none)
    (nbottom : PySem.W.findIn K (.ref C) "bottom" = some none)
    (nsign : PySem.W.findIn K (.ref C) "sign" = some none)
    (nover : PySem.W.findIn K (.ref C) "over" = some none)
    (nunder : PySem.W.findIn K (.ref C) "under" = some none)
    (haC : PySem.W.findIn K (.ref C) "__class__" = some (some (.builtin "object.__class__")))
    (hnC : PySem.W.specialIn K (.builtin "object.__class__") "__get__" = some (some (.builtin "getset_descriptor.__get__")))
    (htC : PySem.W.takesIn K (.builtin "object.__class__") = some true)
    (hmC : PySem.W.mroIn K C (.type "object") = some true)
    (kiC : PySem.W.kitOne K (.ref C) (.type "int") = some false)
    (kcc : PySem.W.kitOne K (.ref C) (.ref C) = some true)
    (kbC : PySem.W.kitOne K (.ref C) (.type "bool") = some false)
    (aN : PySem.W.nsIn K mainGlobals "NoExact" = some (some (.ref NX)))
    (xN : PySem.W.excIn K NX [.type "ValueError", .type "Exception", .type "BaseException", .type "object"] "ValueError.__new__" = true)
    (kN : PySem.W.keepIn K (.ref NX) = true)
    (bN : PySem.W.subIn K (.ref NX) (.type "BaseException") = some true)
    (tN : PySem.W.typeIn K (.ref NX) = some (.type "type"))
    (am1 : PySem.W.findIn K (.ref C) "__eq__" = some (some (.ref fm1)))
    (lm1 : K.lookup fm1 = some ⟨ocm1, odm1, .func (PySem.W.fnOf "__eq__" "Exact.__eq__" (defArgs (inClass (topS 12) 1)) (defBody (inClass (topS 12) 1)) (defScope (inClass (topS 12) 1)) .none kVm1 dcm1 pmm1 anm1 cdm1 ctm1), slm1⟩)
    (cm1 : PySem.W.codeIn K cdm1 "Exact.__eq__" = true)
    (km1 : PySem.W.keepIn K (.ref fm1) = true)
    (im1 : PySem.W.isFn K (.ref fm1) = true)
    (am4 : PySem.W.findIn K (.ref C) "plus" = some (some (.ref fm4)))
    (lm4 : K.lookup fm4 = some ⟨ocm4, odm4, .func (PySem.W.fnOf "plus" "Exact.plus" (defArgs (inClass (topS 12) 4)) (defBody (inClass (topS 12) 4)) (defScope (inClass (topS 12) 4)) .none kVm4 dcm4 pmm4 anm4 cdm4 ctm4), slm4⟩)
    (cm4 : PySem.W.codeIn K cdm4 "Exact.plus" = true)
    (km4 : PySem.W.keepIn K (.ref fm4) = true)
    (im4 : PySem.W.isFn K (.ref fm4) = true)
    (am5 : PySem.W.findIn K (.ref C) "minus" = some (some (.ref fm5)))
    (lm5 : K.lookup fm5 = some ⟨ocm5, odm5, .func (PySem.W.fnOf "minus" "Exact.minus" (defArgs (inClass (topS 12) 5)) (defBody (inClass (topS 12) 5)) (defScope (inClass (topS 12) 5)) .none kVm5 dcm5 pmm5 anm5 cdm5 ctm5), slm5⟩)
    (cm5 : PySem.W.codeIn K cdm5 "Exact.minus" = true)
    (km5 : PySem.W.keepIn K (.ref fm5) = true)
    (im5 : PySem.W.isFn K (.ref fm5) = true)
    (am6 : PySem.W.findIn K (.ref C) "times" = some (some (.ref fm6)))
    (lm6 : K.lookup fm6 = some ⟨ocm6, odm6, .func (PySem.W.fnOf "times" "Exact.times" (defArgs (inClass (topS 12) 6)) (defBody (inClass (topS 12) 6)) (defScope (inClass (topS 12) 6)) .none kVm6 dcm6 pmm6 anm6 cdm6 ctm6), slm6⟩)
    (cm6 : PySem.W.codeIn K cdm6 "Exact.times" = true)
    (km6 : PySem.W.keepIn K (.ref fm6) = true)
    (im6 : PySem.W.isFn K (.ref fm6) = true)
    (am8 : PySem.W.findIn K (.ref C) "sign_of" = some (some (.ref fm8)))
    (lm8 : K.lookup fm8 = some ⟨ocm8, odm8, .func (PySem.W.fnOf "sign_of" "Exact.sign_of" (defArgs (inClass (topS 12) 8)) (defBody (inClass (topS 12) 8)) (defScope (inClass (topS 12) 8)) .none kVm8 dcm8 pmm8 anm8 cdm8 ctm8), slm8⟩)
    (cm8 : PySem.W.codeIn K cdm8 "Exact.sign_of" = true)
    (km8 : PySem.W.keepIn K (.ref fm8) = true)
    (im8 : PySem.W.isFn K (.ref fm8) = true)
    (am9 : PySem.W.findIn K (.ref C) "is_less" = some (some (.ref fm9)))
    (lm9 : K.lookup fm9 = some ⟨ocm9, odm9, .func (PySem.W.fnOf "is_less" "Exact.is_less" (defArgs (inClass (topS 12) 9)) (defBody (inClass (topS 12) 9)) (defScope (inClass (topS 12) 9)) .none kVm9 dcm9 pmm9 anm9 cdm9 ctm9), slm9⟩)
    (cm9 : PySem.W.codeIn K cdm9 "Exact.is_less" = true)
    (km9 : PySem.W.keepIn K (.ref fm9) = true)
    (im9 : PySem.W.isFn K (.ref fm9) = true)
    (zisinstance : PySem.W.nsIn K mainGlobals "isinstance" = some none)
    (zint : PySem.W.nsIn K mainGlobals "int" = some none)
    (zbool : PySem.W.nsIn K mainGlobals "bool" = some none)
    (zall : PySem.W.nsIn K mainGlobals "all" = some none)
    (zabs : PySem.W.nsIn K mainGlobals "abs" = some none)
    (zlist : PySem.W.nsIn K mainGlobals "list" = some none)
    (zsum : PySem.W.nsIn K mainGlobals "sum" = some none)
    (zmin : PySem.W.nsIn K mainGlobals "min" = some none)
    (zrange : PySem.W.nsIn K mainGlobals "range" = some none)
    (zrepr : PySem.W.nsIn K mainGlobals "repr" = some none)
    (zgcd : PySem.W.nsIn K mainGlobals "gcd" = some (some (.builtin "math.gcd")))
    (zisqrt : PySem.W.nsIn K mainGlobals "isqrt" = some (some (.builtin "math.isqrt"))) :
    ∃ fd : FuncData, (∀ (s : Shared) (v : Value), BindsTo s fd ⟨[v], []⟩ [("_law_script", v)]) ∧ ∀ base : Heap, K.In base → base.Ns mainGlobals mg → FnG P w K mg base CX0 10 fa fd ["_law_script"] (spLaw K) := by
  have e := hfa.symm.trans (PySem.W.mg_of X G a40)
  cases e
  have N7 := fns_mk (i := 7) (ps := ["thing"]) X G a7 l7 c7 k7 fun _ _ _ _ _ _ us hl => match us, hl with | [_], _ => rfl
  have N8 := fns_mk (i := 8) (ps := ["number"]) X G a8 l8 c8 k8 fun _ _ _ _ _ _ us hl => match us, hl with | [_], _ => rfl
  have N9 := fns_mk (i := 9) (ps := ["top", "bottom"]) X G a9 l9 c9 k9 fun _ _ _ _ _ _ us hl => match us, hl with | [_, _], _ => rfl
  have N10 := fns_mk (i := 10) (ps := ["number"]) X G a10 l10 c10 k10 fun _ _ _ _ _ _ us hl => match us, hl with | [_], _ => rfl
  have N13 := fns_mk (i := 13) (ps := ["top", "bottom", "sign", "over", "under"]) X G a13 l13 c13 k13 fun _ _ _ _ _ _ us hl => match us, hl with | [_, _, _, _, _], _ => rfl
  have N14 := fns_mk (i := 14) (ps := ["one", "other"]) X G a14 l14 c14 k14 fun _ _ _ _ _ _ us hl => match us, hl with | [_, _], _ => rfl
  have N15 := fns_mk (i := 15) (ps := ["one", "other"]) X G a15 l15 c15 k15 fun _ _ _ _ _ _ us hl => match us, hl with | [_, _], _ => rfl
  have N16 := fns_mk (i := 16) (ps := ["top", "bottom", "many", "parts", "over", "under"]) X G a16 l16 c16 k16 fun _ _ _ _ _ _ us hl => match us, hl with | [_, _, _, _, _, _], _ => rfl
  have N20 := fns_mk (i := 20) (ps := ["_law_script"]) X G a20 l20 c20 k20 fun _ _ _ _ _ _ us hl => match us, hl with | [_], _ => rfl
  have N21 := fns_mk (i := 21) (ps := ["_law_deck_here", "_law_many"]) X G a21 l21 c21 k21 fun _ _ _ _ _ _ us hl => match us, hl with | [_, _], _ => rfl
  have N22 := fns_mk (i := 22) (ps := ["_law_upper", "_law_lower"]) X G a22 l22 c22 k22 fun _ _ _ _ _ _ us hl => match us, hl with | [_, _], _ => rfl
  have N23 := fns_mk (i := 23) (ps := ["_law_number"]) X G a23 l23 c23 k23 fun _ _ _ _ _ _ us hl => match us, hl with | [_], _ => rfl
  have N24 := fns_mk (i := 24) (ps := ["_law_pair"]) X G a24 l24 c24 k24 fun _ _ _ _ _ _ us hl => match us, hl with | [_], _ => rfl
  have N25 := fns_mk (i := 25) (ps := ["_law_upper", "_law_lower", "_law_mark", "_law_aloft", "_law_beneath"]) X G a25 l25 c25 k25 fun _ _ _ _ _ _ us hl => match us, hl with | [_, _, _, _, _], _ => rfl
  have N26 := fns_mk (i := 26) (ps := ["_law_one", "_law_theirs"]) X G a26 l26 c26 k26 fun _ _ _ _ _ _ us hl => match us, hl with | [_, _], _ => rfl
  have N27 := fns_mk (i := 27) (ps := ["_law_part", "_law_many", "_law_radix"]) X G a27 l27 c27 k27 fun _ _ _ _ _ _ us hl => match us, hl with | [_, _, _], _ => rfl
  have N28 := fns_mk (i := 28) (ps := ["_law_one", "_law_theirs"]) X G a28 l28 c28 k28 fun _ _ _ _ _ _ us hl => match us, hl with | [_, _], _ => rfl
  have N29 := fns_mk (i := 29) (ps := ["_law_deck_here"]) X G a29 l29 c29 k29 fun _ _ _ _ _ _ us hl => match us, hl with | [_], _ => rfl
  have N30 := fns_mk (i := 30) (ps := ["_law_deck_here"]) X G a30 l30 c30 k30 fun _ _ _ _ _ _ us hl => match us, hl with | [_], _ => rfl
  have N31 := fns_mk (i := 31) (ps := ["_law_deck_here", "_law_five_here"]) X G a31 l31 c31 k31 fun _ _ _ _ _ _ us hl => match us, hl with | [_, _], _ => rfl
  have N32 := fns_mk (i := 32) (ps := ["_law_five_here"]) X G a32 l32 c32 k32 fun _ _ _ _ _ _ us hl => match us, hl with | [_], _ => rfl
  have N33 := fns_mk (i := 33) (ps := ["_law_number"]) X G a33 l33 c33 k33 fun _ _ _ _ _ _ us hl => match us, hl with | [_], _ => rfl
  have N34 := fns_mk (i := 34) (ps := ["_law_found", "_law_due"]) X G a34 l34 c34 k34 fun _ _ _ _ _ _ us hl => match us, hl with | [_, _], _ => rfl
  have N35 := fns_mk (i := 35) (ps := ["_law_five_here"]) X G a35 l35 c35 k35 fun _ _ _ _ _ _ us hl => match us, hl with | [_], _ => rfl
  have N36 := fns_mk (i := 36) (ps := ["_law_deck_here"]) X G a36 l36 c36 k36 fun _ _ _ _ _ _ us hl => match us, hl with | [_], _ => rfl
  have N37 := fns_mk (i := 37) (ps := ["_law_deck_here"]) X G a37 l37 c37 k37 fun _ _ _ _ _ _ us hl => match us, hl with | [_], _ => rfl
  have N38 := fns_mk (i := 38) (ps := ["_law_row_here"]) X G a38 l38 c38 k38 fun _ _ _ _ _ _ us hl => match us, hl with | [_], _ => rfl
  have N39 := fns_mk (i := 39) (ps := []) X G a39 l39 c39 k39 fun _ _ _ _ _ _ us hl => match us, hl with | [], _ => rfl
  have N40 := fns_mk (i := 40) (ps := ["_law_script"]) X G a40 l40 c40 k40 fun _ _ _ _ _ _ us hl => match us, hl with | [_], _ => rfl
  have T : TEx K mg C := ⟨⟨pgC, hdC, poC, saC⟩, ntop, nbottom, nsign, nover, nunder, PySem.W.mg_of X G aC, haC, hnC, htC, hmC, kiC, kcc, kbC⟩
  have N : TNo P K mg NX [] := ⟨PySem.W.mg_of X G aN, xN, kN, bN, tN⟩
  have FI : InitD K fI (PySem.W.fnOf "__init__" "Exact.__init__" (defArgs sInit) (defBody sInit) (defScope sInit) (.ref TI) (.ref DI) dcI pmI anI cdI ctI) := by
    refine ⟨⟨ocI, odI, .ref TI, .ref DI, dcI, pmI, anI, cdI, ctI, slI, rfl, lI, cI, .inr ⟨by simp, TI, _, [.int 1 tkT], nT, rfl, lT, rfl, .cons ⟨tkT, rfl⟩ .nil⟩, .inr ⟨DI, rfl, ?_⟩⟩, kI⟩
    intro q hq
    simp only [List.mem_cons, List.not_mem_nil, or_false] at hq
    rcases hq with rfl | rfl | rfl
    · exact ⟨_, dsign, ⟨_, rfl⟩⟩
    · exact ⟨_, dover, ⟨_, rfl⟩⟩
    · exact ⟨_, dunder, ⟨_, rfl⟩⟩
  have M : Mk K C fI := ⟨mkC, iC, iF, kcC⟩
  have M1 : Mth K C fm1 _ "__eq__" "Exact.__eq__" 1 ["self", "other"] := ⟨fun_mk (st := inClass (topS 12) 1) lm1 cm1 km1, (fun_mk (st := inClass (topS 12) 1) lm1 cm1 km1).binds (fun _ _ _ _ _ _ us hl => match us, hl with | [_, _], _ => rfl), ⟨am1, im1, km1⟩⟩
  have M4 : Mth K C fm4 _ "plus" "Exact.plus" 4 ["self", "other"] := ⟨fun_mk (st := inClass (topS 12) 4) lm4 cm4 km4, (fun_mk (st := inClass (topS 12) 4) lm4 cm4 km4).binds (fun _ _ _ _ _ _ us hl => match us, hl with | [_, _], _ => rfl), ⟨am4, im4, km4⟩⟩
  have M5 : Mth K C fm5 _ "minus" "Exact.minus" 5 ["self", "other"] := ⟨fun_mk (st := inClass (topS 12) 5) lm5 cm5 km5, (fun_mk (st := inClass (topS 12) 5) lm5 cm5 km5).binds (fun _ _ _ _ _ _ us hl => match us, hl with | [_, _], _ => rfl), ⟨am5, im5, km5⟩⟩
  have M6 : Mth K C fm6 _ "times" "Exact.times" 6 ["self", "other"] := ⟨fun_mk (st := inClass (topS 12) 6) lm6 cm6 km6, (fun_mk (st := inClass (topS 12) 6) lm6 cm6 km6).binds (fun _ _ _ _ _ _ us hl => match us, hl with | [_, _], _ => rfl), ⟨am6, im6, km6⟩⟩
  have M8 : Mth K C fm8 _ "sign_of" "Exact.sign_of" 8 ["self"] := ⟨fun_mk (st := inClass (topS 12) 8) lm8 cm8 km8, (fun_mk (st := inClass (topS 12) 8) lm8 cm8 km8).binds (fun _ _ _ _ _ _ us hl => match us, hl with | [_], _ => rfl), ⟨am8, im8, km8⟩⟩
  have M9 : Mth K C fm9 _ "is_less" "Exact.is_less" 9 ["self", "other"] := ⟨fun_mk (st := inClass (topS 12) 9) lm9 cm9 km9, (fun_mk (st := inClass (topS 12) 9) lm9 cm9 km9).binds (fun _ _ _ _ _ _ us hl => match us, hl with | [_, _], _ => rfl), ⟨am9, im9, km9⟩⟩
  have zz : ∀ {n : Str}, PySem.W.nsIn K mainGlobals n = some none → mg n = none := fun z => PySem.W.mg_none_of X G z
  refine ⟨PySem.W.fnOf "law" "law" (defArgs (topS 40)) (defBody (topS 40)) (defScope (topS 40)) .none kV40 dc40 pm40 an40 cd40 ct40, fun s v => .of_eq rfl, fun base _ _ => ?_⟩
  have I : TIs mg := ⟨zz zisinstance, zz zint, zz zbool⟩
  have mG := PySem.W.mg_of X G zgcd
  have mS := PySem.W.mg_of X G zisqrt
  have GL : FnOk P w K mg base CX0 1 f9 _ ["top", "bottom"] spLow := ok_low N9.F mG
  have GS : FnOk P w K mg base CX0 1 f10 _ ["number"] spSq := ok_sq N10.F mS
  have GF : FnOk P w K mg base CX0 2 f13 _ ["top", "bottom", "sign", "over", "under"] (spFields C) := ok_fields N13.F T I (zz zall) N7.F N7.b N7.m
  have GI : GInit P w K mg base C NX fI _ := ok_init FI T N mS GF N13 GL N9 GS N10
  have GO : GOnR P w K mg base C f15 _ := ok_onR N15.F T mS GL N9 GS N10 N14
  have GW : GWithR P w K mg base C f16 _ := ok_withR N16.F T M FI GI N8
  have GPl : FnOk P w K mg base CX0 6 fm4 _ ["self", "other"] (spPlus C) := ok_plus M4.F T GO N15 GW N16
  have GMi : FnOk P w K mg base CX0 7 fm5 _ ["self", "other"] (spMinus C) := ok_minus M5.F T M FI GI GPl M4
  have GTi : FnOk P w K mg base CX0 6 fm6 _ ["self", "other"] (spTimes C) := ok_times M6.F T GO N15 GW N16
  have GSg : FnOk P w K mg base CX0 2 fm8 _ ["self"] (spSgn C) := ok_sgn M8.F T N8
  have GEq : FnOk P w K mg base CX0 1 fm1 _ ["self", "other"] (spEqB (EqNum C)) := ok_eqB2 M1.F T I
  have TQ : TEqB P w K mg base C fm1 _ := ⟨GEq, am1, im1, M1.b⟩
  have GMiD := GMi.imp (cv_minus (K := K) (DkAt := Deck))
  have GSgD := GSg.imp (cv_sgn (K := K) (DkAt := Deck))
  have GLe : FnOk P w K mg base CX0 8 fm9 _ ["self", "other"] (spD K Deck 2 (FLess C)) := ok_less M9.F T GMiD M5 GSgD M8
  have GLo : FnOk P w K mg base CX0 1 f22 _ ["_law_upper", "_law_lower"] spLowest := ok_lowest N22.F (zz zabs) (zz zint)
  have GSq : FnOk P w K mg base CX0 1 f23 _ ["_law_number"] spSqrt := ok_sqrt N23.F
  have GRo : FnOk P w K mg base CX0 2 f24 _ ["_law_pair"] spRoot := ok_root N24.F N23
  have GFm : FnOk P w K mg base CX0 3 f25 _ ["_law_upper", "_law_lower", "_law_mark", "_law_aloft", "_law_beneath"] spForm := ok_form N25.F GLo N22 GRo N24
  have GRa : GRatio P w K mg base f26 _ := ok_ratio N26.F GLo N22 GRo N24
  have GOf : GOfP P w K mg base f27 _ := ok_ofP N27.F (zz zint) GFm N25
  have GAd : FnOk P w K mg base CX0 5 f28 _ ["_law_one", "_law_theirs"] spAdded := ok_added N28.F GRa N26 GOf N27
  have GDk : FnOk P w K mg base CX0 1 f20 _ ["_law_script"] (spDeck K) := ok_deck N20.F (zz zlist) (zz zsum)
  have GDr : FnOk P w K mg base CX0 1 f21 _ ["_law_deck_here", "_law_many"] spDraw := ok_draw N21.F
  have GWh : FnOk P w K mg base CX0 2 f29 _ ["_law_deck_here"] spWholeL := ok_wholeL N29.F GDr N21
  have GFv : FnOk P w K mg base CX0 3 f30 _ ["_law_deck_here"] spFive := ok_five N30.F GDr N21 GWh N29 (zz zmin)
  have GLi : FnOk P w K mg base CX0 4 f31 _ ["_law_deck_here", "_law_five_here"] spLike := ok_like N31.F (zz zint) GDr N21 GFv N30 GFm N25
  have GMd : FnOk P w K mg base (L2.CX P w) 5 f32 _ ["_law_five_here"] (spMade C NX) := ok_made N32.F T M FI GI
  have GIs : FnG P w K mg base CX0 2 f34 _ ["_law_found", "_law_due"] (spIs C) := ok_is N34.F T I (zz zrepr) N33
  have GDrD := GDr.imp (cv_draw (K := K))
  have GFmD := GFm.imp (cv_form (K := K) (DkAt := Deck))
  have GMdD := GMd.imp (cv_made (K := K) (DkAt := Deck))
  have GFvD := GFv.imp (cv_five (K := K))
  have GLs : FnOk P w K mg base CX0 1 f35 _ ["_law_five_here"] (spD K Deck 1 FSign) := ok_lsign N35.F (zz zint)
  have GNn : FnOk P w K mg base CX0 4 f36 _ ["_law_deck_here"] (spD K Deck 1 FNear) := ok_near N36.F GDrD N21 (GSq.imp cv_sqrt) N23 GFmD N25
  have GRw : FnOk P w K mg base CX0 5 f37 _ ["_law_deck_here"] (spD K Deck 1 FRow) := ok_row N37.F (zz zrange) GDrD N21 GFvD N30 (GLi.imp cv_like) N31 GFmD N25
  have KB : KBindsM K _ ["self", "other"] ["other"] := kb_meth M9.F fun _ _ _ _ _ _ _ _ => rfl
  have GRR : FnG P w K mg base CX0 9 f38 _ ["_law_row_here"] (spD K Deck 1 FRowR) := ok_rowR N38.F T TQ (zz zrepr) M FI GI GMdD N32 (GAd.imp cv_added) N28 GLs N35 (GPl.imp cv_plus) M4 GMiD M5 GLe M9 KB
  have GNe : FnG P w K mg base CX0 9 f39 _ [] (spD K Deck 0 FNearest) := ok_nearest N39.F T (zz zrepr) (zz zrange) M FI GI (GTi.imp cv_times) M6 GMiD M5 GSgD M8 GLe M9
  exact ok_law N40.F T (zz zrepr) (zz zrange) GDk N20 GDrD N21 GFvD N30 GFmD N25 GNn N36 GMdD N32 GLs N35 (GIs.imp cv_is) N34 GRw N37 GRR N38 GNe N39 GSgD M8
end PH
open PySem PySem.W PyProof.Rows
set_option maxRecDepth 100000 in
set_option maxHeartbeats 0 in
theorem PySem.Challenge.cw_pointhouse_k05_signs_and_order_holds : PySem.Challenge.rw_pointhouse_k05_signs_and_order.Holds := by
  w_on; o_law; k_head; (case hw => w_witness2)
  k_fill
  refine PH.walk_G (l := PySem.Challenge.rw_pointhouse_k05_signs_and_order) (n := 63) (k := 10) (x := "_law_script") (sp := PH.spLaw) rfl (by decide) rfl ⟨rfl, by decide, by decide⟩ (fun w h Y => PySem.W.kIn_of Y) ?F (fun K H a ns hl _ hS => ⟨a, ns, rfl, hS, hl, fun _ => rfl⟩)
  case F =>
    intro w mg fa h KX G hmg
    refine' PH.all_mk KX G hmg ?a7 ?l7 ?c7 ?k7 ?a8 ?l8 ?c8 ?k8 ?a9 ?l9 ?c9 ?k9 ?a10 ?l10 ?c10 ?k10 ?a13 ?l13 ?c13 ?k13 ?a14 ?l14 ?c14 ?k14 ?a15 ?l15 ?c15 ?k15 ?a16 ?l16 ?c16 ?k16 ?a20 ?l20 ?c20 ?k20 ?a21 ?l21 ?c21 ?k21 ?a22 ?l22 ?c22 ?k22 ?a23 ?l23 ?c23 ?k23 ?a24 ?l24 ?c24 ?k24 ?a25 ?l25 ?c25 ?k25 ?a26 ?l26 ?c26 ?k26 ?a27 ?l27 ?c27 ?k27 ?a28 ?l28 ?c28 ?k28 ?a29 ?l29 ?c29 ?k29 ?a30 ?l30 ?c30 ?k30 ?a31 ?l31 ?c31 ?k31 ?a32 ?l32 ?c32 ?k32 ?a33 ?l33 ?c33 ?k33 ?a34 ?l34 ?c34 ?k34 ?a35 ?l35 ?c35 ?k35 ?a36 ?l36 ?c36 ?k36 ?a37 ?l37 ?c37 ?k37 ?a38 ?l38 ?c38 ?k38 ?a39 ?l39 ?c39 ?k39 ?a40 ?l40 ?c40 ?k40 ?aC ?iC ?iF ?lI ?cI ?kI ?lT ?dsign ?dover ?dunder ?pgC ?hdC ?poC ?saC ?mkC ?kcC ?ntop ?nbottom ?nsign ?nover ?nunder ?haC ?hnC ?htC ?hmC ?kiC ?kcc ?kbC ?aN ?xN ?kN ?bN ?tN ?am1 ?lm1 ?cm1 ?km1 ?im1 ?am4 ?lm4 ?cm4 ?km4 ?im4 ?am5 ?lm5 ?cm5 ?km5 ?im5 ?am6 ?lm6 ?cm6 ?km6 ?im6 ?am8 ?lm8 ?cm8 ?km8 ?im8 ?am9 ?lm9 ?cm9 ?km9 ?im9 ?zisinstance ?zint ?zbool ?zall ?zabs ?zlist ?zsum ?zmin ?zrange ?zrepr ?zgcd ?zisqrt
    (case a7 => k_is)
    (case l7 => k_is)
    (case c7 => k_is)
    (case k7 => k_is)
    (case a8 => k_is)
    (case l8 => k_is)
    (case c8 => k_is)
    (case k8 => k_is)
    (case a9 => k_is)
    (case l9 => k_is)
    (case c9 => k_is)
    (case k9 => k_is)
    (case a10 => k_is)
    (case l10 => k_is)
    (case c10 => k_is)
    (case k10 => k_is)
    (case a13 => k_is)
    (case l13 => k_is)
    (case c13 => k_is)
    (case k13 => k_is)
    (case a14 => k_is)
    (case l14 => k_is)
    (case c14 => k_is)
    (case k14 => k_is)
    (case a15 => k_is)
    (case l15 => k_is)
    (case c15 => k_is)
    (case k15 => k_is)
    (case a16 => k_is)
    (case l16 => k_is)
    (case c16 => k_is)
    (case k16 => k_is)
    (case a20 => k_is)
    (case l20 => k_is)
    (case c20 => k_is)
    (case k20 => k_is)
    (case a21 => k_is)
    (case l21 => k_is)
    (case c21 => k_is)
    (case k21 => k_is)
    (case a22 => k_is)
    (case l22 => k_is)
    (case c22 => k_is)
    (case k22 => k_is)
    (case a23 => k_is)
    (case l23 => k_is)
    (case c23 => k_is)
    (case k23 => k_is)
    (case a24 => k_is)
    (case l24 => k_is)
    (case c24 => k_is)
    (case k24 => k_is)
    (case a25 => k_is)
    (case l25 => k_is)
    (case c25 => k_is)
    (case k25 => k_is)
    (case a26 => k_is)
    (case l26 => k_is)
    (case c26 => k_is)
    (case k26 => k_is)
    (case a27 => k_is)
    (case l27 => k_is)
    (case c27 => k_is)
    (case k27 => k_is)
    (case a28 => k_is)
    (case l28 => k_is)
    (case c28 => k_is)
    (case k28 => k_is)
    (case a29 => k_is)
    (case l29 => k_is)
    (case c29 => k_is)
    (case k29 => k_is)
    (case a30 => k_is)
    (case l30 => k_is)
    (case c30 => k_is)
    (case k30 => k_is)
    (case a31 => k_is)
    (case l31 => k_is)
    (case c31 => k_is)
    (case k31 => k_is)
    (case a32 => k_is)
    (case l32 => k_is)
    (case c32 => k_is)
    (case k32 => k_is)
    (case a33 => k_is)
    (case l33 => k_is)
    (case c33 => k_is)
    (case k33 => k_is)
    (case a34 => k_is)
    (case l34 => k_is)
    (case c34 => k_is)
    (case k34 => k_is)
    (case a35 => k_is)
    (case l35 => k_is)
    (case c35 => k_is)
    (case k35 => k_is)
    (case a36 => k_is)
    (case l36 => k_is)
    (case c36 => k_is)
    (case k36 => k_is)
    (case a37 => k_is)
    (case l37 => k_is)
    (case c37 => k_is)
    (case k37 => k_is)
    (case a38 => k_is)
    (case l38 => k_is)
    (case c38 => k_is)
    (case k38 => k_is)
    (case a39 => k_is)
    (case l39 => k_is)
    (case c39 => k_is)
    (case k39 => k_is)
    (case a40 => k_is)
    (case l40 => k_is)
    (case c40 => k_is)
    (case k40 => k_is)
    (case aC => k_is)
    (case iC => k_is)
    (case iF => k_is)
    (case lI => k_is)
    (case cI => k_is)
    (case kI => k_is)
    (case lT => k_is)
    (case dsign => k_is)
    (case dover => k_is)
    (case dunder => k_is)
    (case pgC => k_is)
    (case hdC => k_is)
    (case poC => k_is)
    (case saC => k_is)
    (case mkC => k_is)
    (case kcC => k_is)
    (case ntop => k_is)
    (case nbottom => k_is)
    (case nsign => k_is)
    (case nover => k_is)
    (case nunder => k_is)
    (case haC => k_is)
    (case hnC => k_is)
    (case htC => k_is)
    (case hmC => k_is)
    (case kiC => kit_is)
    (case kcc => kit_is)
    (case kbC => kit_is)
    (case aN => k_is)
    (case xN => k_exc)
    (case kN => k_is)
    (case bN => k_is)
    (case tN => k_is)
    (case am1 => k_is)
    (case lm1 => k_is)
    (case cm1 => k_is)
    (case km1 => k_is)
    (case im1 => k_is)
    (case am4 => k_is)
    (case lm4 => k_is)
    (case cm4 => k_is)
    (case km4 => k_is)
    (case im4 => k_is)
    (case am5 => k_is)
    (case lm5 => k_is)
    (case cm5 => k_is)
    (case km5 => k_is)
    (case im5 => k_is)
    (case am6 => k_is)
    (case lm6 => k_is)
    (case cm6 => k_is)
    (case km6 => k_is)
    (case im6 => k_is)
    (case am8 => k_is)
    (case lm8 => k_is)
    (case cm8 => k_is)
    (case km8 => k_is)
    (case im8 => k_is)
    (case am9 => k_is)
    (case lm9 => k_is)
    (case cm9 => k_is)
    (case km9 => k_is)
    (case im9 => k_is)
    (case zisinstance => k_is)
    (case zint => k_is)
    (case zbool => k_is)
    (case zall => k_is)
    (case zabs => k_is)
    (case zlist => k_is)
    (case zsum => k_is)
    (case zmin => k_is)
    (case zrange => k_is)
    (case zrepr => k_is)
    (case zgcd => k_is)
    (case zisqrt => k_is)
#print axioms PySem.Challenge.cw_pointhouse_k05_signs_and_order_holds
