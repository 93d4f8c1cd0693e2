import PyProof.Rows.All
import Wide.All
import OpenK.AllK
import Wide.FinOn
import PyProof.EqAt
import PyProof.EqKinds
import PyProof.TupleCall
import PyProof.ReprRoads
import PyProof.TwoTypesSub
import PyProof.AutoIntG7
import PyProof.FactsAll.bool_3
import KE.KMathG
import HandS.ForMost
import HandS.More
import HandS.Gcd
import HandS.Wide
import HandS.Exc
import HandS.TryOnly
import HandS.ExcOwn
import HandS.WordsExc
import HandS.ExcIs
import HandS.IsInst
import HandS.MakeKwOnly
import HandS.NoneIn
import HandS.TupLe
import HandS.Ends
import Flt.RightSqrt
import HandS.WideBits
import HandS.Base
import HandS.Call
import HandS.List
import HandS.Comp
import HandS.Words
import HandS.WordsList
import HandS.Walk
import HandS.TupAny
import HandS.Style
import HandS.Codes
import HandS.Flow
import HandS.RevTup
import HandS.RevRange
import HandS.Zip
import HandS.Text
import HandS.Deep
import HandS.Dict
import HandS.Rev
import HandS.Replace
import HandS.FStr
import KE.GoesMore
import PyProof.EnumMake
import HandS.HeadHook3
import KE.GoesZip
import HandS.DictSubView
import HandS.Strs
import HandS.RaiseMore
import HandS.StrMore
import HandS.SetTxt0
import HandS.MapJoin
import PyProof.Rows.StrCase
import PyProof.Ascii
import PyProof.Rows.ReprOcc
import HandS.DictComp
import HandS.WordsDict
import PySem.Challenge.RW_pointhouse_k25_sayings_forms
set_option Elab.async false
set_option linter.all false
set_option maxRecDepth 100000
set_option maxHeartbeats 16000000
namespace PH
open PySem PySem.Spec PyProof.Rows L2
section
variable {X : Cx}
/-! ### isqrt -/
def rSqrt : List V → Hp → VK → Prop := fun vs H Q =>
  ∃ a : Int, vs = [.int a] ∧ 0 ≤ a ∧ a < 2 ^ 200 ∧ Q (.int ((Float64.isqrt a.toNat : Nat) : Int)) H
theorem log_le {n k : Nat} (h : n < 2 ^ (k + 1)) : n.log2 ≤ k := by
  by_cases h0 : n = 0
  · rw [h0, Nat.log2_zero]; exact Nat.zero_le _
  · exact Nat.le_of_lt_succ ((Nat.log2_lt h0).mpr h)
theorem cr_isqrt : CallR X (.builtin "math.isqrt") rSqrt := by
  intro pins s σ H vs us Q I r h
  obtain ⟨a, rfl, h0, h1, q⟩ := h
  obtain ⟨u, rfl, t, rfl⟩ := vals1 r
  have hl : a.toNat.log2 ≤ 199 := log_le (by show a.toNat < 2 ^ 200; omega)
  exact call_function_meets PySem.W.MGF.kind_isqrt PySem.W.MGF.plain_isqrt PySem.W.MGF.entry_isqrt (PySem.W.MGF.args_isqrt _)
    (PySem.W.mg_run_isqrt a t (by omega) (by omega) (by omega)).meets ⟨.int _, H, I.tok _, ⟨_, rfl⟩, q⟩
/-! ### repr of data, where nothing is being shown -/
def rRepr (K : PySem.W.Frag) : List V → Hp → VK → Prop := fun xs H Q =>
  ∃ (a : Addr) (d : PyData), xs = [.ref a] ∧ Dp K H (.ref a) d ∧ d.showable = true ∧ d.hasDict = false ∧ d.depth ≤ 60 ∧
    d.shown.length ≤ sizeLine ∧ Q (.str d.shown) H
theorem cr_repr {k : Nat} (hg : X.A.guards = some []) (hr : Room k X.A) : CallR X (.builtin "repr") (rRepr X.K) := by
  intro pins s σ H xs us Q I r h
  obtain ⟨a, d, rfl, hd, hs, hn, hdp, hz, q⟩ := h
  obtain ⟨u, rfl, ru⟩ := vals1 r
  cases (show u = Value.ref a from ru)
  obtain ⟨as, rd⟩ := Dp.reads I d _ _ hd rfl
  have hu := hr.units
  exact repr_of_reads' rd hs (fun e => by rw [hn] at e; cases e) hg (by omega) (fun _ _ e => e)
    (fun h' u tk hk => ⟨.str _, H, I.kept hk, ⟨u, rfl⟩, q⟩) hz
/-! ### self.f = .. among several targets -/
def gFld (K : PySem.W.Frag) (to : TE) (f : Str) : TG := fun v σ H Q => to σ H fun x H1 =>
  ∃ a C dx fs, x = .ref a ∧ H1 a = some (.ins C dx fs) ∧ Cls K C ∧ NoAttr K C f ∧ fs.length < 1000 ∧ Q σ (upd H1 a (.ins C dx (putF f v fs)))
theorem pg_fld {o : Expr} {f : Str} {to : TE} {pos : Pos} (ho : PE X o to) : PG X (.Attribute o f pos) (gFld X.K to f) := by
  refine ⟨fun pins s σ H v u Q I r h => ?_⟩
  rw [assign_Attribute]
  refine wpAny_bind (wpAny_holding (thn (ho.run pins s σ H _ I h) fun ov s1 hh => ?_))
  obtain ⟨x, H1, I1, rx, a, C, dx, fs, ex, ea, c, n, l, q⟩ := hh
  subst ex
  obtain rfl : ov = Value.ref a := rx
  refine wpAny_bind (wpAny_standAt (wpAny_bind (wpAny_holding ?_)))
  exact setattr_ok I1 ea c n l r fun s2 I2 => wpAny_release ⟨σ, _, I2, q⟩
/-! ### int - bool -/
theorem op_sub_ib : OpR X (binaryOp .Sub) (fun x y H Q => ∃ i k, x = .int i ∧ y = .bl k ∧ Q (.int (i - b2i k)) H) := by
  intro pins s σ H x y v u Q I rx ry h
  obtain ⟨i, k, rfl, rfl, q⟩ := h
  obtain ⟨t, rfl⟩ := rx
  cases ry
  have same : reflectedDiffers (.type "int") (.type "bool") "sub" = pure false := by
    show (typeLookup (.type "bool") (dunderR "sub") >>= fun rb => typeLookup (.type "int") (dunderR "sub") >>= fun ra => pure (rb.isSome && rb != ra)) = pure false
    simp only [typeLookup_type]
    rw [builtinLookup_eq_fast]
    kernel_rfl
  exact binaryOp_sub_gives (op := .Sub) (T := "int") (U := "bool") (by decide) (typeIs_int s i t) rfl F.fills_int_sub
    F.fills_bool_sub isSubtype_bool_int same F.slot_int_sub F.entry_int_sub (F.args_int_sub_2 _ _) (AutoIntG7.int___sub___int_bool_0 i t k) trivial
    ⟨.int (i - b2i k), H, I.tok _, ⟨_, rfl⟩, q⟩
end
/-! ### defs that ask what is being shown: their promise holds where nothing is -/
structure FnG (P : Program) (w : World) (K : PySem.W.Frag) (mg : Str → Option Value) (base : Heap) (CX : CXT) (k : Nat) (f : Addr) (fd : FuncData) (ps : List Str) (sp : Sp) : Prop where
  len : ∀ vs H Q E, sp vs H Q E → vs.length = ps.length
  run : ∀ (A : Around) (outer : List Env) (s : Shared) (H : Hp) (args : Args) (us : List Value) (vs : List V) (Q : VK) (E : XK),
    A.guards = some [] → Room k A → Env0 P w K mg base A outer s H → BindsTo s fd args (ps.zip us) → Vals vs us → sp vs H Q E →
    codeAny (model P w) A (.call (.ref f) args) (CR CX outer P w H s Q E) s
section
variable {P : Program} {w : World} {K : PySem.W.Frag} {mg : Str → Option Value} {base : Heap}
theorem Fun.okG {x qual : Str} {st : Stmt} {f : Addr} {fd : FuncData} {N ps : List Str} {k : Nat} {sp : Sp} (F : Fun K x qual st f fd) (S : FnScope N ps (defScope st))
    (len : ∀ vs H Q E, sp vs H Q E → vs.length = ps.length)
    (hbody : ∀ (cdv : Value) (A : Around) (outer : List Env) (s : Shared) (H : Hp) (vs : List V) (Q : VK) (E : XK), A.guards = some [] →
      Room k (A.deeper (envOfC qual (defScope st) s.heap.objs.size f cdv)) → sp vs H Q E →
      ∃ t, PSs (cxOf CX0 P w K mg base N qual (defScope st) f cdv A outer s H E).nox (defBody st) t ∧ t { nx := fun _ H' => Q .non H', rt := Q } (start N vs) H) :
    FnG P w K mg base CX0 (k + 1) f fd ps sp := by
  obtain ⟨oc, od, kV, doc, pm, an, cdv, ct, osl, rfl, lk, hcd⟩ := F.ex
  constructor
  · exact len
  intro A outer s H args us vs Q E hg hr e0 hb r hsp
  have within := fun b o e => (e0.bs b o e).1
  have KX : K.In s.heap := e0.mod.kin.keeps within
  refine codeAny_call_function hr.depth (KX _ _ lk) rfl S.co S.gen rfl (PySem.W.codeRec_of KX hcd) (hb _ _ _ _ ?_)
  refine wpAny_newFunctionEnv_cells S.kind ?_ ?_
  · rintro ⟨n, v⟩ hy
    have q := S.par n (List.of_mem_zip hy).1
    exact q.imp id fun z => And.intro z (PySem.W.cellsFrom_some _ _ _ (Or.inl z))
  intro env he s1 x
  subst he
  refine And.intro ((e0.mod.nolimit.keeps within).keeps x.toInCall.keep) (codeAny_func ?_)
  obtain ⟨t, hx, hq⟩ := hbody cdv A outer s H vs Q E hg (hr.deeper _) hsp
  have ht := hx.nox
  have I := inv_start (CX := CX0) (E := E) S hr.hd e0 (len _ _ _ _ hsp) r x
  have fin : ∀ {σ' : L2.St} {H' : Hp} {v : V} {u : Value} {s' : Shared},
      Inv (cxOf CX0 P w K mg base N qual (defScope st) f cdv A outer s H E) [] σ' H' s' → RelV v u → Q v H' → CE outer P w H s Q u s' := by
    intro σ' H' v u s' J rv q
    exact ⟨v, H', J.os, J.bare, J.base, J.hok, rv, q⟩
  refine wpAny_mono (ht.run [] s1 (start N vs) H _ I hq) ?_ (fun _ _ z => z)
  intro fl s' hs
  match fl, hs with
  | .ret u, ⟨v, _, _, J, rv, q⟩ => exact fin J rv q
  | .next, ⟨_, _, J, q⟩ => exact fin (v := V.non) (u := Value.none) J rfl q
  | .brk, ⟨_, _, _, q⟩ => exact q.elim
  | .cont, ⟨_, _, _, q⟩ => exact q.elim
end
section
variable {X : Cx} {k : Nat} {f : Addr} {fd : FuncData} {ps : List Str} {sp : Sp} {x : Str} {p pos : Pos} {e : Expr} {es : List Expr} {t : TA}
theorem pe_callG (F : FnG X.prog X.w X.K X.mg X.base CX0 k f fd ps sp) (hgu : X.A.guards = some []) (hr : Room k X.A) (hg : Gl X x) (hm : X.mg x = some (.ref f))
    (hk : PySem.W.keepIn X.K (.ref f) = true) (hb : Binds X.K fd ps []) (ha : PA X (e :: es) t) (hdb : (x == ("__debug__" : Str)) = false := by decide)
    (he : starEach (e :: es) X.env = (false, eval e X.env) :: starEach es X.env := by rfl) (hpl : (backTo pos (starEach es X.env)).any (·.1) = false := by rfl) :
    PE X (.Call (.Name x p) (e :: es) [] pos) (tCall sp [] E0 t) := by
  constructor
  intro pins s σ H Q I h
  refine wpAny_Call_Name_kw (ld_glob I hg hm ?_ hdb)
  refine PySem.W.callWith_K (h₀ := X.base) I.ok.mod.kin hk (thn (ha.run pos pins s σ H _ I h) ?_) he hpl
  rintro us s1 ⟨vs, H1, I1, r, q⟩
  refine And.intro I1.kIn ?_
  rw [List.append_nil] at q
  have hl : us.length = ps.length := r.length.symm.trans (F.len _ _ _ _ q)
  have hb' := hb s1 us I1.kIn (by rw [List.append_nil]; exact hl)
  rw [List.append_nil] at hb'
  refine wpAny_call (codeAny_mono (F.run X.A X.stack s1 H1 ⟨us, []⟩ us vs Q E0 hgu hr I1.env0 hb' r q) ?_)
  intro r' s' hq
  match r', hq with
  | .error _, hq => exact hq.elim
  | .ok (.ret _), hq => exact I1.after hq
  | .ok .next, hq => exact hq.elim
  | .ok .brk, hq => exact hq.elim
  | .ok .cont, hq => exact hq.elim
end
end PH
namespace PH
open PySem PySem.Spec PyProof.Rows L2
/-! ### the law's call from the heap behind the top, nothing being shown -/
section
variable {P : Program} {w : World} {K : PySem.W.Frag} {mg mb : Str → Option Value} {k : Nat} {fa a : Addr} {fd : FuncData} {x : Str} {sp : Sp} {s₁ : Shared} {vs : List Value} {ns : List Int}
/-- what may be tracked there: the script, or nothing where the module has it -/
theorem script_heap (KX : K.In s₁.heap) (ha : s₁.heap.get? a = some { cls := .type "list", data := .seq vs.toArray }) (hi : IntsAre vs ns) (hl : ns.length ≤ sizeLine) :
    ∃ H : Hp, Only H ∧ SqL K H a (ns.map V.int) ∧ HOk P w H s₁.heap ∧ ∀ b, H b ≠ none → b = a ∧ K.lookup a = none := by
  have rv := vals_ints hi
  have lenV := hi.length
  rcases hk : K.lookup a with _ | o
  · let ob : Obj := { cls := .type "list", data := .seq vs.toArray }
    refine ⟨fun b => if b = a then some (.frz ob (.lst (ns.map V.int))) else none, ?_, ?_, ?_, ?_⟩
    · intro b
      by_cases h : b = a
      · right; exact ⟨_, _, if_pos h⟩
      · left; exact if_neg h
    · left; right; exact ⟨ob, if_pos rfl⟩
    · intro b u z
      by_cases h : b = a
      · subst h
        have z' := (if_pos rfl).symm.trans z
        cases z'
        refine ⟨ha, ?_, vs, _, rv, ha⟩
        rw [List.length_map]; exact hl
      · have z' := (if_neg h).symm.trans z
        cases z'
    · intro b z
      by_cases h : b = a
      · exact ⟨h, rfl⟩
      · exact absurd (if_neg h) z
  · have e := KX a o hk
    rw [ha] at e
    cases e
    refine ⟨fun _ => none, fun _ => Or.inl rfl, ?_, (fun b u z => by cases (show (none : Option HO) = some u from z)), (fun b z => absurd rfl z)⟩
    right
    refine ⟨_, vs.toArray, _, hk, rfl, rfl, rfl, ?_, ?_⟩
    · rw [List.size_toArray, lenV]; exact hl
    · simpa using rv
theorem law_callG (KX : K.In s₁.heap) (hns : s₁.heap.Ns mainGlobals mg) (hb : s₁.heap.Ns builtinsNs mb) (hbb : ∀ x : Str, x ≠ "__name__" → mb x = bootBuiltins x)
    (hlim : s₁.heap.NoLimit) (hg : s₁.gens = #[]) (ha : s₁.heap.get? a = some { cls := .type "list", data := .seq vs.toArray }) (hi : IntsAre vs ns)
    (hl : ns.length ≤ sizeLine) (hr : Room k callerA) (F : ∀ base : Heap, K.In base → base.Ns mainGlobals mg → FnG P w K mg base CX0 k fa fd [x] sp)
    (hbind : ∀ (s : Shared) (u : Value), BindsTo s fd ⟨[u], []⟩ [(x, u)])
    (hsp : ∀ H : Hp, Only H → SqL K H a (ns.map V.int) → sp [.ref a] H (fun v _ => v = .bl true) fun _ _ _ => False) :
    codeAny (model P w) callerA (.call (.ref fa) ⟨[.ref a], []⟩) (fun r s' => r = .ok (.ret (.bool true)) ∧ OldK s₁.heap s'.heap ∧ s'.os = s₁.os ∧ AllBare s'.gens) s₁ := by
  obtain ⟨H, hO, hS, hok, hA⟩ := script_heap (P := P) (w := w) KX ha hi hl
  have off : ∀ {b : Addr} {o : Obj}, s₁.heap.get? b = some o → (b = a → K.lookup a = none → False) → (hidT s₁.heap H).get? b = some o := by
    intro b o e h
    refine hidT_get e ?_
    rcases q : H b with _ | u
    · rfl
    · have z := hA b (by rw [q]; exact fun z => nomatch z)
      exact (h z.1 z.2).elim
  have dicts : ∀ {b : Addr} {m : Str → Option Value}, s₁.heap.Ns b m → (hidT s₁.heap H).Ns b m := by
    rintro b m ⟨o, es, ep, e, d, r⟩
    refine ⟨o, es, ep, off e ?_, d, r⟩
    intro hba _
    subst hba
    rw [ha] at e
    cases e
    exact nomatch (d : Data.seq vs.toArray _ = Data.dict es ep)
  have hKb : K.In (hidT s₁.heap H) := by
    intro b o e
    refine off (KX b o e) ?_
    intro hba hn
    rw [hba, hn] at e
    cases e
  have hM : Mod K mg (hidT s₁.heap H) := by
    obtain ⟨mc, h1, h2⟩ := hlim
    exact ⟨hKb, dicts hns, ⟨mb, dicts hb, hbb⟩, ⟨mc, dicts h1, h2⟩⟩
  have e0 : Env0 P w K mg (hidT s₁.heap H) callerA [] s₁ H :=
    { frames := rfl, mod := hM, bs := fun b o e => of_hidT e, bsz := Nat.le_of_eq (hidT_size _ _), funs := trivial,
      frf := fun b z => absurd (show b ∈ ([] : List Addr) from z) List.not_mem_nil, hok := hok, bare := .of_eq hg }
  refine codeAny_mono ((F _ hKb (dicts hns)).run callerA [] s₁ H ⟨[.ref a], []⟩ [.ref a] [.ref a] _ _ rfl hr e0 (hbind s₁ (.ref a)) (.cons rfl .nil) (hsp H hO hS)) ?_
  intro r s' h
  match r, h with
  | .error _, h => exact h.elim
  | .ok .next, h => exact h.elim
  | .ok .brk, h => exact h.elim
  | .ok .cont, h => exact h.elim
  | .ok (.ret u), ⟨v, H', os, bare, un, hok', r', q⟩ =>
    subst q
    cases r'
    refine ⟨rfl, OldK.of_keep ?_, os, bare⟩
    intro b o e
    rcases q : H b with _ | y
    · exact un.keep b o e q (fun z => absurd (show b ∈ ([] : List Addr) from z) List.not_mem_nil) List.not_mem_nil
    · rcases hO b with z | ⟨ob, xs, z⟩
      · rw [q] at z; cases z
      · have g1 := (hok b _ z).1
        have g2 := (hok' b _ (un.frzs b ob _ z)).1
        rw [e] at g1
        cases g1
        exact g2
/-- the goal that k_head leaves -/
theorem walk_G {l : PySem.W.OpenLaw} {n k : Nat} {q : Program} {loose : List Str} {XP : (Str → Option Value) → Heap → Prop} {YP : World → Heap → Prop} {d : DefRec} {K : Params → PySem.W.Frag} {sp : PySem.W.Frag → Sp} {x : Str}
    (hn : l.most = some n) (hn2 : n ≤ sizeLine) (hdf : d.params.defaults = []) (hr : Room k callerA) (hY : ∀ (w : World) (h : Heap), YP w h → (K w.params).In h)
    (F : ∀ (w : World) (mg : Str → Option Value) (fa : Addr) (h : Heap), (K w.params).In h → h.Ns mainGlobals mg → mg d.name = some (.ref fa) →
      ∃ fd : FuncData, (∀ (s : Shared) (u : Value), BindsTo s fd ⟨[u], []⟩ [(x, u)]) ∧
        ∀ base : Heap, (K w.params).In base → base.Ns mainGlobals mg → FnG l.prog w (K w.params) mg base CX0 k fa fd [x] (sp (K w.params)))
    (hsp : ∀ (K : PySem.W.Frag) (H : Hp) (a : Addr) (ns : List Int), ns.length ≤ n → Only H → SqL K H a (ns.map V.int) → sp K [.ref a] H (fun v _ => v = .bl true) fun _ _ _ => False) :
    PySem.W.WalkO q loose XP YP l.row.toRowW d [] (fun f vs => PySem.call f vs) := by
  refine Att.attach_call hn hdf ?_
  intro w s₀ s₁ mg mb fa o pm cd doc a vs ns G Y ho hd hcd hmg hobj hints hlen hg
  have KX := hY w _ Y
  obtain ⟨fd, hb, hF⟩ := F w mg fa _ KX G.T.g hmg
  exact law_callG KX G.T.g G.T.b G.T.builtins G.T.nolimit hg hobj hints (Nat.le_trans hlen hn2) hr hF hb
    (fun H hO hS => hsp _ H a ns hlen hO hS)
end
end PH
namespace PH
open PySem
/-! ### the quotient in lowest terms, the whole part of a root, a number's form -/
def g (a b : Int) : Int := ((Nat.gcd a.natAbs b.natAbs : Nat) : Int)
def low (a b : Int) : Int × Int := (a / g a b, b / g a b)
def rt (n : Int) : Int := ((Float64.isqrt n.toNat : Nat) : Int)
def isq (n : Int) : Bool := decide (rt n * rt n = n)
theorem g_pos {a b : Int} (h : 0 < b) : 0 < g a b := by
  unfold g
  have : 0 < Nat.gcd a.natAbs b.natAbs := Nat.gcd_pos_of_pos_right _ (by omega)
  omega
theorem g_dl (a b : Int) : g a b ∣ a := Int.natAbs_dvd_natAbs.mp (by show (a.natAbs.gcd b.natAbs) ∣ a.natAbs; exact Nat.gcd_dvd_left _ _)
theorem g_dr (a b : Int) : g a b ∣ b := Int.natAbs_dvd_natAbs.mp (by show (a.natAbs.gcd b.natAbs) ∣ b.natAbs; exact Nat.gcd_dvd_right _ _)
theorem g_le {a b : Int} (h : 0 < b) : g a b ≤ b := Int.le_of_dvd h (g_dr a b)
theorem g_le_left {a b : Int} (h : 0 < a) : g a b ≤ a := Int.le_of_dvd h (g_dl a b)
theorem low1 (a b : Int) : (low a b).1 * g a b = a := Int.ediv_mul_cancel (g_dl a b)
theorem low2 (a b : Int) : (low a b).2 * g a b = b := Int.ediv_mul_cancel (g_dr a b)
theorem low2_pos {a b : Int} (h : 0 < b) : 0 < (low a b).2 := by
  have h1 := low2 a b
  have h2 := g_pos (a := a) h
  rcases Int.lt_or_le 0 (low a b).2 with h3 | h3
  · exact h3
  · have := Int.mul_le_mul_of_nonneg_right h3 (Int.le_of_lt h2)
    rw [h1, Int.zero_mul] at this
    omega
theorem low1_nonneg {a b : Int} (ha : 0 ≤ a) (h : 0 < b) : 0 ≤ (low a b).1 := Int.ediv_nonneg ha (Int.le_of_lt (g_pos h))
theorem natAbs_div_le {a k : Int} (hk : 0 < k) : (a / k).natAbs ≤ a.natAbs := by
  rcases Int.le_total 0 a with h | h
  · have h1 : 0 ≤ a / k := Int.ediv_nonneg h (Int.le_of_lt hk)
    have h2 : a / k ≤ a := Int.ediv_le_self k h
    omega
  · have h1 : a / k ≤ 0 := by
      have := Int.ediv_le_ediv hk h
      simpa using this
    have h2 : a ≤ a / k := by
      have q := Int.emod_nonneg a (show k ≠ 0 by omega)
      have q2 := Int.mul_ediv_add_emod a k
      have q3 := Int.emod_lt_of_pos a hk
      by_cases hz : a / k = 0
      · omega
      · have : k * (a / k) ≤ 1 * (a / k) := Int.mul_le_mul_of_nonpos_right (by omega) h1
        rcases Int.le_total a (a / k) with z | z
        · exact z
        · have hk1 : 1 ≤ k := by omega
          have e : k * (a / k) ≤ a / k := by omega
          have f : a < k * (a / k) + k := by omega
          have d : a / k < 0 := by omega
          have m1 : a / k + 1 ≤ 0 := by omega
          have m2 : k * (a / k + 1) ≤ 1 * (a / k + 1) := Int.mul_le_mul_of_nonpos_right (by omega) m1
          have m3 : k * (a / k + 1) = k * (a / k) + k := by rw [Int.mul_add, Int.mul_one]
          omega
    omega
theorem low1_abs {a b : Int} (h : 0 < b) : (low a b).1.natAbs ≤ a.natAbs := natAbs_div_le (g_pos h)
theorem low1_le {a b : Int} (ha : 0 ≤ a) (h : 0 < b) : (low a b).1 ≤ a := Int.ediv_le_self _ ha
theorem low2_le {a b : Int} (h : 0 < b) : (low a b).2 ≤ b := Int.ediv_le_self _ (Int.le_of_lt h)
theorem g_mul (a b k : Int) (hk : 0 < k) : g (a * k) (b * k) = g a b * k := by
  unfold g
  rw [Int.natAbs_mul, Int.natAbs_mul, Nat.gcd_mul_right]
  have : ((k.natAbs : Nat) : Int) = k := by omega
  rw [Int.natCast_mul, this]
theorem low_mul (a b k : Int) (hk : 0 < k) : low (a * k) (b * k) = low a b := by
  unfold low
  rw [g_mul a b k hk, Int.mul_ediv_mul_of_pos_left _ _ hk, Int.mul_ediv_mul_of_pos_left _ _ hk]
/-- a quotient that is in lowest terms stays -/
theorem low_id {a b : Int} (h : g a b = 1) : low a b = (a, b) := by
  unfold low
  rw [h, Int.ediv_one, Int.ediv_one]
theorem g_low {a b : Int} (h : 0 < b) : g (low a b).1 (low a b).2 = 1 := by
  have hp := g_pos (a := a) h
  have e : g a b = g (low a b).1 (low a b).2 * g a b := by
    have := g_mul (low a b).1 (low a b).2 (g a b) hp
    rw [low1, low2] at this
    exact this
  have e2 : 1 * g a b = g (low a b).1 (low a b).2 * g a b := by rw [Int.one_mul]; exact e
  exact (Int.eq_of_mul_eq_mul_right (by omega) e2).symm
theorem low_low {a b : Int} (h : 0 < b) : low (low a b).1 (low a b).2 = low a b := low_id (g_low h)
/-! ### roots -/
theorem rt_nonneg (n : Int) : 0 ≤ rt n := Int.natCast_nonneg _
theorem rt_spec {n : Int} (h : 0 ≤ n) : rt n * rt n ≤ n ∧ n < (rt n + 1) * (rt n + 1) := by
  have q := Float64.isqrt_spec n.toNat
  have e : ((n.toNat : Nat) : Int) = n := by omega
  refine ⟨?_, ?_⟩
  · have := Int.ofNat_le.mpr q.1
    rw [e] at this
    unfold rt
    rw [← Int.natCast_mul]
    exact this
  · have := Int.ofNat_lt.mpr q.2
    rw [e] at this
    unfold rt
    have e2 : ((Float64.isqrt n.toNat : Nat) : Int) + 1 = ((Float64.isqrt n.toNat + 1 : Nat) : Int) := by omega
    rw [e2, ← Int.natCast_mul]
    exact this
theorem sq_lt {a b : Int} (ha : 0 ≤ a) (hb : 0 ≤ b) (h : a * a < b * b) : a < b := by
  rcases Int.lt_or_le a b with z | z
  · exact z
  · have := Int.mul_le_mul z z hb ha
    omega
theorem rt_uniq {n r : Int} (hr : 0 ≤ r) (h1 : r * r ≤ n) (h2 : n < (r + 1) * (r + 1)) : rt n = r := by
  have hn : 0 ≤ n := Int.le_trans (Int.mul_nonneg hr hr) h1
  have q := rt_spec hn
  have p := rt_nonneg n
  have a : r < rt n + 1 := sq_lt hr (by omega) (by omega)
  have b : rt n < r + 1 := sq_lt p (by omega) (by omega)
  omega
theorem rt0 : rt 0 = 0 := rt_uniq (by decide) (by decide) (by decide)
theorem rt1 : rt 1 = 1 := rt_uniq (by decide) (by decide) (by decide)
theorem isq0 : isq 0 = true := by unfold isq; rw [rt0]; decide
theorem isq1 : isq 1 = true := by unfold isq; rw [rt1]; decide
theorem isq_eq {n : Int} (h : isq n = true) : rt n * rt n = n := of_decide_eq_true h
theorem rt_pos {n : Int} (h : 0 < n) (hs : isq n = true) : 0 < rt n := by
  have e := isq_eq hs
  rcases Int.lt_or_le 0 (rt n) with z | z
  · exact z
  · have : rt n = 0 := by have := rt_nonneg n; omega
    rw [this] at e
    omega
theorem rt_le {n b : Int} (h : 0 ≤ n) (hb : 0 ≤ b) (h2 : n < (b + 1) * (b + 1)) : rt n ≤ b := by
  have q := (rt_spec h).1
  have : rt n < b + 1 := sq_lt (rt_nonneg n) (by omega) (by omega)
  omega
theorem low01 : low 0 1 = (0, 1) := by decide
/-! ### the five numbers -/
abbrev Five := Int × Int × Int × Int × Int
/-- the root's quotient is a quotient's square -/
def both (p : Int × Int) : Bool := isq p.1 && isq p.2
def form (f : Five) : Five :=
  let u := f.1; let l := f.2.1; let m := f.2.2.1; let r := low f.2.2.2.1 f.2.2.2.2
  if both r = true then
    let q := low (u * rt r.2 + m * rt r.1 * l) (l * rt r.2)
    (q.1, q.2, 0, 0, 1)
  else
    let q := low u l
    if m = 0 then (q.1, q.2, 0, 0, 1) else (q.1, q.2, m, r.1, r.2)
structure Right (f : Five) : Prop where
  l : 0 < f.2.1
  m : f.2.2.1 = -1 ∨ f.2.2.1 = 0 ∨ f.2.2.1 = 1
  a : 0 ≤ f.2.2.2.1
  b : 0 < f.2.2.2.2
/-- the one form -/
structure Canon (f : Five) : Prop where
  l : 0 < f.2.1
  g : g f.1 f.2.1 = 1
  m : (f.2.2.1 = 0 ∧ f.2.2.2.1 = 0 ∧ f.2.2.2.2 = 1) ∨
    ((f.2.2.1 = -1 ∨ f.2.2.1 = 1) ∧ 0 ≤ f.2.2.2.1 ∧ 0 < f.2.2.2.2 ∧ PH.g f.2.2.2.1 f.2.2.2.2 = 1 ∧ both (f.2.2.2.1, f.2.2.2.2) = false)
theorem canon_form {f : Five} (h : Right f) : Canon (form f) := by
  obtain ⟨u, l, m, a, b⟩ := f
  obtain ⟨hl, hm, ha, hb⟩ := h
  dsimp only at hl hm ha hb
  unfold form
  dsimp only
  by_cases c : both (low a b) = true
  · rw [if_pos c]
    have hs : isq (low a b).2 = true := by unfold both at c; rw [Bool.and_eq_true] at c; exact c.2
    have hp : 0 < l * rt (low a b).2 := Int.mul_pos hl (rt_pos (low2_pos hb) hs)
    exact ⟨low2_pos hp, g_low hp, .inl ⟨rfl, rfl, rfl⟩⟩
  · rw [if_neg c]
    by_cases z : m = 0
    · rw [if_pos z]
      exact ⟨low2_pos hl, g_low hl, .inl ⟨rfl, rfl, rfl⟩⟩
    · rw [if_neg z]
      refine ⟨low2_pos hl, g_low hl, .inr ⟨?_, low1_nonneg ha hb, low2_pos hb, g_low hb, ?_⟩⟩
      · dsimp only; omega
      · dsimp only
        cases e : both ((low a b).1, (low a b).2) with
        | false => rfl
        | true => exact absurd e c
theorem form_canon {f : Five} (h : Canon f) : form f = f := by
  obtain ⟨u, l, m, a, b⟩ := f
  obtain ⟨hl, hg, hm⟩ := h
  dsimp only at hl hg hm
  unfold form
  dsimp only
  rcases hm with ⟨rfl, rfl, rfl⟩ | ⟨hm, ha, hb, hgr, hn⟩
  · rw [low01]
    rw [if_pos (show both (0, 1) = true by unfold both; rw [isq0, isq1]; rfl)]
    dsimp only
    rw [rt1, rt0, Int.mul_one, Int.mul_one, Int.zero_mul, Int.zero_mul, Int.add_zero, low_id hg]
  · rw [low_id hgr, if_neg (by rw [hn]; exact Bool.false_ne_true), if_neg (by omega), low_id hg]
theorem form_form {f : Five} (h : Right f) : form (form f) = form f := form_canon (canon_form h)
theorem canon_right {f : Five} (h : Canon f) : Right f := by
  obtain ⟨hl, _, hm⟩ := h
  rcases hm with ⟨h1, h2, h3⟩ | ⟨h1, h2, h3, _⟩
  · exact ⟨hl, by omega, by omega, by omega⟩
  · exact ⟨hl, by omega, h2, h3⟩
/-- as the program goes about it: the root is dropped first where its sign is 0 -/
theorem form_zero {u l a b : Int} (hl : 0 < l) (hb : 0 < b) : form (u, l, 0, a, b) = ((low u l).1, (low u l).2, 0, 0, 1) := by
  unfold form
  dsimp only
  by_cases c : both (low a b) = true
  · rw [if_pos c]
    have hs : isq (low a b).2 = true := by unfold both at c; rw [Bool.and_eq_true] at c; exact c.2
    rw [Int.zero_mul, Int.zero_mul, Int.add_zero, low_mul _ _ _ (rt_pos (low2_pos hb) hs)]
  · rw [if_neg c, if_pos rfl]
/-! ### how great they are -/
structure Small (f : Five) : Prop where
  u : f.1.natAbs ≤ 999999
  l : f.2.1 ≤ 999999
  a : f.2.2.2.1 ≤ 999999
  b : f.2.2.2.2 ≤ 999999
structure Fits (f : Five) : Prop where
  u : f.1.natAbs ≤ 2000000000
  l : f.2.1 ≤ 1000000000
  a : f.2.2.2.1 ≤ 999999
  b : f.2.2.2.2 ≤ 999999
theorem rt_small {n : Int} (h : 0 ≤ n) (h2 : n ≤ 999999) : rt n ≤ 999 := rt_le h (by decide) (by omega)
theorem mul_abs_le {x y : Int} {a b : Nat} (hx : x.natAbs ≤ a) (hy : y.natAbs ≤ b) : (x * y).natAbs ≤ a * b := by
  rw [Int.natAbs_mul]
  exact Nat.mul_le_mul hx hy
theorem upper_fits {u l m x y : Int} (hu : u.natAbs ≤ 999999) (hl : 0 < l) (hl2 : l ≤ 999999) (hm : m = -1 ∨ m = 0 ∨ m = 1) (hx : 0 ≤ x) (hx2 : x ≤ 999) (hy : 0 ≤ y) (hy2 : y ≤ 999) :
    (u * y + m * x * l).natAbs ≤ 2000000000 ∧ l * y ≤ 1000000000 ∧ 0 ≤ l * y := by
  have h1 : (u * y).natAbs ≤ 999999 * 999 := mul_abs_le hu (by omega)
  have h2 : (m * x).natAbs ≤ 1 * 999 := mul_abs_le (by omega) (by omega)
  have h3 : (m * x * l).natAbs ≤ (1 * 999) * 999999 := mul_abs_le h2 (by omega)
  have h4 : (l * y).natAbs ≤ 999999 * 999 := mul_abs_le (by omega) (by omega)
  have h5 := Int.mul_nonneg (Int.le_of_lt hl) hy
  omega
theorem form_fits {f : Five} (h : Right f) (s : Small f) : Fits (form f) := by
  obtain ⟨u, l, m, a, b⟩ := f
  obtain ⟨hl, hm, ha, hb⟩ := h
  obtain ⟨su, sl, sa, sb⟩ := s
  dsimp only at hl hm ha hb su sl sa sb
  have r1 := low1_le (b := b) ha hb
  have r2 := low2_le (a := a) hb
  have n1 := low1_nonneg ha hb
  have n2 := low2_pos (a := a) hb
  unfold form
  dsimp only
  by_cases c : both (low a b) = true
  · rw [if_pos c]
    have hs : isq (low a b).2 = true := by unfold both at c; rw [Bool.and_eq_true] at c; exact c.2
    have hp : 0 < l * rt (low a b).2 := Int.mul_pos hl (rt_pos n2 hs)
    obtain ⟨k1, k2, _⟩ := upper_fits (u := u) (l := l) (m := m) (x := rt (low a b).1) (y := rt (low a b).2) su hl sl hm (rt_nonneg _) (rt_small n1 (by omega)) (rt_nonneg _) (rt_small (by omega) (by omega))
    exact ⟨Nat.le_trans (low1_abs hp) k1, Int.le_trans (low2_le hp) k2, (by decide : (0:Int) ≤ 999999), (by decide : (1:Int) ≤ 999999)⟩
  · rw [if_neg c]
    have q1 := low1_abs (a := u) hl
    have q2 := low2_le (a := u) hl
    by_cases z : m = 0
    · rw [if_pos z]
      exact ⟨by dsimp only; omega, by dsimp only; omega, (by decide : (0:Int) ≤ 999999), (by decide : (1:Int) ≤ 999999)⟩
    · rw [if_neg z]
      exact ⟨by dsimp only; omega, by dsimp only; omega, by dsimp only; omega, by dsimp only; omega⟩
end PH
namespace PH
open PySem PySem.Spec PyProof.Rows L2
/-! ### whole numbers of so many bits -/
def Wd (k : Nat) (x : Int) : Prop := x.natAbs < 2 ^ k
theorem Wd.mono {a b : Nat} {x : Int} (h : Wd a x) (hab : a ≤ b) : Wd b x := Nat.lt_of_lt_of_le h (Nat.pow_le_pow_right (by decide) hab)
theorem Wd.mul {a b : Nat} {x y : Int} (h : Wd a x) (k : Wd b y) : Wd (a + b) (x * y) := wide_lt h k
theorem Wd.add {a : Nat} {x y : Int} (h : Wd a x) (k : Wd a y) : Wd (a + 1) (x + y) := by
  unfold Wd at *
  have := Int.natAbs_add_le x y
  rw [Nat.pow_succ]
  omega
theorem Wd.neg {a : Nat} {x : Int} (h : Wd a x) : Wd a (-x) := by unfold Wd at *; rw [Int.natAbs_neg]; exact h
theorem Wd.neg0 {a : Nat} {x : Int} (h : Wd a x) : Wd a (0 - x) := by rw [Int.zero_sub]; exact h.neg
theorem Wd.sub {a : Nat} {x y : Int} (h : Wd a x) (k : Wd a y) : Wd (a + 1) (x - y) := by rw [Int.sub_eq_add_neg]; exact h.add k.neg
theorem Wd.abs_le {a : Nat} {x y : Int} (h : Wd a x) (k : y.natAbs ≤ x.natAbs) : Wd a y := Nat.lt_of_le_of_lt k h
theorem Wd.le {a : Nat} {x y : Int} (h : Wd a x) (k0 : 0 ≤ y) (k : y ≤ x) : Wd a y := h.abs_le (by omega)
theorem Wd.one {x : Int} (h : x = -1 ∨ x = 0 ∨ x = 1) : Wd 1 x := by rcases h with rfl | rfl | rfl <;> (unfold Wd; decide)
theorem Wd.low1 {k : Nat} {a b : Int} (h : 0 < b) (w : Wd k a) : Wd k (low a b).1 := w.abs_le (low1_abs h)
theorem Wd.low2 {k : Nat} {a b : Int} (h : 0 < b) (w : Wd k b) : Wd k (low a b).2 := w.le (Int.le_of_lt (low2_pos h)) (low2_le h)
theorem rt_le_self {n : Int} (h : 0 ≤ n) : rt n ≤ n := by
  have h1 := (rt_spec h).1
  have h2 := rt_nonneg n
  rcases Int.lt_or_eq_of_le h2 with h3 | h3
  · have : rt n * 1 ≤ rt n * rt n := Int.mul_le_mul_of_nonneg_left (by omega) h2
    omega
  · omega
theorem Wd.rt {k : Nat} {n : Int} (h : 0 ≤ n) (w : Wd k n) : Wd k (rt n) := w.le (rt_nonneg n) (rt_le_self h)
theorem Wd.rt2 {k : Nat} {n : Int} (h : 0 ≤ n) (w : Wd (k + k) n) : Wd k (PH.rt n) := by
  have h1 := (rt_spec h).1
  have h2 := rt_nonneg n
  unfold Wd at *
  rw [Nat.pow_add] at w
  have h3 : (PH.rt n).natAbs * (PH.rt n).natAbs ≤ n.natAbs := by
    rw [← Int.natAbs_mul]
    have := Int.mul_nonneg h2 h2
    omega
  rcases Nat.lt_or_ge (PH.rt n).natAbs (2 ^ k) with c | c
  · exact c
  · have := Nat.mul_le_mul c c
    omega
theorem Wd.toMul {a b : Nat} {x y : Int} (h : Wd a x) (k : Wd b y) (l : a + b ≤ 134217728) : CMulX x y := mulx_ok h k l
theorem Wd.toDiv {k : Nat} {x y : Int} (h : 0 < y) (w : Wd k y) (l : k ≤ 8999) : CDivW x y := wide_div (i := x) (b := k + 1) h (w.mono (Nat.le_succ k)) (Nat.succ_pos k) (by omega)
section
variable {X : Cx}
/-! ### isqrt, ** of great ones -/
def rSqrtW : List V → Hp → VK → Prop := fun vs H Q => ∃ a : Int, vs = [.int a] ∧ 0 ≤ a ∧ Wd 9000 a ∧ Q (.int (rt a)) H
theorem cr_isqrtW : CallR X (.builtin "math.isqrt") rSqrtW := by
  intro pins s σ H vs us Q I r h
  obtain ⟨a, rfl, h0, h1, q⟩ := h
  obtain ⟨u, rfl, t, rfl⟩ := vals1 r
  have e : a.toNat = a.natAbs := by omega
  have hl : a.toNat.log2 ≤ 9000 := log_le (k := 9000) (by rw [e]; exact Nat.lt_of_lt_of_le h1 (Nat.pow_le_pow_right (by decide) (Nat.le_succ 9000)))
  exact call_function_meets PySem.W.MGF.kind_isqrt PySem.W.MGF.plain_isqrt PySem.W.MGF.entry_isqrt (PySem.W.MGF.args_isqrt _)
    (PySem.W.mg_run_isqrt a t (by omega) (by omega) (by omega)).meets ⟨.int _, H, I.tok _, ⟨_, rfl⟩, q⟩
def CSq (i j : Int) : Prop := j = 2 ∧ Wd 100000 i
theorem op_sqW : OpR X (binaryOp .Pow) (rI CSq fun i _ => .int (i * i)) := opI fun i j _ _ _ _ _ hc q => by
  obtain ⟨rfl, hw⟩ := hc
  have hb := PyProof.Rows.intBits_le hw
  refine pow_int (by decide) (by omega) ?_
  have e : i ^ (Int.toNat 2) = i * i := by show i ^ 2 = _; rw [Int.pow_succ, Int.pow_succ, Int.pow_zero, Int.one_mul]
  rw [e]
  exact q
end
end PH
namespace EL
open PySem PySem.Spec PyProof.Rows L2
/-! ### data without a heap -/
inductive D where
  | non | bl (b : Bool) | int (i : Int) | str (z : Str)
  | tup (xs : List D) | lst (xs : List D)
  | dct (kvs : List (Key × D))
  | obj (n : Nat) (fs : List D)
  | dk
  | opq (v : V)
/-- the deck's two objects; the classes by number: their addresses, their fields' names -/
structure Cw where
  dk : Option (Addr × Addr)
  cl : Nat → Option (Addr × List Str)
  K : PySem.W.Frag
structure Bs where
  W : Cw
  DkAt : Nat → Hp → Addr → Addr → Prop
  H0 : Hp
  G0 : Hp
  xc : Nat → List D → Prop
  E : XK
  cost : Nat
abbrev Bs.K (B : Bs) : PySem.W.Frag := B.W.K
/-- a tuple of the module's own, made ahead -/
def KTup (K : PySem.W.Frag) (a : Addr) (vs : List V) : Prop := ∃ (o : Obj) (its : Array Value) (n : Nat), K.lookup a = some o ∧ o.cls = .type "tuple" ∧ o.data = .seq its n ∧ its.size ≤ sizeLine ∧ Vals vs its.toList
def TupAt (W : Cw) (G : Hp) (a : Addr) (vs : List V) : Prop := G a = some (.tup vs) ∨ KTup W.K a vs
theorem TupAt.mono {W : Cw} {G G' : Hp} {a : Addr} {vs : List V} (e : Same G G') (h : TupAt W G a vs) : TupAt W G' a vs := h.elim (fun h => .inl (e _ _ h)) .inr
theorem TupAt.sq {W : Cw} {G H : Hp} {a : Addr} {vs : List V} (h : TupAt W G a vs) (e : Same G H) : SqT W.K H a vs := h.elim (fun h => SqT.of (e _ _ h)) (fun h => .inr h)
theorem TupAt.sq0 {W : Cw} {G : Hp} {a : Addr} {vs : List V} (h : TupAt W G a vs) : SqT W.K G a vs := h.elim (fun h => SqT.of h) (fun h => .inr h)
mutual
inductive Rp (W : Cw) (G : Hp) : V → D → Prop
  | non : Rp W G .non .non
  | bl (b : Bool) : Rp W G (.bl b) (.bl b)
  | int (i : Int) : Rp W G (.int i) (.int i)
  | str (z : Str) : Rp W G (.str z) (.str z)
  | tup {a : Addr} {vs : List V} {ds : List D} : TupAt W G a vs → RpAll W G vs ds → Rp W G (.ref a) (.tup ds)
  | lst {a : Addr} {vs : List V} {ds : List D} : G a = some (.lst vs) → RpAll W G vs ds → Rp W G (.ref a) (.lst ds)
  | dct {a : Addr} {vs : List (Key × V)} {ds : List (Key × D)} : G a = some (.dK vs) → RpKv W G vs ds → Rp W G (.ref a) (.dct ds)
  | obj {a dx C : Addr} {n : Nat} {ns : List Str} {vs : List V} {ds : List D} : W.cl n = some (C, ns) → vs.length = ns.length → G a = some (.ins C dx (ns.zip vs)) → RpAll W G vs ds → Rp W G (.ref a) (.obj n ds)
  | dk {d c : Addr} : W.dk = some (d, c) → Rp W G (.ref d) .dk
  | opq (v : V) : Rp W G v (.opq v)
inductive RpAll (W : Cw) (G : Hp) : List V → List D → Prop
  | nil : RpAll W G [] []
  | cons {v : V} {vs : List V} {d : D} {ds : List D} : Rp W G v d → RpAll W G vs ds → RpAll W G (v :: vs) (d :: ds)
inductive RpKv (W : Cw) (G : Hp) : List (Key × V) → List (Key × D) → Prop
  | nil : RpKv W G [] []
  | cons {k : Key} {v : V} {vs : List (Key × V)} {d : D} {ds : List (Key × D)} : Rp W G v d → RpKv W G vs ds → RpKv W G ((k, v) :: vs) ((k, d) :: ds)
end
section
variable {W : Cw} {G G' : Hp}
mutual
theorem Rp.mono (e : Same G G') : ∀ {v : V} {d : D}, Rp W G v d → Rp W G' v d
  | _, _, .non => .non
  | _, _, .bl b => .bl b
  | _, _, .int i => .int i
  | _, _, .str z => .str z
  | _, _, .tup h r => .tup (h.mono e) (RpAll.mono e r)
  | _, _, .lst h r => .lst (e _ _ h) (RpAll.mono e r)
  | _, _, .dct h r => .dct (e _ _ h) (RpKv.mono e r)
  | _, _, .obj c l h r => .obj c l (e _ _ h) (RpAll.mono e r)
  | _, _, .dk h => .dk h
  | _, _, .opq v => .opq v
theorem RpAll.mono (e : Same G G') : ∀ {vs : List V} {ds : List D}, RpAll W G vs ds → RpAll W G' vs ds
  | _, _, .nil => .nil
  | _, _, .cons h r => .cons (Rp.mono e h) (RpAll.mono e r)
theorem RpKv.mono (e : Same G G') : ∀ {vs : List (Key × V)} {ds : List (Key × D)}, RpKv W G vs ds → RpKv W G' vs ds
  | _, _, .nil => .nil
  | _, _, .cons h r => .cons (Rp.mono e h) (RpKv.mono e r)
end
mutual
/-- no list, no dict within -/
def solid : D → Bool
  | .tup ds => solids ds
  | .obj _ ds => solids ds
  | .lst _ => false
  | .dct _ => false
  | _ => true
def solids : List D → Bool
  | [] => true
  | d :: ds => solid d && solids ds
end
def solidK : List (Key × D) → Bool
  | [] => true
  | d :: ds => solid d.2 && solidK ds
/-- what is solid does not hang on lists, dicts -/
def SameT (G G' : Hp) : Prop := ∀ a o, G a = some o → (∀ xs, o ≠ .lst xs) → (∀ xs, o ≠ .dK xs) → G' a = some o
mutual
theorem Rp.solid (e : SameT G G') : ∀ {v : V} {d : D}, Rp W G v d → solid d = true → Rp W G' v d
  | _, _, .non, _ => .non
  | _, _, .bl b, _ => .bl b
  | _, _, .int i, _ => .int i
  | _, _, .str z, _ => .str z
  | _, _, .tup h r, s => .tup (h.elim (fun h => .inl (e _ _ h (fun _ z => nomatch z) (fun _ z => nomatch z))) .inr) (RpAll.solid e r s)
  | _, _, .lst h r, s => by cases s
  | _, _, .dct h r, s => by cases s
  | _, _, .obj c l h r, s => .obj c l (e _ _ h (fun _ z => nomatch z) (fun _ z => nomatch z)) (RpAll.solid e r s)
  | _, _, .dk h, _ => .dk h
  | _, _, .opq v, _ => .opq v
theorem RpAll.solid (e : SameT G G') : ∀ {vs : List V} {ds : List D}, RpAll W G vs ds → solids ds = true → RpAll W G' vs ds
  | _, _, .nil, _ => .nil
  | _, _, .cons h r, s => .cons (Rp.solid e h (Bool.and_eq_true_iff.mp s).1) (RpAll.solid e r (Bool.and_eq_true_iff.mp s).2)
end
theorem RpKv.solid (e : SameT G G') : ∀ {vs : List (Key × V)} {ds : List (Key × D)}, RpKv W G vs ds → solidK ds = true → RpKv W G' vs ds
  | _, _, .nil, _ => .nil
  | _, _, .cons h r, s => .cons (Rp.solid e h (Bool.and_eq_true_iff.mp s).1) (RpKv.solid e r (Bool.and_eq_true_iff.mp s).2)
theorem RpAll.len : ∀ {vs : List V} {ds : List D}, RpAll W G vs ds → vs.length = ds.length
  | _, _, .nil => rfl
  | _, _, .cons _ r => by rw [List.length_cons, List.length_cons, RpAll.len r]
theorem RpKv.len : ∀ {vs : List (Key × V)} {ds : List (Key × D)}, RpKv W G vs ds → vs.length = ds.length
  | _, _, .nil => rfl
  | _, _, .cons _ r => by rw [List.length_cons, List.length_cons, RpKv.len r]
theorem RpKv.keys : ∀ {vs : List (Key × V)} {ds : List (Key × D)}, RpKv W G vs ds → vs.map (·.1) = ds.map (·.1)
  | _, _, .nil => rfl
  | _, _, .cons _ r => by rw [List.map_cons, List.map_cons, RpKv.keys r]
theorem RpAll.get : ∀ {vs : List V} {ds : List D} {i : Nat} {d : D}, RpAll W G vs ds → ds[i]? = some d → ∃ v, vs[i]? = some v ∧ Rp W G v d
  | _, _, _, _, .nil, h => by simp at h
  | _, _, 0, _, .cons r _, h => by
    simp at h
    subst h
    exact ⟨_, rfl, r⟩
  | _, _, i + 1, _, .cons _ t, h => by
    obtain ⟨v, h1, h2⟩ := RpAll.get (i := i) t (by simpa using h)
    exact ⟨v, by simpa using h1, h2⟩
theorem RpAll.getV : ∀ {vs : List V} {ds : List D} {i : Nat} {v : V}, RpAll W G vs ds → vs[i]? = some v → ∃ d, ds[i]? = some d ∧ Rp W G v d
  | _, _, _, _, .nil, h => by simp at h
  | _, _, 0, _, .cons r _, h => by
    simp at h
    subst h
    exact ⟨_, rfl, r⟩
  | _, _, i + 1, _, .cons _ t, h => by
    obtain ⟨v, h1, h2⟩ := RpAll.getV (i := i) t (by simpa using h)
    exact ⟨v, by simpa using h1, h2⟩
theorem RpAll.app : ∀ {vs ws : List V} {ds es : List D}, RpAll W G vs ds → RpAll W G ws es → RpAll W G (vs ++ ws) (ds ++ es)
  | _, _, _, _, .nil, s => s
  | _, _, _, _, .cons r t, s => .cons r (RpAll.app t s)
theorem RpAll.take : ∀ {vs : List V} {ds : List D} (n : Nat), RpAll W G vs ds → RpAll W G (vs.take n) (ds.take n)
  | _, _, 0, _ => .nil
  | _, _, _ + 1, .nil => .nil
  | _, _, n + 1, .cons r t => .cons r (RpAll.take n t)
theorem RpAll.drop : ∀ {vs : List V} {ds : List D} (n : Nat), RpAll W G vs ds → RpAll W G (vs.drop n) (ds.drop n)
  | _, _, 0, r => r
  | _, _, _ + 1, .nil => .nil
  | _, _, n + 1, .cons _ t => RpAll.drop n t
theorem RpAll.rev : ∀ {vs : List V} {ds : List D}, RpAll W G vs ds → RpAll W G vs.reverse ds.reverse
  | _, _, .nil => .nil
  | _, _, .cons r t => by
    rw [List.reverse_cons, List.reverse_cons]
    exact (RpAll.rev t).app (.cons r .nil)
theorem RpAll.set {v : V} {d : D} (r : Rp W G v d) : ∀ {vs : List V} {ds : List D} (i : Nat), RpAll W G vs ds → RpAll W G (vs.set i v) (ds.set i d)
  | _, _, _, .nil => .nil
  | _, _, 0, .cons _ t => .cons r t
  | _, _, i + 1, .cons q t => .cons q (RpAll.set r i t)
theorem RpAll.erase : ∀ {vs : List V} {ds : List D} (i : Nat), RpAll W G vs ds → RpAll W G (vs.eraseIdx i) (ds.eraseIdx i)
  | _, _, _, .nil => .nil
  | _, _, 0, .cons _ t => t
  | _, _, i + 1, .cons q t => .cons q (RpAll.erase i t)
end
/-! ### what a name holds -/
inductive Sl where
  | un
  | fz (d : D)
  | own (p : Addr) (ds : List D)
  | ownD (p : Addr) (kvs : List (Key × D))
  | ownL (p : Addr) (kvs : List (Key × (Addr × List D)))
abbrev GL := List Sl
def Sl.as : Sl → List Addr
  | .own p _ => [p]
  | .ownD p _ => [p]
  | .ownL p kvs => p :: kvs.map fun k => k.2.1
  | _ => []
def LsAt (W : Cw) (G H : Hp) (p : Addr) (ds : List D) : Prop := ∃ vs, H p = some (.lst vs) ∧ RpAll W G vs ds
def SlOk (W : Cw) (G H : Hp) (o : Option V) : Sl → Prop
  | .un => True
  | .fz d => ∃ v, o = some v ∧ Rp W G v d
  | .own p ds => o = some (.ref p) ∧ LsAt W G H p ds
  | .ownD p kvs => o = some (.ref p) ∧ ∃ vs, H p = some (.dK vs) ∧ RpKv W G vs kvs
  | .ownL p kvs => o = some (.ref p) ∧ H p = some (.dK (kvs.map fun k => (k.1, V.ref k.2.1))) ∧ (∀ k ∈ kvs, LsAt W G H k.2.1 k.2.2) ∧ (p :: kvs.map fun k => k.2.1).Nodup
theorem SlOk.mono {W : Cw} {G G' H H' : Hp} {o : Option V} {s : Sl} (h : SlOk W G H o s) (e : Same G G') (k : ∀ p ∈ s.as, H' p = H p) : SlOk W G' H' o s := by
  cases s with
  | un => trivial
  | fz d => obtain ⟨v, a, b⟩ := h; exact ⟨v, a, b.mono e⟩
  | own p ds =>
    obtain ⟨a, vs, b, c⟩ := h
    exact ⟨a, vs, by rw [k p (List.mem_singleton.mpr rfl)]; exact b, c.mono e⟩
  | ownD p kvs =>
    obtain ⟨a, vs, b, c⟩ := h
    exact ⟨a, vs, by rw [k p (List.mem_singleton.mpr rfl)]; exact b, c.mono e⟩
  | ownL p kvs =>
    obtain ⟨a, b, c, d⟩ := h
    refine ⟨a, by rw [k p List.mem_cons_self]; exact b, fun q hq => ?_, d⟩
    obtain ⟨vs, x, y⟩ := c q hq
    exact ⟨vs, by rw [k _ (List.mem_cons_of_mem _ (List.mem_map.mpr ⟨q, hq, rfl⟩))]; exact x, y.mono e⟩
theorem SlOk.there {W : Cw} {G H : Hp} {o : Option V} {s : Sl} (h : SlOk W G H o s) : ∀ p ∈ s.as, (∃ xs, H p = some (.lst xs)) ∨ ∃ xs, H p = some (.dK xs) := by
  intro p hp
  cases s with
  | un => cases hp
  | fz d => cases hp
  | own q ds =>
    obtain ⟨a, vs, b, c⟩ := h
    cases List.mem_singleton.mp hp
    exact .inl ⟨_, b⟩
  | ownD q kvs =>
    obtain ⟨a, vs, b, c⟩ := h
    cases List.mem_singleton.mp hp
    exact .inr ⟨_, b⟩
  | ownL q kvs =>
    obtain ⟨a, b, c, d⟩ := h
    rcases List.mem_cons.mp hp with e | e
    · subst e; exact .inr ⟨_, b⟩
    · obtain ⟨k, hk, e⟩ := List.mem_map.mp e
      obtain ⟨vs, x, y⟩ := c k hk
      subst e
      exact .inl ⟨_, x⟩
/-- all is kept but the deck's two objects -/
def Kp (W : Cw) (H H' : Hp) : Prop := ∀ b o, H b = some o → (∀ d c, W.dk = some (d, c) → b ≠ d ∧ b ≠ c) → H' b = some o
theorem Kp.refl {W : Cw} {H : Hp} : Kp W H H := fun _ _ h _ => h
theorem Kp.trans {W : Cw} {H H1 H2 : Hp} (a : Kp W H H1) (b : Kp W H1 H2) : Kp W H H2 := fun c o h z => b c o (a c o h z) z
theorem Kp.of {W : Cw} {H H' : Hp} (s : Same H H') : Kp W H H' := fun b o h _ => s b o h
/-- what is asked of the deck's word -/
structure DkLaw (DkAt : Hp → Addr → Addr → Prop) : Prop where
  there : ∀ H d c, DkAt H d c → H d ≠ none ∧ H c ≠ none
  tup : ∀ H d c, DkAt H d c → (∀ xs, H d ≠ some (.tup xs)) ∧ ∀ xs, H c ≠ some (.tup xs)
  keep : ∀ H H' d c, DkAt H d c → H' d = H d → H' c = H c → DkAt H' d c
structure Dst (B : Bs) (m : Nat) (G : Hp) (γ : GL) (σ : L2.St) (H : Hp) : Prop where
  law : ∀ m, DkLaw (B.DkAt m)
  le : m ≤ B.cost
  up : ∀ m m' H d c, m ≤ m' → B.DkAt m H d c → B.DkAt m' H d c
  sub : Same G H
  sub0 : Same B.G0 G
  kept : Kp B.W B.H0 H
  fresh : ∀ p, B.H0 p ≠ none → B.G0 p = none → G p = none
  tups : ∀ p xs, H p = some (.tup xs) → G p = some (.tup xs)
  dkok : ∀ d c, B.W.dk = some (d, c) → B.DkAt m H d c ∧ B.H0 d ≠ none ∧ B.H0 c ≠ none ∧ B.G0 d = none ∧ B.G0 c = none
  len : σ.length = γ.length
  slot : ∀ (i : Nat) (s : Sl), γ[i]? = some s → ∃ o, σ[i]? = some o ∧ SlOk B.W G H o s
  off : ∀ (i : Nat) (s : Sl) (p : Addr), γ[i]? = some s → p ∈ s.as → B.H0 p = none ∧ G p = none
  nd : ∀ (i j : Nat) (p : Addr) (s t : Sl), γ[i]? = some s → γ[j]? = some t → p ∈ s.as → p ∈ t.as → i = j
section
variable {B : Bs} {m m' : Nat} {G G' : Hp} {γ γ' : GL} {σ σ' : L2.St} {H H' : Hp} {p : Addr}
theorem Dst.free0 (S : Dst B m G γ σ H) (hp : H p = none) : B.H0 p = none := by
  cases q : B.H0 p with
  | none => rfl
  | some o =>
    by_cases z : ∀ d c, B.W.dk = some (d, c) → p ≠ d ∧ p ≠ c
    · rw [S.kept p o q z] at hp
      cases hp
    · exfalso
      apply z
      intro d c e
      obtain ⟨h1, _⟩ := S.dkok d c e
      obtain ⟨t1, t2⟩ := (S.law _).there _ _ _ h1
      exact ⟨fun e => t1 (e ▸ hp), fun e => t2 (e ▸ hp)⟩
theorem Dst.offdk (S : Dst B m G γ σ H) (h0 : B.H0 p = none) : ∀ d c, B.W.dk = some (d, c) → p ≠ d ∧ p ≠ c := fun d c e => by
  obtain ⟨_, t1, t2, _⟩ := S.dkok d c e
  exact ⟨fun z => t1 (z ▸ h0), fun z => t2 (z ▸ h0)⟩
theorem Dst.gdk (S : Dst B m G γ σ H) : ∀ d c, B.W.dk = some (d, c) → G d = none ∧ G c = none := fun d c e => by
  obtain ⟨_, t1, t2, t3, t4⟩ := S.dkok d c e
  exact ⟨S.fresh _ t1 t3, S.fresh _ t2 t4⟩
/-- an address that no slot has -/
def NoSlot (γ : GL) (p : Addr) : Prop := ∀ (i : Nat) (s : Sl), γ[i]? = some s → p ∉ s.as
theorem Dst.noslot (S : Dst B m G γ σ H) (hp : H p = none) : NoSlot γ p := fun i s e z => by
  obtain ⟨o, _, h⟩ := S.slot i s e
  rcases h.there p z with ⟨xs, h⟩ | ⟨xs, h⟩ <;> (rw [h] at hp; cases hp)
/-- the heaps change, not the slots -/
theorem Dst.heapsC (S : Dst B m G γ σ H) (hm : m' ≤ B.cost) (s1 : Same G G') (s2 : Same G' H') (kp : ∀ b o, B.H0 b ≠ none → H b = some o → (∀ d c, B.W.dk = some (d, c) → b ≠ d ∧ b ≠ c) → H' b = some o)
    (fr : ∀ p, B.H0 p ≠ none → B.G0 p = none → G' p = none) (tu : ∀ p xs, H' p = some (.tup xs) → G' p = some (.tup xs)) (hd : ∀ d c, B.W.dk = some (d, c) → B.DkAt m' H' d c)
    (sl : ∀ (i : Nat) (s : Sl) (p : Addr), γ[i]? = some s → p ∈ s.as → H' p = H p ∧ G' p = none) : Dst B m' G' γ σ H' where
  law := S.law
  le := hm
  up := S.up
  sub := s2
  sub0 := S.sub0.trans s1
  kept := fun b o e z => kp b o (by rw [e]; exact fun z => nomatch z) (S.kept b o e z) z
  fresh := fr
  tups := tu
  dkok := fun d c e => ⟨hd d c e, (S.dkok d c e).2⟩
  len := S.len
  slot := fun i s e => by
    obtain ⟨o, h1, h2⟩ := S.slot i s e
    exact ⟨o, h1, h2.mono s1 fun p hp => (sl i s p e hp).1⟩
  off := fun i s p e hp => ⟨(S.off i s p e hp).1, (sl i s p e hp).2⟩
  nd := S.nd
theorem Dst.heaps (S : Dst B m G γ σ H) (s1 : Same G G') (s2 : Same G' H') (kp : ∀ b o, B.H0 b ≠ none → H b = some o → (∀ d c, B.W.dk = some (d, c) → b ≠ d ∧ b ≠ c) → H' b = some o)
    (fr : ∀ p, B.H0 p ≠ none → B.G0 p = none → G' p = none) (tu : ∀ p xs, H' p = some (.tup xs) → G' p = some (.tup xs)) (hd : ∀ d c, B.W.dk = some (d, c) → B.DkAt m H' d c)
    (sl : ∀ (i : Nat) (s : Sl) (p : Addr), γ[i]? = some s → p ∈ s.as → H' p = H p ∧ G' p = none) : Dst B m G' γ σ H' := S.heapsC S.le s1 s2 kp fr tu hd sl
/-- the slots change, not the heaps -/
theorem Dst.slots (S : Dst B m G γ σ H) (hl : σ'.length = γ'.length) (hs : ∀ (i : Nat) (s : Sl), γ'[i]? = some s → (∃ o, σ'[i]? = some o ∧ SlOk B.W G H o s) ∧ ∀ p ∈ s.as, B.H0 p = none ∧ G p = none)
    (nd : ∀ (i j : Nat) (p : Addr) (s t : Sl), γ'[i]? = some s → γ'[j]? = some t → p ∈ s.as → p ∈ t.as → i = j) : Dst B m G γ' σ' H where
  law := S.law
  le := S.le
  up := S.up
  sub := S.sub
  sub0 := S.sub0
  kept := S.kept
  fresh := S.fresh
  tups := S.tups
  dkok := S.dkok
  len := hl
  slot := fun i s e => (hs i s e).1
  off := fun i s p e hp => (hs i s e).2 p hp
  nd := nd
/-- a fresh object, not a tuple, is laid, known to none yet -/
theorem Dst.laid (S : Dst B m G γ σ H) {o : HO} (no : ∀ xs, o ≠ .tup xs) (hp : H p = none) : Dst B m G γ σ (upd H p o) := by
  refine S.heaps (Same.refl _) (fun b u e => by rw [upd_ne (ne_of_none (S.sub b u e) hp)]; exact S.sub b u e) (fun b u _ e _ => by rw [upd_ne (ne_of_none e hp)]; exact e) S.fresh (fun q xs e => ?_) (fun d c e => ?_) fun i s q e hq => ⟨upd_ne (show q ≠ p from fun z => S.noslot hp i s e (by rw [← z]; exact hq)), (S.off i s q e hq).2⟩
  · by_cases z : q = p
    · subst z; rw [upd_same] at e; cases e; exact absurd rfl (no xs)
    · rw [upd_ne z] at e; exact S.tups q xs e
  · obtain ⟨n1, n2⟩ := S.offdk (S.free0 hp) d c e
    exact (S.law _).keep _ _ _ _ (S.dkok d c e).1 (upd_ne n1.symm) (upd_ne n2.symm)
/-- an object that no slot has becomes one that is read alone -/
theorem Dst.frz (S : Dst B m G γ σ H) {o : HO} (hp : H p = some o) (h0 : B.H0 p = none) (hg : G p = none) (hn : NoSlot γ p) : Dst B m (upd G p o) γ σ H ∧ Same G (upd G p o) := by
  have sm : Same G (upd G p o) := fun b u e => by rw [upd_ne (ne_of_none e hg)]; exact e
  refine ⟨S.heaps sm (fun b u e => ?_) (fun b u _ e _ => e) (fun q h1 h2 => ?_) (fun q xs e => ?_) (fun d c e => (S.dkok d c e).1) fun i s q e hq => ⟨rfl, ?_⟩, sm⟩
  · by_cases z : b = p
    · subst z; rw [upd_same] at e; cases e; exact hp
    · rw [upd_ne z] at e; exact S.sub b u e
  · rw [upd_ne (show q ≠ p from fun z => h1 (by rw [z]; exact h0))]; exact S.fresh q h1 h2
  · have h := S.tups q xs e
    rw [upd_ne (ne_of_none h hg)]; exact h
  · rw [upd_ne (show q ≠ p from fun z => hn i s e (by rw [← z]; exact hq))]; exact (S.off i s q e hq).2
/-- both at once -/
theorem Dst.new (S : Dst B m G γ σ H) {o : HO} (hp : H p = none) : Dst B m (upd G p o) γ σ (upd H p o) ∧ Same G (upd G p o) := by
  have hg : G p = none := S.sub.free hp
  have h0 := S.free0 hp
  have sm : Same G (upd G p o) := fun b u e => by rw [upd_ne (ne_of_none e hg)]; exact e
  refine ⟨S.heaps sm (fun b u e => ?_) (fun b u _ e _ => by rw [upd_ne (ne_of_none e hp)]; exact e) (fun q h1 h2 => ?_) (fun q xs e => ?_) (fun d c e => ?_) fun i s q e hq => ?_, sm⟩
  · by_cases z : b = p
    · subst z; rw [upd_same] at e ⊢; exact e
    · rw [upd_ne z] at e ⊢; exact S.sub b u e
  · rw [upd_ne (show q ≠ p from fun z => h1 (by rw [z]; exact h0))]; exact S.fresh q h1 h2
  · by_cases z : q = p
    · subst z; rw [upd_same] at e ⊢; exact e
    · rw [upd_ne z] at e ⊢; exact S.tups q xs e
  · obtain ⟨n1, n2⟩ := S.offdk h0 d c e
    exact (S.law _).keep _ _ _ _ (S.dkok d c e).1 (upd_ne n1.symm) (upd_ne n2.symm)
  · have n : q ≠ p := fun z => S.noslot hp i s e (z ▸ hq)
    exact ⟨upd_ne n, by rw [upd_ne n]; exact (S.off i s q e hq).2⟩
/-- an object that none knows is changed -/
theorem Dst.offed (S : Dst B m G γ σ H) {o : HO} (no : ∀ xs, o ≠ .tup xs) (hg : G p = none) (h0 : B.H0 p = none) (hn : NoSlot γ p) : Dst B m G γ σ (upd H p o) := by
  refine S.heaps (Same.refl _) (fun b u e => by rw [upd_ne (ne_of_none e hg)]; exact S.sub b u e) (fun b u z e _ => by rw [upd_ne (show b ≠ p from fun q => z (by rw [q]; exact h0))]; exact e) S.fresh (fun q xs e => ?_) (fun d c e => ?_) fun i s q e hq => ⟨upd_ne (show q ≠ p from fun z => hn i s e (by rw [← z]; exact hq)), (S.off i s q e hq).2⟩
  · by_cases z : q = p
    · subst z; rw [upd_same] at e; cases e; exact absurd rfl (no xs)
    · rw [upd_ne z] at e; exact S.tups q xs e
  · obtain ⟨n1, n2⟩ := S.offdk h0 d c e
    exact (S.law _).keep _ _ _ _ (S.dkok d c e).1 (upd_ne n1.symm) (upd_ne n2.symm)
/-- a slot is stored: an own thing's addresses are no other slot's -/
theorem slot_set (S : Dst B m G γ σ H) {i : Nat} {v : V} {s : Sl} (ok : SlOk B.W G H (some v) s) (ho : ∀ p ∈ s.as, B.H0 p = none ∧ G p = none ∧ ∀ (j : Nat) t, j ≠ i → γ[j]? = some t → p ∉ t.as) : Dst B m G (γ.set i s) (σ.set i (some v)) H := by
  have at1 : ∀ (j : Nat) (u : Sl), (γ.set i s)[j]? = some u → (j = i ∧ u = s ∧ i < γ.length) ∨ (j ≠ i ∧ γ[j]? = some u) := fun j u e => by
    by_cases z : i = j
    · subst z
      by_cases l : i < γ.length
      · rw [List.getElem?_set_self l] at e
        cases e
        exact .inl ⟨rfl, rfl, l⟩
      · rw [List.getElem?_eq_none (by rw [List.length_set]; omega)] at e
        cases e
    · rw [List.getElem?_set_ne z] at e
      exact .inr ⟨fun q => z q.symm, e⟩
  refine S.slots (by rw [List.length_set, List.length_set]; exact S.len) (fun j u e => ?_) fun j k p u t e1 e2 p1 p2 => ?_
  · rcases at1 j u e with ⟨e1, e2, l⟩ | ⟨n, e⟩
    · subst e1 e2
      exact ⟨⟨some v, by rw [List.getElem?_set_self (by rw [S.len]; exact l)], ok⟩, fun p hp => ⟨(ho p hp).1, (ho p hp).2.1⟩⟩
    · obtain ⟨o, h1, h2⟩ := S.slot j u e
      exact ⟨⟨o, by rw [List.getElem?_set_ne n.symm]; exact h1, h2⟩, fun p hp => S.off j u p e hp⟩
  · rcases at1 j u e1 with ⟨a1, a2, _⟩ | ⟨n1, f1⟩
    · rcases at1 k t e2 with ⟨b1, b2, _⟩ | ⟨n2, f2⟩
      · rw [a1, b1]
      · subst a2
        exact absurd p2 ((ho p p1).2.2 k t n2 f2)
    · rcases at1 k t e2 with ⟨b1, b2, _⟩ | ⟨n2, f2⟩
      · subst b2
        exact absurd p1 ((ho p p2).2.2 j u n1 f1)
      · exact S.nd j k p u t f1 f2 p1 p2
theorem Dst.set (S : Dst B m G γ σ H) {i : Nat} {v : V} {d : D} (r : Rp B.W G v d) : Dst B m G (γ.set i (.fz d)) (σ.set i (some v)) H :=
  slot_set S ⟨v, rfl, r⟩ fun _ z => nomatch z
/-- the slots change, where the word for each is still so -/
theorem Dst.reslot (S : Dst B m G γ σ H) (hl : σ'.length = γ'.length) (hs : ∀ (i : Nat) s, γ'[i]? = some s → s = .un ∨ (γ[i]? = some s ∧ σ'[i]? = σ[i]?)) : Dst B m G γ' σ' H := by
  refine S.slots hl (fun i s e => ?_) fun i j p s t e1 e2 p1 p2 => ?_
  · rcases hs i s e with z | ⟨h1, h2⟩
    · subst z
      have l : i < σ'.length := by rw [hl]; exact (List.getElem?_eq_some_iff.mp e).1
      exact ⟨⟨σ'[i], List.getElem?_eq_getElem l, trivial⟩, fun _ z => nomatch z⟩
    · obtain ⟨o, k1, k2⟩ := S.slot i s h1
      exact ⟨⟨o, by rw [h2]; exact k1, k2⟩, fun p hp => S.off i s p h1 hp⟩
  · rcases hs i s e1 with z | ⟨h1, _⟩
    · subst z; cases p1
    · rcases hs j t e2 with z | ⟨h2, _⟩
      · subst z; cases p2
      · exact S.nd i j p s t h1 h2 p1 p2
/-- a name's word is weakened -/
theorem Dst.weak (S : Dst B m G γ σ H) {i : Nat} : Dst B m G (γ.set i .un) σ H := S.reslot (by rw [List.length_set]; exact S.len) fun j s e => by
  by_cases z : i = j
  · subst z
    by_cases l : i < γ.length
    · rw [List.getElem?_set_self l] at e; cases e; exact .inl rfl
    · rw [List.getElem?_eq_none (by rw [List.length_set]; omega)] at e; cases e
  · rw [List.getElem?_set_ne z] at e
    exact .inr ⟨e, rfl⟩
end
end EL
namespace EL
open PySem PySem.Spec PyProof.Rows L2
/-- the slots, and how many draws there were -/
structure Gm where
  sl : GL
  ct : Nat
abbrev DstG (B : Bs) (G : Hp) (γ : Gm) (σ : L2.St) (H : Hp) : Prop := Dst B γ.ct G γ.sl σ H
/-! ### readings without a heap, that are reckoned -/
abbrev DT := Gm → (D → Gm → Prop) → Prop
abbrev DA := Gm → (List D → Gm → Prop) → Prop
abbrev DKv := Gm → (List (Key × D) → Gm → Prop) → Prop
abbrev DB := Gm → (Prop → Gm → Prop) → Prop
def tD (B : Bs) (t : DT) : TE := fun σ H Q => ∃ G γ R, DstG B G γ σ H ∧ t γ R ∧ ∀ d γ' G' v H', R d γ' → Same G G' → DstG B G' γ' σ H' → Rp B.W G' v d → Q v H'
def tDA (B : Bs) (t : DA) : TA := fun σ H Q => ∃ G γ R, DstG B G γ σ H ∧ t γ R ∧ ∀ ds γ' G' vs H', R ds γ' → Same G G' → DstG B G' γ' σ H' → RpAll B.W G' vs ds → Q vs H'
def tDB (B : Bs) (t : DB) : TT := fun σ H Q => ∃ G γ R, DstG B G γ σ H ∧ t γ R ∧ ∀ p (b : Bool) γ' G' H', R p γ' → (b = true ↔ p) → Same G G' → DstG B G' γ' σ H' → Q b H'
/-- a list that is new and not yet handed on -/
def tDF (B : Bs) (t : DA) : TE := fun σ H Q => ∃ G γ R, DstG B G γ σ H ∧ t γ R ∧ ∀ ds γ' G' p vs H', R ds γ' → Same G G' → DstG B G' γ' σ H' → H' p = some (.lst vs) → RpAll B.W G' vs ds → B.H0 p = none → G' p = none → NoSlot γ'.sl p → Q (.ref p) H'
/-- a dict likewise -/
def tDFd (B : Bs) (t : DKv) : TE := fun σ H Q => ∃ G γ R, DstG B G γ σ H ∧ t γ R ∧ ∀ ds γ' G' p vs H', R ds γ' → Same G G' → DstG B G' γ' σ H' → H' p = some (.dK vs) → RpKv B.W G' vs ds → B.H0 p = none → G' p = none → NoSlot γ'.sl p → Q (.ref p) H'
section
variable {X : Cx} {B : Bs} {G G' : Hp} {γ γ' : Gm} {σ : L2.St} {H H' : Hp} {e a b : Expr} {ta tb : DT} {pos : Pos}
theorem pe_imp {t t' : TE} (h : PE X e t) (k : ∀ σ H Q, t' σ H Q → t σ H Q) : PE X e t' := ⟨fun pins s σ H Q I q => h.run pins s σ H Q I (k σ H Q q)⟩
theorem pt_imp {t t' : TT} (h : PT X e t) (k : ∀ σ H Q, t' σ H Q → t σ H Q) : PT X e t' := ⟨fun pins s σ H Q I q => h.run pins s σ H Q I (k σ H Q q)⟩
theorem pw_imp {t t' : TT} (h : PW X e t) (k : ∀ σ H Q, t' σ H Q → t σ H Q) : PW X e t' := ⟨fun w pins s σ H Q I q => h.run w pins s σ H Q I (k σ H Q q)⟩
theorem pa_imp {es : List Expr} {t t' : TA} (h : PA X es t) (k : ∀ σ H Q, t' σ H Q → t σ H Q) : PA X es t' := ⟨fun p pins s σ H Q I q => h.run p pins s σ H Q I (k σ H Q q)⟩
theorem ps_imp {st : Stmt} {t t' : TS} (h : PS X st t) (k : ∀ D σ H, t' D σ H → t D σ H) : PS X st t' := ⟨fun pins s σ H D I q => h.run pins s σ H D I (k D σ H q)⟩
theorem pss_imp {st : List Stmt} {t t' : TS} (h : PSs X st t) (k : ∀ D σ H, t' D σ H → t D σ H) : PSs X st t' := ⟨fun pins s σ H D I q => h.run pins s σ H D I (k D σ H q)⟩
theorem OpR.or {f : Value → Value → Sem Value} {r r' : R2} (h : OpR X f r) (h' : OpR X f r') : OpR X f (fun x y H Q => r x y H Q ∨ r' x y H Q) := fun pins s σ H x y v u Q I rx ry q =>
  q.elim (h pins s σ H x y v u Q I rx ry) (h' pins s σ H x y v u Q I rx ry)
theorem CallR.or {f : Value} {r r' : List V → Hp → VK → Prop} (h : CallR X f r) (h' : CallR X f r') : CallR X f (fun xs H Q => r xs H Q ∨ r' xs H Q) := fun pins s σ H xs us Q I rx q =>
  q.elim (h pins s σ H xs us Q I rx) (h' pins s σ H xs us Q I rx)
theorem MtR.or {id : String} {r r' : V → List V → Hp → VK → Prop} (h : MtR X id r) (h' : MtR X id r') : MtR X id (fun x xs H Q => r x xs H Q ∨ r' x xs H Q) := fun pins s σ H x xs v us Q I rx rs q =>
  q.elim (h pins s σ H x xs v us Q I rx rs) (h' pins s σ H x xs v us Q I rx rs)

/-! ### names, constants -/
def lookL : GL → Nat → Sl
  | [], _ => .un
  | s :: _, 0 => s
  | _ :: r, i + 1 => lookL r i
theorem lookL_get : ∀ {γ : GL} {i : Nat} {s : Sl}, lookL γ i = s → s ≠ .un → γ[i]? = some s
  | [], i, s, h, n => absurd h.symm n
  | u :: r, 0, s, h, _ => by
    have h : u = s := h
    rw [h]
    rfl
  | u :: r, i + 1, s, h, n => by
    have := lookL_get (γ := r) (i := i) h n
    simpa using this
def look (γ : Gm) (i : Nat) : Sl := lookL γ.sl i
theorem look_get {γ : Gm} {i : Nat} {s : Sl} (h : look γ i = s) (n : s ≠ .un) : γ.sl[i]? = some s := lookL_get h n
def putL : GL → Nat → Sl → GL
  | [], _, _ => []
  | _ :: r, 0, s => s :: r
  | u :: r, i + 1, s => u :: putL r i s
theorem putL_eq : ∀ (γ : GL) (i : Nat) (s : Sl), putL γ i s = γ.set i s
  | [], _, _ => rfl
  | _ :: _, 0, _ => rfl
  | u :: r, i + 1, s => by
    show u :: putL r i s = u :: r.set i s
    rw [putL_eq r i s]
def putS (γ : Gm) (i : Nat) (s : Sl) : Gm := ⟨putL γ.sl i s, γ.ct⟩
theorem putS_eq (γ : Gm) (i : Nat) (s : Sl) : putS γ i s = ⟨γ.sl.set i s, γ.ct⟩ := by
  unfold putS
  rw [putL_eq]
/-- what an own thing is, once it is read alone -/
def thaw : Sl → Option D
  | .own _ ds => some (.lst ds)
  | .ownD _ kvs => some (.dct kvs)
  | .ownL _ kvs => some (.dct (kvs.map fun k => (k.1, .lst k.2.2)))
  | _ => none
def dVar (i : Nat) : DT := fun γ R => match look γ i with
  | .fz d => R d γ
  | .own _ ds => R (.lst ds) (putS γ i (.fz (.lst ds)))
  | .ownD _ kvs => R (.dct kvs) (putS γ i (.fz (.dct kvs)))
  | .ownL _ kvs => R (.dct (kvs.map fun k => (k.1, .lst k.2.2))) (putS γ i (.fz (.dct (kvs.map fun k => (k.1, .lst k.2.2)))))
  | .un => False
theorem dVar_own {i : Nat} {γ : Gm} {R : D → Gm → Prop} {s : Sl} {d : D} (h : look γ i = s) (t : thaw s = some d) : dVar i γ R = R d (putS γ i (.fz d)) := by
  unfold dVar
  rw [h]
  cases s <;> first | (cases t; done) | (cases t; rfl)
/-- these addresses are read alone, too -/
def froz (G H : Hp) (l : List Addr) : Hp := fun b => if b ∈ l then H b else G b
theorem froz_in {G H : Hp} {l : List Addr} {b : Addr} (h : b ∈ l) : froz G H l b = H b := if_pos h
theorem froz_out {G H : Hp} {l : List Addr} {b : Addr} (h : b ∉ l) : froz G H l b = G b := if_neg h
theorem SlOk.thaw {W : Cw} {G H : Hp} {o : Option V} {s : Sl} {d : D} (h : SlOk W G H o s) (t : thaw s = some d) (e : Same G (froz G H s.as)) : ∃ v, o = some v ∧ Rp W (froz G H s.as) v d := by
  cases s with
  | un => cases t
  | fz d => cases t
  | own p ds =>
    cases t
    obtain ⟨a, vs, b, c⟩ := h
    exact ⟨_, a, .lst (by rw [froz_in (show p ∈ Sl.as (.own p ds) from List.mem_singleton.mpr rfl)]; exact b) (c.mono e)⟩
  | ownD p kvs =>
    cases t
    obtain ⟨a, vs, b, c⟩ := h
    exact ⟨_, a, .dct (by rw [froz_in (show p ∈ Sl.as (.ownD p kvs) from List.mem_singleton.mpr rfl)]; exact b) (c.mono e)⟩
  | ownL p kvs =>
    cases t
    obtain ⟨a, b, c, nd⟩ := h
    refine ⟨_, a, .dct (by rw [froz_in (show p ∈ Sl.as (.ownL p kvs) from List.mem_cons_self)]; exact b) ?_⟩
    have go : ∀ l : List (Key × (Addr × List D)), (∀ k ∈ l, k ∈ kvs) → RpKv W (froz G H (Sl.as (.ownL p kvs))) (l.map fun k => (k.1, V.ref k.2.1)) (l.map fun k => (k.1, D.lst k.2.2)) := by
      intro l
      induction l with
      | nil => exact fun _ => .nil
      | cons k l ih =>
        intro hl
        obtain ⟨vs, x, y⟩ := c k (hl k List.mem_cons_self)
        exact .cons (.lst (by rw [froz_in (show k.2.1 ∈ Sl.as (.ownL p kvs) from List.mem_cons_of_mem _ (List.mem_map.mpr ⟨k, hl k List.mem_cons_self, rfl⟩))]; exact x) (y.mono e)) (ih fun k hk => hl k (List.mem_cons_of_mem _ hk))
    exact go kvs fun _ h => h
theorem set_same {σ : L2.St} {i : Nat} {x : Option V} (h : σ[i]? = some x) : σ.set i x = σ := by
  apply List.ext_getElem?
  intro j
  by_cases z : i = j
  · subst z
    rw [List.getElem?_set_self (List.getElem?_eq_some_iff.mp h).1, h]
  · rw [List.getElem?_set_ne z]
/-- an own thing becomes one that is read alone -/
theorem Dst.freeze {m : Nat} {γ : GL} (S : Dst B m G γ σ H) {i : Nat} {s : Sl} {d : D} (h : γ[i]? = some s) (t : thaw s = some d) : Same G (froz G H s.as) ∧ Dst B m (froz G H s.as) (γ.set i (.fz d)) σ H ∧ ∃ v, σ[i]? = some (some v) ∧ Rp B.W (froz G H s.as) v d := by
  obtain ⟨o, h1, h2⟩ := S.slot i _ h
  have ho := fun p hp => S.off i s p h hp
  have sm : Same G (froz G H s.as) := fun b u e => by
    rw [froz_out fun z => by rw [(ho b z).2] at e; cases e]
    exact e
  obtain ⟨v, e, r⟩ := h2.thaw t sm
  subst e
  have Sw : Dst B m G (γ.set i .un) σ H := S.weak
  have Sw2 : Dst B m (froz G H s.as) (γ.set i .un) σ H := by
    refine Sw.heaps sm (fun b u e => ?_) (fun b u _ e _ => e) (fun q h1 h2 => ?_) (fun q xs e => ?_) (fun d c e => (S.dkok d c e).1) fun j u q e hq => ⟨rfl, ?_⟩
    · by_cases z : b ∈ s.as
      · rw [froz_in z] at e; exact e
      · rw [froz_out z] at e; exact S.sub b u e
    · rw [froz_out fun z => h1 (ho q z).1]; exact S.fresh q h1 h2
    · by_cases z : q ∈ s.as
      · rw [froz_in z]; exact e
      · rw [froz_out z]; exact S.tups q xs e
    · have hj : j ≠ i ∧ γ[j]? = some u := by
        by_cases z : i = j
        · subst z
          rw [List.getElem?_set_self (List.getElem?_eq_some_iff.mp h).1] at e
          cases e
          cases hq
        · rw [List.getElem?_set_ne z] at e
          exact ⟨fun q => z q.symm, e⟩
      rw [froz_out fun z => hj.1 (S.nd j i q u s hj.2 h hq z)]
      exact (S.off j u q hj.2 hq).2
  refine ⟨sm, ?_, v, h1, r⟩
  have S3 := Sw2.set (i := i) r
  rw [set_same h1, List.set_set] at S3
  exact S3
theorem d_var (i : Nat) {x : Str} {pos : Pos} (h : PE X (.Name x pos) (tVar i)) : PE X (.Name x pos) (tD B (dVar i)) := pe_imp h fun σ H Q ⟨G, γ, R, S, hr, k⟩ => by
  cases t : thaw (look γ i) with
  | none =>
    unfold dVar at hr
    cases e : look γ i with
    | fz d =>
      rw [e] at hr
      obtain ⟨o, h1, v, h2, h3⟩ := S.slot i _ (look_get e (fun z => nomatch z))
      subst h2
      exact ⟨v, h1, k _ _ _ _ _ hr (Same.refl _) S h3⟩
    | un => rw [e] at hr; exact hr.elim
    | own p ds => rw [e] at t; cases t
    | ownD p ds => rw [e] at t; cases t
    | ownL p ds => rw [e] at t; cases t
  | some d =>
    rw [dVar_own rfl t, putS_eq] at hr
    obtain ⟨sm, S', v, h1, r⟩ := S.freeze (look_get rfl (fun z => by rw [z] at t; cases t)) t
    exact ⟨_, h1, k _ _ _ _ _ hr sm S' r⟩
def dC (d : D) : DT := fun γ R => R d γ
theorem d_int {i : Int} {j pos} : PE X (.Constant (.int i) j pos) (tD B (dC (.int i))) := pe_imp pe_int fun σ H Q ⟨_, _, _, S, hr, k⟩ => k _ _ _ _ _ hr (Same.refl _) S (.int i)
theorem d_bl {b : Bool} {j pos} : PE X (.Constant (.bool b) j pos) (tD B (dC (.bl b))) := pe_imp pe_bl fun σ H Q ⟨_, _, _, S, hr, k⟩ => k _ _ _ _ _ hr (Same.refl _) S (.bl b)
theorem d_non {j pos} : PE X (.Constant .none j pos) (tD B (dC .non)) := pe_imp pe_non fun σ H Q ⟨_, _, _, S, hr, k⟩ => k _ _ _ _ _ hr (Same.refl _) S .non
theorem d_str {z : Str} {j pos} : PE X (.Constant (.str z) j pos) (tD B (dC (.str z))) := pe_imp pe_str fun σ H Q ⟨_, _, _, S, hr, k⟩ => k _ _ _ _ _ hr (Same.refl _) S (.str z)
/-- any known value -/
theorem d_opq {v : V} (h : PE X e (tC v)) : PE X e (tD B (dC (.opq v))) := pe_imp h fun σ H Q ⟨_, _, _, S, hr, k⟩ => k _ _ _ _ _ hr (Same.refl _) S (.opq v)

/-! ### operators -/
/-- what an operation of two values comes to -/
abbrev F2 := D → D → (D → Prop) → Prop
def OkR2 (B : Bs) (r : R2) (f : F2) : Prop := ∀ G γ σ H x y d e R Q, DstG B G γ σ H → Rp B.W G x d → Rp B.W G y e → f d e R →
  (∀ c G' v H', R c → Same G G' → DstG B G' γ σ H' → Rp B.W G' v c → Q v H') → r x y H Q
def dOp (f : F2) (ta tb : DT) : DT := fun γ R => ta γ fun x γ1 => tb γ1 fun y γ2 => f x y fun c => R c γ2
theorem dop_core {r : R2} {f : F2} (hr : OkR2 B r f) : ∀ σ H Q, tD B (dOp f ta tb) σ H Q → tOp r (tD B ta) (tD B tb) σ H Q := fun σ H Q ⟨G, γ, R, S, h, k⟩ =>
  ⟨G, γ, _, S, h, fun d γ1 G1 v H1 h1 s1 S1 r1 => ⟨G1, γ1, _, S1, h1, fun e γ2 G2 u H2 h2 s2 S2 r2 => hr _ _ _ _ _ _ _ _ _ _ S2 (r1.mono s2) r2 h2 fun c G3 w H3 h3 s3 S3 r3 => k _ _ _ _ _ h3 (s1.trans (s2.trans s3)) S3 r3⟩⟩
theorem d_op {op : Operator} {r : R2} {f : F2} (ho : OpR X (binaryOp op) r) (hr : OkR2 B r f) (ha : PE X a (tD B ta)) (hb : PE X b (tD B tb)) : PE X (.BinOp a op b pos) (tD B (dOp f ta tb)) := pe_imp (pe_op ho ha hb) (dop_core hr)
theorem d_ix {r : R2} {f : F2} (hi : IxR X r) (hr : OkR2 B r f) (ha : PE X a (tD B ta)) (hb : PE X b (tD B tb)) (hs : PlainIx b) : PE X (.Subscript a b pos) (tD B (dOp f ta tb)) := pe_imp (pe_ix hi ha hb hs) (dop_core hr)
theorem rpInt {W : Cw} {v : V} {i : Int} (h : Rp W G v (.int i)) : v = .int i := by cases h; rfl
theorem rpBl {W : Cw} {v : V} {i : Bool} (h : Rp W G v (.bl i)) : v = .bl i := by cases h; rfl
theorem rpStr {W : Cw} {v : V} {i : Str} (h : Rp W G v (.str i)) : v = .str i := by cases h; rfl
theorem rpNon {W : Cw} {v : V} (h : Rp W G v .non) : v = .non := by cases h; rfl
theorem sz_ok {n : Nat} (h : n ≤ 1000000) : n ≤ sizeLine := Nat.le_trans h (by decide)
theorem Dst.newTup {m : Nat} {γ : GL} (S : Dst B m G γ σ H) {vs : List V} {ds : List D} (r : RpAll B.W G vs ds) {p : Addr} (hp : H p = none) : ∃ G', Same G G' ∧ Dst B m G' γ σ (upd H p (.tup vs)) ∧ Rp B.W G' (.ref p) (.tup ds) := by
  obtain ⟨S2, sm⟩ := S.new (o := .tup vs) hp
  exact ⟨_, sm, S2, .tup (.inl upd_same) (r.mono sm)⟩
theorem Dst.newLst {m : Nat} {γ : GL} (S : Dst B m G γ σ H) {vs : List V} {ds : List D} (r : RpAll B.W G vs ds) {p : Addr} (hp : H p = none) : ∃ G', Same G G' ∧ Dst B m G' γ σ (upd H p (.lst vs)) ∧ Rp B.W G' (.ref p) (.lst ds) := by
  obtain ⟨S2, sm⟩ := S.new (o := .lst vs) hp
  exact ⟨_, sm, S2, .lst upd_same (r.mono sm)⟩
theorem Dst.newDct {m : Nat} {γ : GL} (S : Dst B m G γ σ H) {vs : List (Key × V)} {ds : List (Key × D)} (r : RpKv B.W G vs ds) {p : Addr} (hp : H p = none) : ∃ G', Same G G' ∧ Dst B m G' γ σ (upd H p (.dK vs)) ∧ Rp B.W G' (.ref p) (.dct ds) := by
  obtain ⟨S2, sm⟩ := S.new (o := .dK vs) hp
  exact ⟨_, sm, S2, .dct upd_same (r.mono sm)⟩
/-- ints -/
theorem ok_I {C : Int → Int → Prop} {g : Int → Int → Int} {f : F2} (hf : ∀ d e R, f d e R → ∃ i j, d = .int i ∧ e = .int j ∧ C i j ∧ R (.int (g i j))) : OkR2 B (rI C fun i j => .int (g i j)) f := by
  intro G γ σ H x y d e R Q S rx ry h k
  obtain ⟨i, j, rfl, rfl, c, h⟩ := hf _ _ _ h
  cases rpInt rx
  cases rpInt ry
  exact ⟨i, j, rfl, rfl, c, k _ _ _ _ h (Same.refl _) S (.int _)⟩
def addF : F2 := fun d e R => match d, e with
  | .int i, .int j => R (.int (i + j))
  | .str i, .str j => i.length + j.length ≤ 1000000 ∧ R (.str (i ++ j))
  | .tup ds, .tup es => ds.length + es.length ≤ 1000000 ∧ R (.tup (ds ++ es))
  | .lst ds, .lst es => ds.length + es.length ≤ 1000000 ∧ R (.lst (ds ++ es))
  | _, _ => False
def rAdd (K : PySem.W.Frag) : R2 := fun x y H Q => rI0 (fun i j => .int (i + j)) x y H Q ∨ ((∃ i j, x = .str i ∧ y = .str j ∧ i.length + j.length ≤ sizeLine ∧ Q (.str (i ++ j)) H) ∨ (rCatA K x y H Q ∨ rCat x y H Q))
theorem op_addD : OpR X (binaryOp .Add) (rAdd X.K) := OpR.or op_add (OpR.or op_add_str (OpR.or op_catA op_cat))
theorem ok_addD (hK : X.K = B.K) : OkR2 B (rAdd X.K) addF := by
  intro G γ σ H x y d e R Q S rx ry h k
  rw [hK]
  unfold addF at h
  split at h
  · cases rpInt rx
    cases rpInt ry
    exact .inl ⟨_, _, rfl, rfl, k _ _ _ _ h (Same.refl _) S (.int _)⟩
  · cases rpStr rx
    cases rpStr ry
    exact .inr (.inl ⟨_, _, rfl, rfl, sz_ok h.1, k _ _ _ _ h.2 (Same.refl _) S (.str _)⟩)
  · obtain ⟨hl, h⟩ := h
    cases rx with
    | @tup pa vs _ hs ra =>
      cases ry with
      | @tup pb us _ hs' ra' =>
        refine .inr (.inr (.inl ⟨_, _, _, _, rfl, rfl, hs.sq S.sub, hs'.sq S.sub, by rw [ra.len, ra'.len]; exact sz_ok hl, fun e => ?_, fun _ e => ?_, fun _ _ p hp => ?_⟩))
        · subst e
          cases ra
          exact k _ _ _ _ h (Same.refl _) S (.tup hs' ra')
        · subst e
          cases ra'
          rw [List.append_nil] at h
          exact k _ _ _ _ h (Same.refl _) S (.tup hs ra)
        · obtain ⟨G2, s2, S2, r2⟩ := S.newTup (ra.app ra') hp
          exact k _ _ _ _ h s2 S2 r2
  · obtain ⟨hl, h⟩ := h
    cases rx with
    | lst hs ra =>
      cases ry with
      | lst hs' ra' =>
        refine .inr (.inr (.inr ⟨_, _, _, _, rfl, rfl, S.sub _ _ hs, S.sub _ _ hs', by rw [ra.len, ra'.len]; exact sz_ok hl, fun p hp => ?_⟩))
        obtain ⟨G2, s2, S2, r2⟩ := S.newLst (ra.app ra') hp
        exact k _ _ _ _ h s2 S2 r2
  · exact h.elim
theorem d_add (hK : X.K = B.K) (ha : PE X a (tD B ta)) (hb : PE X b (tD B tb)) : PE X (.BinOp a .Add b pos) (tD B (dOp addF ta tb)) := d_op op_addD (ok_addD hK) ha hb
def subF : F2 := fun d e R => match d, e with
  | .int i, .int j => R (.int (i - j))
  | _, _ => False
theorem d_sub (ha : PE X a (tD B ta)) (hb : PE X b (tD B tb)) : PE X (.BinOp a .Sub b pos) (tD B (dOp subF ta tb)) := d_op op_sub (fun G γ σ H x y d e R Q S rx ry h k => by
  unfold subF at h
  split at h
  · cases rpInt rx
    cases rpInt ry
    exact ⟨_, _, rfl, rfl, k _ _ _ _ h (Same.refl _) S (.int _)⟩
  · exact h.elim) ha hb
/-- a list, many times -/
def repD (k : Int) (ds : List D) : List D := (List.replicate k.toNat ds).flatten
theorem rp_rep {W : Cw} {vs : List V} {ds : List D} (r : RpAll W G vs ds) : ∀ n : Nat, RpAll W G (List.replicate n vs).flatten (List.replicate n ds).flatten
  | 0 => .nil
  | n + 1 => by
    rw [List.replicate_succ, List.replicate_succ, List.flatten_cons, List.flatten_cons]
    exact r.app (rp_rep r n)
def mulF : F2 := fun d e R => match d, e with
  | .int i, .int j => CMulX i j ∧ R (.int (i * j))
  | .lst ds, .int k => (-(2 ^ 62) ≤ k ∧ k < 2 ^ 62 ∧ ds.length * k.toNat ≤ 1000000) ∧ R (.lst (repD k ds))
  | _, _ => False
def rMul : R2 := fun x y H Q => rI CMulX (fun i j => .int (i * j)) x y H Q ∨ rRep x y H Q
theorem ok_mulD : OkR2 B rMul mulF := by
  intro G γ σ H x y d e R Q S rx ry h k
  unfold mulF at h
  split at h
  · cases rpInt rx
    cases rpInt ry
    exact .inl ⟨_, _, rfl, rfl, h.1, k _ _ _ _ h.2 (Same.refl _) S (.int _)⟩
  · obtain ⟨⟨h0, h1, h2⟩, h⟩ := h
    cases rpInt ry
    cases rx with
    | lst hs ra =>
      refine .inr ⟨_, _, _, rfl, rfl, S.sub _ _ hs, by omega, by omega, by rw [ra.len]; exact sz_ok h2, fun p hp => ?_⟩
      obtain ⟨G2, s2, S2, r2⟩ := S.newLst (rp_rep ra _) hp
      exact k _ _ _ _ h s2 S2 r2
  · exact h.elim
theorem d_mul (ha : PE X a (tD B ta)) (hb : PE X b (tD B tb)) : PE X (.BinOp a .Mult b pos) (tD B (dOp mulF ta tb)) := d_op (OpR.or op_mulX op_rep) ok_mulD ha hb
def fdivF : F2 := fun d e R => match d, e with
  | .int i, .int j => CDivW i j ∧ R (.int (i / j))
  | _, _ => False
theorem d_fdiv (ha : PE X a (tD B ta)) (hb : PE X b (tD B tb)) : PE X (.BinOp a .FloorDiv b pos) (tD B (dOp fdivF ta tb)) := d_op op_fdivW (ok_I fun d e R h => by
  unfold fdivF at h
  split at h
  · exact ⟨_, _, rfl, rfl, h.1, h.2⟩
  · exact h.elim) ha hb
def modF : F2 := fun d e R => match d, e with
  | .int i, .int j => 0 < j ∧ R (.int (i % j))
  | _, _ => False
theorem d_mod (ha : PE X a (tD B ta)) (hb : PE X b (tD B tb)) : PE X (.BinOp a .Mod b pos) (tD B (dOp modF ta tb)) := d_op op_mod (ok_I fun d e R h => by
  unfold modF at h
  split at h
  · exact ⟨_, _, rfl, rfl, h.1, h.2⟩
  · exact h.elim) ha hb
def powF : F2 := fun d e R => match d, e with
  | .int i, .int j => CPow i j ∧ R (.int (i ^ j.toNat))
  | _, _ => False
theorem d_pow (ha : PE X a (tD B ta)) (hb : PE X b (tD B tb)) : PE X (.BinOp a .Pow b pos) (tD B (dOp powF ta tb)) := d_op op_pow (ok_I fun d e R h => by
  unfold powF at h
  split at h
  · exact ⟨_, _, rfl, rfl, h.1, h.2⟩
  · exact h.elim) ha hb
def shlF : F2 := fun d e R => match d, e with
  | .int i, .int j => CShl i j ∧ R (.int (i * 2 ^ j.toNat))
  | _, _ => False
theorem d_shl (ha : PE X a (tD B ta)) (hb : PE X b (tD B tb)) : PE X (.BinOp a .LShift b pos) (tD B (dOp shlF ta tb)) := d_op op_shlW (ok_I fun d e R h => by
  unfold shlF at h
  split at h
  · exact ⟨_, _, rfl, rfl, h.1, h.2⟩
  · exact h.elim) ha hb
def shrF : F2 := fun d e R => match d, e with
  | .int i, .int j => 0 ≤ j ∧ R (.int (i / 2 ^ j.toNat))
  | _, _ => False
theorem d_shr (ha : PE X a (tD B ta)) (hb : PE X b (tD B tb)) : PE X (.BinOp a .RShift b pos) (tD B (dOp shrF ta tb)) := d_op op_shr (ok_I fun d e R h => by
  unfold shrF at h
  split at h
  · exact ⟨_, _, rfl, rfl, h.1, h.2⟩
  · exact h.elim) ha hb
def andF : F2 := fun d e R => match d, e with
  | .int i, .int j => R (.int (Builtin.bitAnd i j))
  | _, _ => False
theorem d_band (ha : PE X a (tD B ta)) (hb : PE X b (tD B tb)) : PE X (.BinOp a .BitAnd b pos) (tD B (dOp andF ta tb)) := d_op op_and (fun G γ σ H x y d e R Q S rx ry h k => by
  unfold andF at h
  split at h
  · cases rpInt rx
    cases rpInt ry
    exact ⟨_, _, rfl, rfl, k _ _ _ _ h (Same.refl _) S (.int _)⟩
  · exact h.elim) ha hb
/-! ### comparisons: a proposition -/
abbrev FP := D → D → (Prop → Prop) → Prop
/-- a comparison's truth by values -/
def OkRP (B : Bs) (r : R2) (f : FP) : Prop := ∀ G γ σ H x y d e R Q, DstG B G γ σ H → Rp B.W G x d → Rp B.W G y e → f d e R →
  (∀ p (b : Bool) G' H', R p → (b = true ↔ p) → Same G G' → DstG B G' γ σ H' → Q (.bl b) H') → r x y H Q
def bCmp (f : FP) (ta tb : DT) : DB := fun γ R => ta γ fun x γ1 => tb γ1 fun y γ2 => f x y fun c => R c γ2
/-- the truth as a value -/
def dPr (t : DB) : DT := fun γ R => t γ fun p γ1 => ∀ b : Bool, (b = true ↔ p) → R (.bl b) γ1
theorem b_cmp {op : CmpOp} {r : R2} {f : FP} (ho : OpR X (compareOp op) r) (hr : OkRP B r f) (ha : PE X a (tD B ta)) (hb : PE X b (tD B tb)) (hm : behindInMarks op b = false) : PT X (.Compare a [op] [b] pos) (tDB B (bCmp f ta tb)) :=
  pt_imp (pt_cmpR ho ha hb hm) fun σ H Q ⟨G, γ, R, S, h, k⟩ =>
    ⟨G, γ, _, S, h, fun d γ1 G1 v H1 h1 s1 S1 r1 => ⟨G1, γ1, _, S1, h1, fun e γ2 G2 u H2 h2 s2 S2 r2 => hr _ _ _ _ _ _ _ _ _ _ S2 (r1.mono s2) r2 h2 fun p b G3 H3 h3 hp s3 S3 => ⟨b, rfl, k _ _ _ _ _ h3 hp (s1.trans (s2.trans s3)) S3⟩⟩⟩
theorem d_cmp {op : CmpOp} {r : R2} {f : FP} (ho : OpR X (compareOp op) r) (hr : OkRP B r f) (ha : PE X a (tD B ta)) (hb : PE X b (tD B tb)) (hm : behindInMarks op b = false) : PE X (.Compare a [op] [b] pos) (tD B (dPr (bCmp f ta tb))) :=
  pe_imp (pe_cmpR ho ha hb hm) fun σ H Q ⟨G, γ, R, S, h, k⟩ =>
    ⟨G, γ, _, S, h, fun d γ1 G1 v H1 h1 s1 S1 r1 => ⟨G1, γ1, _, S1, h1, fun e γ2 G2 u H2 h2 s2 S2 r2 => hr _ _ _ _ _ _ _ _ _ _ S2 (r1.mono s2) r2 h2 fun p b G3 H3 h3 hp s3 S3 => k _ _ _ _ _ (h3 b hp) (s1.trans (s2.trans s3)) S3 (.bl _)⟩⟩
def strLt (a b : Str) : Prop := a.cps.toList < b.cps.toList
def ltP : FP := fun d e R => match d, e with
  | .int i, .int j => R (i < j)
  | .str i, .str j => R (strLt i j)
  | _, _ => False
theorem ok_ltP : OkRP B (fun x y H Q => rI0 (fun i j => .bl (decide (i < j))) x y H Q ∨ ∃ i j, x = .str i ∧ y = .str j ∧ Q (.bl (decide (i.cps.toList < j.cps.toList))) H) ltP := by
  intro G γ σ H x y d e R Q S rx ry h k
  unfold ltP at h
  split at h
  · cases rpInt rx
    cases rpInt ry
    exact .inl ⟨_, _, rfl, rfl, k _ _ _ _ h (by simp) (Same.refl _) S⟩
  · cases rpStr rx
    cases rpStr ry
    exact .inr ⟨_, _, rfl, rfl, k _ _ _ _ h (by simp [strLt]) (Same.refl _) S⟩
  · exact h.elim
theorem op_ltP : OpR X (compareOp .Lt) (fun x y H Q => rI0 (fun i j => .bl (decide (i < j))) x y H Q ∨ ∃ i j, x = .str i ∧ y = .str j ∧ Q (.bl (decide (i.cps.toList < j.cps.toList))) H) := OpR.or op_lt op_lt_str
def leP : FP := fun d e R => match d, e with
  | .int i, .int j => R (i ≤ j)
  | _, _ => False
def gtP : FP := fun d e R => match d, e with
  | .int i, .int j => R (j < i)
  | _, _ => False
def geP : FP := fun d e R => match d, e with
  | .int i, .int j => R (j ≤ i)
  | _, _ => False
theorem ok_leP : OkRP B (rI0 fun i j => .bl (decide (i ≤ j))) leP := by
  intro G γ σ H x y d e R Q S rx ry h k
  unfold leP at h
  split at h
  · cases rpInt rx
    cases rpInt ry
    exact ⟨_, _, rfl, rfl, k _ _ _ _ h (by simp) (Same.refl _) S⟩
  · exact h.elim
theorem ok_gtP : OkRP B (rI0 fun i j => .bl (decide (j < i))) gtP := by
  intro G γ σ H x y d e R Q S rx ry h k
  unfold gtP at h
  split at h
  · cases rpInt rx
    cases rpInt ry
    exact ⟨_, _, rfl, rfl, k _ _ _ _ h (by simp) (Same.refl _) S⟩
  · exact h.elim
theorem ok_geP : OkRP B (rI0 fun i j => .bl (decide (j ≤ i))) geP := by
  intro G γ σ H x y d e R Q S rx ry h k
  unfold geP at h
  split at h
  · cases rpInt rx
    cases rpInt ry
    exact ⟨_, _, rfl, rfl, k _ _ _ _ h (by simp) (Same.refl _) S⟩
  · exact h.elim
/-! ### one place -/
def dUn (f : D → (D → Prop) → Prop) (ta : DT) : DT := fun γ R => ta γ fun x γ1 => f x fun c => R c γ1
def negF : D → (D → Prop) → Prop := fun d R => match d with
  | .int i => R (.int (-i))
  | _ => False
theorem d_neg (ha : PE X a (tD B ta)) : PE X (.UnaryOp .USub a pos) (tD B (dUn negF ta)) := pe_imp (pe_un un_neg ha) fun σ H Q ⟨G, γ, R, S, h, k⟩ =>
  ⟨G, γ, _, S, h, fun d γ1 G1 v H1 h1 s1 S1 r1 => by
    unfold negF at h1
    split at h1
    · cases rpInt r1
      exact ⟨_, rfl, k _ _ _ _ _ h1 s1 S1 (.int _)⟩
    · exact h1.elim⟩
/-! ### truths -/
/-- the truth of a value that is one -/
def bVal (ta : DT) : DB := fun γ R => ta γ fun x γ1 => match x with
  | .bl c => R (c = true) γ1
  | _ => False
theorem b_val (ha : PE X a (tD B ta)) (he : ∀ whole, isTrue a X.env whole = (do let v ← whole; standAt a.pos; holding [v] (truthy v)) := by intro _; rfl) : PT X a (tDB B (bVal ta)) := pt_imp (pt_val ha he) fun σ H Q ⟨G, γ, R, S, h, k⟩ =>
  ⟨G, γ, _, S, h, fun d γ1 G1 v H1 h1 s1 S1 r1 => by
    split at h1
    · cases rpBl r1
      exact ⟨_, rfl, k _ _ _ _ _ h1 Iff.rfl s1 S1⟩
    · exact h1.elim⟩
def bAnd (t u : DB) : DB := fun γ R => t γ fun p γ1 => (p → u γ1 R) ∧ (¬p → R False γ1)
def bOr (t u : DB) : DB := fun γ R => t γ fun p γ1 => (p → R True γ1) ∧ (¬p → u γ1 R)
def bNot (t : DB) : DB := fun γ R => t γ fun p γ1 => R (¬p) γ1
theorem b_not {t : DB} (ha : PT X a (tDB B t)) : PT X (.UnaryOp .Not a pos) (tDB B (bNot t)) := pt_imp (pt_not ha) fun σ H Q ⟨G, γ, R, S, h, k⟩ => ⟨G, γ, _, S, h, fun p c γ1 G1 H1 h1 hc s1 S1 => k _ _ _ _ _ h1 (by rw [← hc]; cases c <;> simp) s1 S1⟩
theorem bw_and1 {t : DB} (ha : PT X a (tDB B t)) : PW X (.BoolOp .And [a] pos) (tDB B t) := pw_and1 ha
theorem bw_or1 {t : DB} (ha : PT X a (tDB B t)) : PW X (.BoolOp .Or [a] pos) (tDB B t) := pw_or1 ha
theorem bw_and {t u : DB} {rest : List Expr} (ha : PT X a (tDB B t)) (hb : PW X (.BoolOp .And (b :: rest) pos) (tDB B u)) : PW X (.BoolOp .And (a :: b :: rest) pos) (tDB B (bAnd t u)) := pw_imp (pw_and ha hb) fun σ H Q ⟨G, γ, R, S, h, k⟩ =>
  ⟨G, γ, _, S, h, fun p c γ1 G1 H1 ⟨h1, h2⟩ hc s1 S1 => by
    cases c with
    | true =>
      rw [if_pos rfl]
      exact ⟨G1, γ1, R, S1, h1 (hc.mp rfl), fun d c' γ' G' H' q hq s S => k d c' γ' G' H' q hq (s1.trans s) S⟩
    | false =>
      rw [if_neg Bool.false_ne_true]
      exact k _ _ _ _ _ (h2 fun z => nomatch hc.mpr z) (by simp) s1 S1⟩
theorem bw_or {t u : DB} {rest : List Expr} (ha : PT X a (tDB B t)) (hb : PW X (.BoolOp .Or (b :: rest) pos) (tDB B u)) : PW X (.BoolOp .Or (a :: b :: rest) pos) (tDB B (bOr t u)) := pw_imp (pw_or ha hb) fun σ H Q ⟨G, γ, R, S, h, k⟩ =>
  ⟨G, γ, _, S, h, fun p c γ1 G1 H1 ⟨h1, h2⟩ hc s1 S1 => by
    cases c with
    | true =>
      rw [if_pos rfl]
      exact k _ _ _ _ _ (h1 (hc.mp rfl)) (by simp) s1 S1
    | false =>
      rw [if_neg Bool.false_ne_true]
      exact ⟨G1, γ1, R, S1, h2 (fun z => nomatch hc.mpr z), fun d c' γ' G' H' q hq s S => k d c' γ' G' H' q hq (s1.trans s) S⟩⟩
/-! ### not, and, or as values: of truths -/
def dNot (ta : DT) : DT := fun γ R => ta γ fun x γ1 => match x with
  | .bl c => R (.bl (!c)) γ1
  | _ => False
theorem d_not (ha : PE X a (tD B ta)) : PE X (.UnaryOp .Not a pos) (tD B (dNot ta)) := pe_imp (pe_not ha) fun σ H Q ⟨G, γ, R, S, h, k⟩ =>
  ⟨G, γ, _, S, h, fun d γ1 G1 v H1 h1 s1 S1 r1 => by
    split at h1
    · cases rpBl r1
      exact ⟨_, rfl, k _ _ _ _ _ h1 s1 S1 (.bl _)⟩
    · exact h1.elim⟩
def dAnd (ta tb : DT) : DT := fun γ R => ta γ fun x γ1 => match x with
  | .bl c => (c = true → tb γ1 R) ∧ (c = false → R (.bl false) γ1)
  | _ => False
def dOr (ta tb : DT) : DT := fun γ R => ta γ fun x γ1 => match x with
  | .bl c => (c = true → R (.bl true) γ1) ∧ (c = false → tb γ1 R)
  | _ => False
theorem d_one {op} (h : PE X a (tD B ta)) : PE X (.BoolOp op [a] pos) (tD B ta) := pe_one h
theorem d_and {rest : List Expr} (ha : PE X a (tD B ta)) (hb : PE X (.BoolOp .And (b :: rest) pos) (tD B tb)) : PE X (.BoolOp .And (a :: b :: rest) pos) (tD B (dAnd ta tb)) := pe_imp (pe_and ha hb) fun σ H Q ⟨G, γ, R, S, h, k⟩ =>
  ⟨G, γ, _, S, h, fun d γ1 G1 v H1 h0 s1 S1 r1 => by
    split at h0
    · rename_i c
      obtain ⟨h1, h2⟩ := h0
      cases rpBl r1
      refine ⟨c, rfl, ?_⟩
      cases c with
      | true =>
        rw [if_pos rfl]
        exact ⟨G1, γ1, R, S1, h1 rfl, fun d γ' G' v H' q s S r => k d γ' G' v H' q (s1.trans s) S r⟩
      | false =>
        rw [if_neg Bool.false_ne_true]
        exact k _ _ _ _ _ (h2 rfl) s1 S1 (.bl _)
    · exact h0.elim⟩
theorem d_or {rest : List Expr} (ha : PE X a (tD B ta)) (hb : PE X (.BoolOp .Or (b :: rest) pos) (tD B tb)) : PE X (.BoolOp .Or (a :: b :: rest) pos) (tD B (dOr ta tb)) := pe_imp (pe_or ha hb) fun σ H Q ⟨G, γ, R, S, h, k⟩ =>
  ⟨G, γ, _, S, h, fun d γ1 G1 v H1 h0 s1 S1 r1 => by
    split at h0
    · rename_i c
      obtain ⟨h1, h2⟩ := h0
      cases rpBl r1
      refine ⟨c, rfl, ?_⟩
      cases c with
      | true =>
        rw [if_pos rfl]
        exact k _ _ _ _ _ (h1 rfl) s1 S1 (.bl _)
      | false =>
        rw [if_neg Bool.false_ne_true]
        exact ⟨G1, γ1, R, S1, h2 rfl, fun d γ' G' v H' q s S r => k d γ' G' v H' q (s1.trans s) S r⟩
    · exact h0.elim⟩
/-! ### a if t else b -/
def dIfE (t : DB) (ta tb : DT) : DT := fun γ R => t γ fun p γ1 => (p → ta γ1 R) ∧ (¬p → tb γ1 R)
theorem d_ifE {c : Expr} {t : DB} (hc : PT X c (tDB B t)) (ha : PE X a (tD B ta)) (hb : PE X b (tD B tb)) : PE X (.IfExp c a b pos) (tD B (dIfE t ta tb)) := pe_imp (pe_ifExp hc ha hb) fun σ H Q ⟨G, γ, R, S, h, k⟩ =>
  ⟨G, γ, _, S, h, fun p c γ1 G1 H1 ⟨h1, h2⟩ hc s1 S1 => by
    cases c with
    | true =>
      rw [if_pos rfl]
      exact ⟨G1, γ1, R, S1, h1 (hc.mp rfl), fun d γ' G' v H' q s S r => k d γ' G' v H' q (s1.trans s) S r⟩
    | false =>
      rw [if_neg Bool.false_ne_true]
      exact ⟨G1, γ1, R, S1, h2 (fun z => nomatch hc.mpr z), fun d γ' G' v H' q s S r => k d γ' G' v H' q (s1.trans s) S r⟩⟩
/-! ### several, tuples, lists -/
def aNil : DA := fun γ R => R [] γ
def aCons (ta : DT) (tr : DA) : DA := fun γ R => ta γ fun x γ1 => tr γ1 fun xs γ2 => R (x :: xs) γ2
theorem a_nil : PA X [] (tDA B aNil) := pa_imp pa_nil fun σ H Q ⟨_, _, _, S, h, k⟩ => k _ _ _ _ _ h (Same.refl _) S .nil
theorem acons_core {tr : DA} : ∀ σ H Q, tDA B (aCons ta tr) σ H Q → tCons (tD B ta) (tDA B tr) σ H Q := fun σ H Q ⟨G, γ, R, S, h, k⟩ =>
  ⟨G, γ, _, S, h, fun d γ1 G1 v H1 h1 s1 S1 r1 => ⟨G1, γ1, _, S1, h1, fun ds γ2 G2 vs H2 h2 s2 S2 r2 => k _ _ _ _ _ h2 (s1.trans s2) S2 (.cons (r1.mono s2) r2)⟩⟩
theorem a_cons {es : List Expr} {tr : DA} (ha : PE X e (tD B ta)) (hr : PA X es (tDA B tr)) (hs : starEach (e :: es) X.env = (false, eval e X.env) :: starEach es X.env := by rfl) : PA X (e :: es) (tDA B (aCons ta tr)) := pa_imp (pa_cons ha hr hs) acons_core
/-- lengths that readings keep -/
def LenA (t : DA) (n : Nat) : Prop := ∀ γ R, t γ R → t γ fun ds γ' => R ds γ' ∧ ds.length = n
def dTup (t : DA) : DT := fun γ R => t γ fun ds γ1 => ds.length ≤ 1000000 ∧ R (.tup ds) γ1
theorem d_tup {es : List Expr} {t : DA} {x1} (h : PA X es (tDA B t)) : PE X (.Tuple es x1 pos) (tD B (dTup t)) := pe_imp (pe_tup h) fun σ H Q ⟨G, γ, R, S, h, k⟩ =>
  ⟨G, γ, _, S, h, fun ds γ1 G1 vs H1 ⟨hl, h1⟩ s1 S1 r1 => ⟨by rw [r1.len]; exact sz_ok hl, fun p hp => by
    obtain ⟨G2, s2, S2, r2⟩ := S1.newTup r1 hp
    exact k _ _ _ _ _ h1 (s1.trans s2) S2 r2⟩⟩
/-- a list that is made -/
def fLst (t : DA) : DA := fun γ R => t γ fun ds γ1 => ds.length ≤ 1000000 ∧ R ds γ1
theorem f_lst {es : List Expr} {t : DA} (h : PA X es (tDA B t)) : PE X (.List es pos) (tDF B (fLst t)) := pe_imp (pe_lst h) fun σ H Q ⟨G, γ, R, S, h, k⟩ =>
  ⟨G, γ, _, S, h, fun ds γ1 G1 vs H1 ⟨hl, h1⟩ s1 S1 r1 => ⟨by rw [r1.len]; exact sz_ok hl, fun p hp =>
    k _ _ _ _ _ _ h1 s1 (S1.laid (fun _ z => nomatch z) hp) upd_same r1 (S1.free0 hp) (S1.sub.free hp) (S1.noslot hp)⟩⟩
/-- handed on: from then on it is read alone -/
def dF (t : DA) : DT := fun γ R => t γ fun ds γ1 => R (.lst ds) γ1
theorem d_f {t : DA} (h : PE X e (tDF B t)) : PE X e (tD B (dF t)) := pe_imp h fun σ H Q ⟨G, γ, R, S, h, k⟩ =>
  ⟨G, γ, _, S, h, fun ds γ1 G1 p vs H1 h1 s1 S1 hp r1 h0 hg hn => by
    obtain ⟨S2, sm⟩ := S1.frz hp h0 hg hn
    exact k _ _ _ _ _ h1 (s1.trans sm) S2 (.lst upd_same (r1.mono sm))⟩
def dFd (t : DKv) : DT := fun γ R => t γ fun ds γ1 => R (.dct ds) γ1
theorem d_fd {t : DKv} (h : PE X e (tDFd B t)) : PE X e (tD B (dFd t)) := pe_imp h fun σ H Q ⟨G, γ, R, S, h, k⟩ =>
  ⟨G, γ, _, S, h, fun ds γ1 G1 p vs H1 h1 s1 S1 hp r1 h0 hg hn => by
    obtain ⟨S2, sm⟩ := S1.frz hp h0 hg hn
    exact k _ _ _ _ _ h1 (s1.trans sm) S2 (.dct upd_same (r1.mono sm))⟩
end
end EL
namespace EL
open PySem PySem.Spec PyProof.Rows L2
/-! ### statements -/
structure DEnds where
  nx : Gm → Prop
  rt : D → Gm → Prop
  bk : Gm → Prop := fun _ => False
  ct : Gm → Prop := fun _ => False
abbrev DS := DEnds → Gm → Prop
structure Fin (B : Bs) (G : Hp) (E : DEnds) (D : Ends) : Prop where
  nx : ∀ γ G' σ H, E.nx γ → Same G G' → DstG B G' γ σ H → D.nx σ H
  rt : ∀ d γ G' σ v H, E.rt d γ → Same G G' → DstG B G' γ σ H → Rp B.W G' v d → D.rt v H
  bk : ∀ γ G' σ H, E.bk γ → Same G G' → DstG B G' γ σ H → D.bk σ H
  ct : ∀ γ G' σ H, E.ct γ → Same G G' → DstG B G' γ σ H → D.ct σ H
def tDS (B : Bs) (s : DS) : TS := fun D σ H => ∃ G γ E, DstG B G γ σ H ∧ s E γ ∧ Fin B G E D
section
variable {X : Cx} {B : Bs} {G G' G1 : Hp} {γ γ' : Gm} {σ : L2.St} {H H' : Hp} {e a b : Expr} {ta tb t : DT} {pos : Pos} {st : Stmt} {rest sts : List Stmt} {s u : DS} {E : DEnds} {De : Ends}
theorem Fin.mono (F : Fin B G E De) (h : Same G G') : Fin B G' E De :=
  ⟨fun γ G2 σ H q s S => F.nx γ G2 σ H q (h.trans s) S, fun d γ G2 σ v H q s S r => F.rt d γ G2 σ v H q (h.trans s) S r, fun γ G2 σ H q s S => F.bk γ G2 σ H q (h.trans s) S, fun γ G2 σ H q s S => F.ct γ G2 σ H q (h.trans s) S⟩
def sSeq (s u : DS) : DS := fun E γ => s { nx := fun γ' => u E γ', rt := E.rt, bk := E.bk, ct := E.ct } γ
def sCut (s u : DS) : DS := fun E γ => ∃ I : Gm → Prop, s { nx := I, rt := E.rt, bk := E.bk, ct := E.ct } γ ∧ ∀ γ', I γ' → u E γ'
def sNil : DS := fun E γ => E.nx γ
theorem ss_nil : PSs X [] (tDS B sNil) := pss_imp pss_nil fun D σ H ⟨G, γ, E, S, h, F⟩ => F.nx γ G σ H h (Same.refl _) S
theorem ss_one (h : PS X st (tDS B s)) : PSs X [st] (tDS B s) := pss_one h
theorem ss_cons (h1 : PS X st (tDS B s)) (h2 : PSs X rest (tDS B u)) : PSs X (st :: rest) (tDS B (sSeq s u)) := pss_imp (pss_cons h1 h2) fun D σ H ⟨G, γ, E, S, h, F⟩ =>
  ⟨G, γ, _, S, h, ⟨fun γ1 G1 σ1 H1 q sm S1 => ⟨G1, γ1, E, S1, q, F.mono sm⟩, F.rt, F.bk, F.ct⟩⟩
theorem ss_cut (h1 : PS X st (tDS B s)) (h2 : PSs X rest (tDS B u)) : PSs X (st :: rest) (tDS B (sCut s u)) := pss_imp (pss_cons h1 h2) fun D σ H ⟨G, γ, E, S, ⟨I, h, k⟩, F⟩ =>
  ⟨G, γ, _, S, h, ⟨fun γ1 G1 σ1 H1 q sm S1 => ⟨G1, γ1, E, S1, k _ q, F.mono sm⟩, F.rt, F.bk, F.ct⟩⟩
theorem s_dead : PS X st (tDS B fun _ _ => False) := ⟨fun _ _ _ _ _ _ ⟨_, _, _, _, h, _⟩ => h.elim⟩
theorem s_pass : PS X (.Pass pos) (tDS B sNil) := ps_imp ps_pass fun D σ H ⟨G, γ, E, S, h, F⟩ => F.nx γ G σ H h (Same.refl _) S
def sBrk : DS := fun E γ => E.bk γ
def sCnt : DS := fun E γ => E.ct γ
theorem s_break : PS X (.Break pos) (tDS B sBrk) := ps_imp ps_break fun D σ H ⟨G, γ, E, S, h, F⟩ => F.bk γ G σ H h (Same.refl _) S
theorem s_continue : PS X (.Continue pos) (tDS B sCnt) := ps_imp ps_continue fun D σ H ⟨G, γ, E, S, h, F⟩ => F.ct γ G σ H h (Same.refl _) S
def sExpr (t : DT) : DS := fun E γ => t γ fun _ γ1 => E.nx γ1
theorem s_expr (h : PS X st (tDrop (tD B t))) : PS X st (tDS B (sExpr t)) := ps_imp h fun D σ H ⟨G, γ, E, S, h, F⟩ => ⟨G, γ, _, S, h, fun d γ1 G1 v H1 q sm S1 _ => F.nx _ _ _ _ q sm S1⟩
def sRet (t : DT) : DS := fun E γ => t γ fun d γ1 => E.rt d γ1
theorem s_ret (h : PE X e (tD B t)) : PS X (.Return (some e) pos) (tDS B (sRet t)) := ps_imp (ps_ret h) fun D σ H ⟨G, γ, E, S, h, F⟩ => ⟨G, γ, _, S, h, fun d γ1 G1 v H1 q sm S1 r => F.rt _ _ _ _ _ _ q sm S1 r⟩
def sRetN : DS := fun E γ => E.rt .non γ
theorem s_retN : PS X (.Return none pos) (tDS B sRetN) := ps_imp ps_retN fun D σ H ⟨G, γ, E, S, h, F⟩ => F.rt _ γ G σ _ _ h (Same.refl _) S .non
def sIf (c : DB) (s u : DS) : DS := fun E γ => c γ fun p γ1 => (p → s E γ1) ∧ (¬p → u E γ1)
theorem s_if {c : Expr} {xs ys : List Stmt} {tc : DB} (hc : PT X c (tDB B tc)) (ha : PSs X xs (tDS B s)) (hb : PSs X ys (tDS B u)) : PS X (.If c xs ys pos) (tDS B (sIf tc s u)) := ps_imp (ps_if hc ha hb) fun D σ H ⟨G, γ, E, S, h, F⟩ =>
  ⟨G, γ, _, S, h, fun p b γ1 G1 H1 ⟨h1, h2⟩ hp sm S1 => by
    cases b with
    | true => rw [if_pos rfl]; exact ⟨G1, γ1, E, S1, h1 (hp.mp rfl), F.mono sm⟩
    | false => rw [if_neg Bool.false_ne_true]; exact ⟨G1, γ1, E, S1, h2 (fun z => nomatch hp.mpr z), F.mono sm⟩⟩
/-! ### stores into names -/
def sSet (i : Nat) (t : DT) : DS := fun E γ => t γ fun d γ1 => E.nx (putS γ1 i (.fz d))
theorem s_set {i : Nat} (h : PS X st (tAsg (tD B t) (gName i))) : PS X st (tDS B (sSet i t)) := ps_imp h fun D σ H ⟨G, γ, E, S, h, F⟩ => ⟨G, γ, _, S, h, fun d γ1 G1 v H1 q sm S1 r => by
  rw [putS_eq] at q
  exact F.nx _ _ _ _ q sm (S1.set r)⟩
def sOwn (i : Nat) (t : DA) : DS := fun E γ => t γ fun ds γ1 => ∀ p, E.nx (putS γ1 i (.own p ds))
theorem s_own {i : Nat} {t : DA} (h : PS X st (tAsg (tDF B t) (gName i))) : PS X st (tDS B (sOwn i t)) := ps_imp h fun D σ H ⟨G, γ, E, S, h, F⟩ => ⟨G, γ, _, S, h, fun ds γ1 G1 p vs H1 q sm S1 hp r h0 hg hn => by
  have q := q p
  rw [putS_eq] at q
  refine F.nx _ _ _ _ q sm (slot_set S1 (v := .ref p) (s := .own p ds) ⟨rfl, vs, hp, r⟩ fun p' hp' => ?_)
  cases List.mem_singleton.mp hp'
  exact ⟨h0, hg, fun j t _ e => hn j t e⟩⟩
def sOwnD (i : Nat) (t : DKv) : DS := fun E γ => t γ fun ds γ1 => ∀ p, E.nx (putS γ1 i (.ownD p ds))
theorem s_ownD {i : Nat} {t : DKv} (h : PS X st (tAsg (tDFd B t) (gName i))) : PS X st (tDS B (sOwnD i t)) := ps_imp h fun D σ H ⟨G, γ, E, S, h, F⟩ => ⟨G, γ, _, S, h, fun ds γ1 G1 p vs H1 q sm S1 hp r h0 hg hn => by
  have q := q p
  rw [putS_eq] at q
  refine F.nx _ _ _ _ q sm (slot_set S1 (v := .ref p) (s := .ownD p ds) ⟨rfl, vs, hp, r⟩ fun p' hp' => ?_)
  cases List.mem_singleton.mp hp'
  exact ⟨h0, hg, fun j t _ e => hn j t e⟩⟩
def sPar (i j : Nat) (t : DA) : DS := fun E γ => t γ fun ds γ1 => match ds with
  | [d, e] => E.nx (putS (putS γ1 i (.fz d)) j (.fz e))
  | _ => False
theorem s_par {i j : Nat} {t : DA} (h : PS X st (tPar i j (tDA B t))) : PS X st (tDS B (sPar i j t)) := ps_imp h fun D σ H ⟨G, γ, E, S, h, F⟩ => ⟨G, γ, _, S, h, fun ds γ1 G1 vs H1 q sm S1 r => by
  split at q
  · cases r with
    | cons r1 r2 =>
      cases r2 with
      | cons r2 r3 =>
        cases r3
        rw [putS_eq, putS_eq] at q
        exact ⟨_, _, rfl, F.nx _ _ _ _ q sm ((S1.set r1).set r2)⟩
  · exact q.elim⟩
/-! ### targets -/
abbrev BdT := D → Gm → (Gm → Prop) → Prop
theorem wipe_set (σ : L2.St) (i : Nat) (x : Option V) : ∀ vs : List Nat, wipe (σ.set i x) vs = if i ∈ vs then wipe σ vs else (wipe σ vs).set i x
  | [] => by simp [wipe]
  | v :: vs => by
    show (wipe (σ.set i x) vs).set v none = _
    rw [wipe_set σ i x vs]
    by_cases h : i ∈ vs
    · rw [if_pos h, if_pos (List.mem_cons_of_mem _ h)]
      rfl
    · rw [if_neg h]
      by_cases z : i = v
      · subst z
        rw [if_pos List.mem_cons_self, List.set_set]
        rfl
      · rw [if_neg (by simp only [List.mem_cons, not_or]; exact ⟨z, h⟩), List.set_comm _ _ z]
        rfl
/-- a target: what it stores, in slots of vs alone -/
def tDG (B : Bs) (vs : List Nat) (b : BdT) : TG := fun v σ H Q => ∃ G γ d R, DstG B G γ σ H ∧ Rp B.W G v d ∧ b d γ R ∧ ∀ γ' σ', R γ' → DstG B G γ' σ' H → wipe σ' vs = wipe σ vs → Q σ' H
def tDGs (B : Bs) (vs : List Nat) (b : List D → Gm → (Gm → Prop) → Prop) : TGs := fun us σ H Q => ∃ G γ ds R, DstG B G γ σ H ∧ RpAll B.W G us ds ∧ b ds γ R ∧ ∀ γ' σ', R γ' → DstG B G γ' σ' H → wipe σ' vs = wipe σ vs → Q σ' H
theorem pg_imp {tg : Expr} {g g' : TG} (h : PG X tg g) (k : ∀ v σ H Q, g' v σ H Q → g v σ H Q) : PG X tg g' := ⟨fun pins s σ H v u Q I r q => h.run pins s σ H v u Q I r (k v σ H Q q)⟩
theorem pgs_imp {tg : List Expr} {g g' : TGs} (h : PGs X tg g) (k : ∀ v σ H Q, g' v σ H Q → g v σ H Q) : PGs X tg g' := ⟨fun pins s σ H v u Q I r q => h.run pins s σ H v u Q I r (k v σ H Q q)⟩
def bN (i : Nat) : BdT := fun d γ R => R (putS γ i (.fz d))
theorem g_name {tg : Expr} {i : Nat} {vs : List Nat} (h : PG X tg (gName i)) (hi : i ∈ vs := by simp) : PG X tg (tDG B vs (bN i)) := pg_imp h fun v σ H Q ⟨G, γ, d, R, S, r, q, k⟩ => by
  refine k _ _ q ?_ ?_
  · rw [putS_eq]; exact S.set r
  · rw [wipe_set, if_pos hi]
def bsNil : List D → Gm → (Gm → Prop) → Prop := fun ds γ R => match ds with
  | [] => R γ
  | _ => False
def bsCons (b : BdT) (bs : List D → Gm → (Gm → Prop) → Prop) : List D → Gm → (Gm → Prop) → Prop := fun ds γ R => match ds with
  | d :: r => b d γ fun γ1 => bs r γ1 R
  | [] => False
theorem gs_nil {vs : List Nat} : PGs X [] (tDGs B vs bsNil) := pgs_imp pgs_nil fun us σ H Q ⟨G, γ, ds, R, S, r, q, k⟩ => by
  cases ds with
  | nil => cases r; exact ⟨rfl, k _ _ q S rfl⟩
  | cons d ds => exact q.elim
theorem gs_cons {tg : Expr} {tgs : List Expr} {vs : List Nat} {b : BdT} {bs} (h1 : PG X tg (tDG B vs b)) (h2 : PGs X tgs (tDGs B vs bs)) (h : PGs X (tg :: tgs) (gCons (tDG B vs b) (tDGs B vs bs))) : PGs X (tg :: tgs) (tDGs B vs (bsCons b bs)) := pgs_imp h fun us σ H Q ⟨G, γ, ds, R, S, r, q, k⟩ => by
  cases ds with
  | nil => exact q.elim
  | cons d ds' =>
    cases r with
    | cons r1 r2 =>
      exact ⟨_, _, rfl, G, γ, d, _, S, r1, q, fun γ1 σ1 q1 S1 w1 => ⟨G, γ1, ds', R, S1, r2, q1, fun γ2 σ2 q2 S2 w2 => k _ _ q2 S2 (w2.trans w1)⟩⟩
def BLen (bs : List D → Gm → (Gm → Prop) → Prop) (n : Nat) : Prop := ∀ ds γ R, bs ds γ R → ds.length = n
theorem bl_nil : BLen bsNil 0 := fun ds γ R h => by cases ds with
  | nil => rfl
  | cons d ds => exact h.elim
def Tame (b : BdT) : Prop := ∀ d γ R, b d γ R → ∃ γ', R γ'
theorem tame_n {i : Nat} : Tame (bN i) := fun d γ R h => ⟨_, h⟩
theorem bl_cons {b : BdT} {bs} {n : Nat} (t : Tame b) (h : BLen bs n) : BLen (bsCons b bs) (n + 1) := fun ds γ R q => by cases ds with
  | nil => exact q.elim
  | cons d ds =>
    obtain ⟨γ', q'⟩ := t _ _ _ q
    show ds.length + 1 = n + 1
    rw [h _ _ _ q']
def bT (bs : List D → Gm → (Gm → Prop) → Prop) : BdT := fun d γ R => match d with
  | .tup ds => bs ds γ R
  | _ => False
def TameS (bs : List D → Gm → (Gm → Prop) → Prop) : Prop := ∀ ds γ R, bs ds γ R → ∃ γ', R γ'
theorem ts_nil : TameS bsNil := fun ds γ R h => by cases ds with
  | nil => exact ⟨_, h⟩
  | cons d ds => exact h.elim
theorem ts_cons {b : BdT} {bs} (t : Tame b) (h : TameS bs) : TameS (bsCons b bs) := fun ds γ R q => by cases ds with
  | nil => exact q.elim
  | cons d ds =>
    obtain ⟨γ', q'⟩ := t _ _ _ q
    exact h _ _ _ q'
theorem tame_t {bs} (h : TameS bs) : Tame (bT bs) := fun d γ R q => by
  unfold bT at q
  split at q
  · exact h _ _ _ q
  · exact q.elim
theorem g_tup {tg : Expr} {n : Nat} {vs : List Nat} {bs} (hl : BLen bs n) (h : PG X tg (gTup B.K n (tDGs B vs bs))) : PG X tg (tDG B vs (bT bs)) := pg_imp h fun v σ H Q ⟨G, γ, d, R, S, r, q, k⟩ => by
  unfold bT at q
  split at q
  · cases r with
    | tup hs ra => exact ⟨_, _, rfl, hs.sq S.sub, by rw [ra.len]; exact hl _ _ _ q, G, γ, _, R, S, ra, q, k⟩
  · exact q.elim
/-- e handed to any target -/
def sAsg (t : DT) (b : BdT) : DS := fun E γ => t γ fun d γ1 => b d γ1 E.nx
theorem s_asg {vs : List Nat} {bd : BdT} (h : PS X st (tAsg (tD B t) (tDG B vs bd))) : PS X st (tDS B (sAsg t bd)) := ps_imp h fun D σ H ⟨G, γ, E, S, h, F⟩ => ⟨G, γ, _, S, h, fun d γ1 G1 v H1 q sm S1 r => ⟨G1, γ1, d, _, S1, r, q, fun γ2 σ2 q2 S2 _ => F.nx _ _ _ _ q2 sm S2⟩⟩
/-! ### what is walked -/
abbrev withH (B : Bs) (H0 : Hp) : Bs := ⟨B.W, B.DkAt, H0, B.G0, B.xc, B.E, B.cost⟩
/-- the iterator gives just these, whatever is tracked beside -/
def WalkD (B : Bs) (J : It) (G1 : Hp) (ds : List D) : Prop := ∀ H0 G γ σ H, Same G1 G → DstG (withH B H0) G γ σ H →
  J.stop ds.length H ∧ ∀ i d, ds[i]? = some d → J.go i H ∧ ∀ x H', J.yld i H x H' → ∃ G', Same G G' ∧ DstG (withH B H0) G' γ σ H' ∧ Rp B.W G' x d
def tDI (B : Bs) (t : DA) : TI := fun σ H R' => ∃ G γ R, DstG B G γ σ H ∧ t γ R ∧ ∀ ds γ' G' H' J, R ds γ' → Same G G' → DstG B G' γ' σ H' → WalkD B J G' ds → R' J H'
theorem pi_imp {tg it : Expr} {w w' : TI} (h : PI X tg it w) (k : ∀ σ H R, w' σ H R → w σ H R) : PI X tg it w' := ⟨fun pins s σ H R I q => h.run pins s σ H R I (k σ H R q)⟩
theorem pi_seq {tg l : Expr} {tl : TE} (hl : PE X l tl) : PI X tg l (fun σ H R => tl σ H fun x H1 => ∃ a, x = .ref a ∧ ((∃ xs, SqL X.K H1 a xs) ∧ R (Itl X.K a) H1 ∨ (∃ xs, SqT X.K H1 a xs) ∧ R (Itt X.K a) H1)) := by
  refine ⟨fun pins s σ H R I h => ?_⟩
  refine thn (hl.run pins s σ H _ I h) fun v s1 ⟨x, H1, I1, r1, q1⟩ => ?_
  obtain ⟨a, e, q⟩ := q1
  subst e
  cases r1
  rcases q with ⟨⟨xs, hq⟩, q⟩ | ⟨⟨xs, hq⟩, q⟩
  · obtain ⟨its, rv, p, hz⟩ := I1.list hq
    refine wpAny_pyIter_list p.isList ?_
    refine ⟨s1.heap.objs.size, [s1.heap.objs.size], _, _, H1, rfl, I1.kept (t' := s1.toks) fun b o e => Heap.get?_push_of_some _ e, turn_list a _, ⟨_, Heap.get?_push_size _ rfl, rfl, rfl⟩, fun b hb => ?_, q⟩
    have e : b = s1.heap.objs.size := by simpa using hb
    subst e
    exact I1.fpOk (Nat.le_refl _) (I1.hok.fresh (Nat.le_refl _))
  · obtain ⟨its, rv, p, hz⟩ := I1.tuple hq
    refine wpAny_pyIter_tuple (show s1.heap.IsTuple a its.toArray from p) ?_
    refine ⟨s1.heap.objs.size, [s1.heap.objs.size], _, _, H1, rfl, I1.kept (t' := s1.toks) fun b o e => Heap.get?_push_of_some _ e, turn_tuple a _, ⟨_, Heap.get?_push_size _ rfl, rfl, rfl⟩, fun b hb => ?_, q⟩
    have e : b = s1.heap.objs.size := by simpa using hb
    subst e
    exact I1.fpOk (Nat.le_refl _) (I1.hok.fresh (Nat.le_refl _))
/-- the things of a list, a tuple -/
def itemsD : D → Option (List D)
  | .lst ds => some ds
  | .tup ds => some ds
  | _ => none
/-- a text's signs -/
def signs (z : Str) : List D := z.cps.toList.map fun c => .str ⟨#[c]⟩
def iSeq (t : DT) : DA := fun γ R => t γ fun d γ1 => match d with
  | .lst ds => R ds γ1
  | .tup ds => R ds γ1
  | .str z => R (signs z) γ1
  | _ => False
theorem sqT_mono {K : PySem.W.Frag} {a : Addr} {xs : List V} (e : Same G G') (h : SqT K G a xs) : SqT K G' a xs := by
  rcases h with (h | ⟨o, h⟩) | h
  · exact .inl (.inl (e _ _ h))
  · exact .inl (.inr ⟨o, e _ _ h⟩)
  · exact .inr h
theorem walkD_list {a : Addr} {vs : List V} {ds : List D} (h : SqL B.K G1 a vs) (r : RpAll B.W G1 vs ds) : WalkD B (Itl B.K a) G1 ds := fun H0 G γ σ H sm S => by
  have hs : SqL B.K H a vs := S.sub.seq (sm.seq h)
  refine ⟨⟨vs, hs, by rw [r.len]; exact Nat.le_refl _⟩, fun i d hd => ?_⟩
  obtain ⟨v, hv, rv⟩ := r.get hd
  refine ⟨⟨vs, v, hs, hv⟩, fun x H' y => ?_⟩
  obtain ⟨e, y⟩ := y
  subst e
  have := y vs hs
  rw [hv] at this
  cases this
  exact ⟨G, Same.refl _, S, rv.mono sm⟩
theorem walkD_tup {a : Addr} {vs : List V} {ds : List D} (h : SqT B.K G1 a vs) (r : RpAll B.W G1 vs ds) : WalkD B (Itt B.K a) G1 ds := fun H0 G γ σ H sm S => by
  have hs : SqT B.K H a vs := sqT_mono S.sub (sqT_mono sm h)
  refine ⟨⟨vs, hs, by rw [r.len]; exact Nat.le_refl _⟩, fun i d hd => ?_⟩
  obtain ⟨v, hv, rv⟩ := r.get hd
  refine ⟨⟨vs, v, hs, hv⟩, fun x H' y => ?_⟩
  obtain ⟨e, y⟩ := y
  subst e
  have := y vs hs
  rw [hv] at this
  cases this
  exact ⟨G, Same.refl _, S, rv.mono sm⟩
theorem pi_seqS {tg l : Expr} {tl : TE} (hl : PE X l tl) : PI X tg l (fun σ H R => tl σ H fun x H1 => (∃ a, x = .ref a ∧ ((∃ xs, SqL X.K H1 a xs) ∧ R (Itl X.K a) H1 ∨ (∃ xs, SqT X.K H1 a xs) ∧ R (Itt X.K a) H1)) ∨ ∃ z, x = .str z ∧ R (Its z) H1) := by
  refine ⟨fun pins s σ H R I h => ?_⟩
  refine thn (hl.run pins s σ H _ I h) fun v s1 ⟨x, H1, I1, r1, q1⟩ => ?_
  rcases q1 with ⟨a, e, q⟩ | ⟨x, ex, q⟩
  · subst e
    cases r1
    rcases q with ⟨⟨xs, hq⟩, q⟩ | ⟨⟨xs, hq⟩, q⟩
    · obtain ⟨its, rv, p, hz⟩ := I1.list hq
      refine wpAny_pyIter_list p.isList ?_
      refine ⟨s1.heap.objs.size, [s1.heap.objs.size], _, _, H1, rfl, I1.kept (t' := s1.toks) fun b o e => Heap.get?_push_of_some _ e, turn_list a _, ⟨_, Heap.get?_push_size _ rfl, rfl, rfl⟩, fun b hb => ?_, q⟩
      have e : b = s1.heap.objs.size := by simpa using hb
      subst e
      exact I1.fpOk (Nat.le_refl _) (I1.hok.fresh (Nat.le_refl _))
    · obtain ⟨its, rv, p, hz⟩ := I1.tuple hq
      refine wpAny_pyIter_tuple (show s1.heap.IsTuple a its.toArray from p) ?_
      refine ⟨s1.heap.objs.size, [s1.heap.objs.size], _, _, H1, rfl, I1.kept (t' := s1.toks) fun b o e => Heap.get?_push_of_some _ e, turn_tuple a _, ⟨_, Heap.get?_push_size _ rfl, rfl, rfl⟩, fun b hb => ?_, q⟩
      have e : b = s1.heap.objs.size := by simpa using hb
      subst e
      exact I1.fpOk (Nat.le_refl _) (I1.hok.fresh (Nat.le_refl _))
  · subst ex
    obtain ⟨t, rfl⟩ := r1
    cases ha : x.cps.all (· < 128)
    · exact wpAny_pyIter_wide ha (pi_one (tk := s1.toks) I1 _ (turn_str _ x t "str_iterator" (.inr rfl)) ⟨_, Heap.get?_push_size _ rfl, rfl, rfl⟩ q)
    · exact wpAny_pyIter_ascii ha (pi_one (tk := s1.toks) I1 _ (turn_str _ x t "str_ascii_iterator" (.inl rfl)) ⟨_, Heap.get?_push_size _ rfl, rfl, rfl⟩ q)
theorem walkD_str {z : Str} : WalkD B (Its z) G1 (signs z) := fun H0 G γ σ H sm S => by
  refine ⟨by show z.cps.size ≤ (signs z).length; simp [signs], fun i d hd => ?_⟩
  unfold signs at hd
  rw [List.getElem?_map] at hd
  cases q : z.cps.toList[i]? with
  | none => rw [q] at hd; cases hd
  | some c =>
    rw [q] at hd
    cases hd
    have hz : z.cps[i]? = some c := by rw [← Array.getElem?_toList]; exact q
    refine ⟨by show i < z.cps.size; exact (Array.getElem?_eq_some_iff.mp hz).1, fun x H' y => ?_⟩
    obtain ⟨e, c', hc, ex⟩ := y
    rw [hz] at hc
    cases hc
    subst e ex
    exact ⟨G, Same.refl _, S, .str _⟩
theorem i_seq {tg l : Expr} (hK : X.K = B.K) (hl : PE X l (tD B t)) : PI X tg l (tDI B (iSeq t)) := pi_imp (pi_seqS hl) fun σ H R' ⟨G, γ, R, S, h, k⟩ => ⟨G, γ, _, S, h, fun d γ1 G1 v H1 q sm S1 r => by
  split at q
  · cases r with
    | @lst a vs _ hs ra =>
      refine .inl ⟨a, rfl, .inl ⟨⟨vs, ?_⟩, ?_⟩⟩
      · rw [hK]; exact SqL.of (S1.sub _ _ hs)
      · rw [hK]; exact k _ _ _ _ _ q sm S1 (walkD_list (SqL.of hs) ra)
  · cases r with
    | @tup a vs _ hs ra =>
      refine .inl ⟨a, rfl, .inr ⟨⟨vs, ?_⟩, ?_⟩⟩
      · rw [hK]; exact hs.sq S1.sub
      · rw [hK]; exact k _ _ _ _ _ q sm S1 (walkD_tup (hs.sq0) ra)
  · cases rpStr r
    exact .inr ⟨_, rfl, k _ _ _ _ _ q sm S1 walkD_str⟩
  · exact q.elim⟩
def rngD (lo : Int) (n : Nat) : List D := (List.range n).map fun k : Nat => .int (lo + k)
theorem walkD_rng {lo : Int} {n : Nat} : WalkD B (Itr lo n) G1 (rngD lo n) := fun H0 G γ σ H sm S => by
  refine ⟨by show n ≤ (rngD lo n).length; simp [rngD], fun i d hd => ?_⟩
  have hi : i < n := by
    have := (List.getElem?_eq_some_iff.mp hd).1
    simpa [rngD] using this
  have e : d = .int (lo + i) := by
    simp [rngD, hi] at hd
    exact hd.symm
  subst e
  refine ⟨hi, fun x H' y => ?_⟩
  obtain ⟨e, y⟩ := y
  subst e y
  exact ⟨G, Same.refl _, S, .int _⟩
def iRng1D (t : DA) : DA := fun γ R => t γ fun ds γ1 => match ds with
  | [.int j] => (-(2 ^ 62) ≤ j ∧ j < 2 ^ 62) ∧ R (rngD 0 j.toNat) γ1
  | _ => False
theorem i_rng1 {tg it : Expr} {t : DA} (h : PI X tg it (iRng1 (tDA B t))) : PI X tg it (tDI B (iRng1D t)) := pi_imp h fun σ H R' ⟨G, γ, R, S, h, k⟩ => ⟨G, γ, _, S, h, fun ds γ1 G1 vs H1 q sm S1 r => by
  split at q
  · cases r with
    | cons r1 r2 =>
      cases r2
      cases rpInt r1
      exact ⟨_, rfl, q.1.1, q.1.2, k _ _ _ _ _ q.2 sm S1 walkD_rng⟩
  · exact q.elim⟩
def iRng2D (t : DA) : DA := fun γ R => t γ fun ds γ1 => match ds with
  | [.int i, .int j] => (-(2 ^ 62) ≤ i ∧ i < 2 ^ 62 ∧ -(2 ^ 62) ≤ j ∧ j < 2 ^ 62) ∧ R (rngD i (j - i).toNat) γ1
  | _ => False
theorem i_rng2 {tg it : Expr} {t : DA} (h : PI X tg it (iRng2 (tDA B t))) : PI X tg it (tDI B (iRng2D t)) := pi_imp h fun σ H R' ⟨G, γ, R, S, h, k⟩ => ⟨G, γ, _, S, h, fun ds γ1 G1 vs H1 q sm S1 r => by
  split at q
  · cases r with
    | cons r1 r2 =>
      cases r2 with
      | cons r2 r3 =>
        cases r3
        cases rpInt r1
        cases rpInt r2
        exact ⟨_, _, rfl, q.1, k _ _ _ _ _ q.2 sm S1 walkD_rng⟩
  · exact q.elim⟩
def rngC (lo c : Int) (n : Nat) : List D := (List.range n).map fun k : Nat => .int (lo + k * c)
theorem walkD_rngC {lo c : Int} {n : Nat} : WalkD B (Itc lo c n) G1 (rngC lo c n) := fun H0 G γ σ H sm S => by
  refine ⟨by show n ≤ (rngC lo c n).length; simp [rngC], fun i d hd => ?_⟩
  have hi : i < n := by
    have := (List.getElem?_eq_some_iff.mp hd).1
    simpa [rngC] using this
  have e : d = .int (lo + i * c) := by
    simp [rngC, hi] at hd
    exact hd.symm
  subst e
  refine ⟨hi, fun x H' y => ?_⟩
  obtain ⟨e, y⟩ := y
  subst e y
  exact ⟨G, Same.refl _, S, .int _⟩
def iRng3D (t : DA) : DA := fun γ R => t γ fun ds γ1 => match ds with
  | [.int i, .int j, .int c] => ∃ n, RgC i j c n ∧ R (rngC i c n) γ1
  | _ => False
theorem i_rng3 {tg it : Expr} {t : DA} (h : PI X tg it (iRng3 (tDA B t))) : PI X tg it (tDI B (iRng3D t)) := pi_imp h fun σ H R' ⟨G, γ, R, S, h, k⟩ => ⟨G, γ, _, S, h, fun ds γ1 G1 vs H1 q sm S1 r => by
  split at q
  · cases r with
    | cons r1 r2 =>
      cases r2 with
      | cons r2 r3 =>
        cases r3 with
        | cons r3 r4 =>
          cases r4
          cases rpInt r1
          cases rpInt r2
          cases rpInt r3
          obtain ⟨n, hn, q⟩ := q
          exact ⟨_, _, _, n, rfl, hn, k _ _ _ _ _ q sm S1 walkD_rngC⟩
  · exact q.elim⟩
/-- reversed(range(n)) -/
def iRevR1 (t : DT) : DA := fun γ R => t γ fun d γ1 => match d with
  | .int n => (0 ≤ n ∧ n < 2 ^ 62) ∧ R (rngC (n - 1) (-1) n.toNat) γ1
  | _ => False
theorem i_revR1 {tg it : Expr} {ta : DT} (h : PI X tg it (iRevR (tRg1 (tD B ta)))) : PI X tg it (tDI B (iRevR1 ta)) := pi_imp h fun σ H R' ⟨G, γ, R, S, h, k⟩ => ⟨G, γ, _, S, h, fun d γ1 G1 v H1 q sm S1 r => by
  split at q
  · rename_i n
    cases rpInt r
    obtain ⟨⟨h0, h1⟩, q⟩ := q
    refine ⟨n, rfl, by decide, by decide, by omega, h1, ?_⟩
    have e : (0 : Int) + (((n - 0).toNat : Nat) : Int) - 1 = n - 1 := by omega
    have e2 : (n - 0).toNat = n.toNat := by omega
    rw [e, e2]
    exact k _ _ _ _ _ q sm S1 walkD_rngC
  · exact q.elim⟩
/-- new pairs -/
theorem pair_step {G γ σ H} {x y : V} {d e : D} {T : Addr} (S : DstG B G γ σ H) (rx : Rp B.W G x d) (ry : Rp B.W G y e) (hT : H T = none) : ∃ G', Same G G' ∧ DstG B G' γ σ (upd H T (.tup [x, y])) ∧ Rp B.W G' (.ref T) (.tup [d, e]) :=
  S.newTup (.cons rx (.cons ry .nil)) hT
def enumD (ds : List D) : List D := ds.zipIdx.map fun p => .tup [.int (p.2 : Nat), p.1]
theorem enumD_get {ds : List D} {i : Nat} {c : D} (h : (enumD ds)[i]? = some c) : ∃ d, ds[i]? = some d ∧ c = .tup [.int (i : Nat), d] := by
  unfold enumD at h
  rw [List.getElem?_map, List.getElem?_zipIdx] at h
  cases q : ds[i]? with
  | none => rw [q] at h; cases h
  | some d =>
    rw [q] at h
    simp at h
    exact ⟨d, rfl, h.symm⟩
theorem enumD_len {ds : List D} : (enumD ds).length = ds.length := by simp [enumD]
theorem walkD_enum {a : Addr} {vs : List V} {ds : List D} (h : SqL B.K G1 a vs) (r : RpAll B.W G1 vs ds) : WalkD B (Ite B.K a) G1 (enumD ds) := fun H0 G γ σ H sm S => by
  have hs : SqL B.K H a vs := S.sub.seq (sm.seq h)
  refine ⟨⟨vs, hs, by rw [r.len, enumD_len]; exact Nat.le_refl _⟩, fun i c hc => ?_⟩
  obtain ⟨d, hd, rfl⟩ := enumD_get hc
  obtain ⟨v, hv, rv⟩ := r.get hd
  refine ⟨⟨vs, v, hs, hv⟩, fun x H' y => ?_⟩
  obtain ⟨T, x', h1, h2, h3, h4⟩ := y
  have := h4 vs hs
  rw [hv] at this
  cases this
  subst h1 h3
  exact pair_step (B := withH B H0) S (.int _) (rv.mono sm) h2
def iEnumD (t : DA) : DA := fun γ R => t γ fun ds γ1 => match ds with
  | [.lst es] => R (enumD es) γ1
  | _ => False
theorem i_enum {tg it : Expr} {t : DA} (h : PI X tg it (iEnum B.K (tDA B t))) : PI X tg it (tDI B (iEnumD t)) := pi_imp h fun σ H R' ⟨G, γ, R, S, h, k⟩ => ⟨G, γ, _, S, h, fun ds γ1 G1 vs H1 q sm S1 r => by
  split at q
  · cases r with
    | cons r1 r2 =>
      cases r2
      cases r1 with
      | lst hs ra => exact ⟨_, _, rfl, SqL.of (S1.sub _ _ hs), k _ _ _ _ _ q sm S1 (walkD_enum (SqL.of hs) ra)⟩
  · exact q.elim⟩
def zipD (ds es : List D) : List D := (ds.zip es).map fun p => .tup [p.1, p.2]
theorem zipD_get {ds es : List D} {i : Nat} {c : D} (h : (zipD ds es)[i]? = some c) : ∃ d e, ds[i]? = some d ∧ es[i]? = some e ∧ c = .tup [d, e] := by
  unfold zipD at h
  rw [List.getElem?_map] at h
  cases q : (ds.zip es)[i]? with
  | none => rw [q] at h; cases h
  | some p =>
    rw [q] at h
    simp at h
    obtain ⟨h1, h2⟩ := List.getElem?_zip_eq_some.mp q
    exact ⟨p.1, p.2, h1, h2, h.symm⟩
theorem zipD_len {ds es : List D} : (zipD ds es).length = min ds.length es.length := by simp [zipD]
theorem walkD_zip {a b : Addr} {vs us : List V} {ds es : List D} (h : SqL B.K G1 a vs) (r : RpAll B.W G1 vs ds) (h' : SqL B.K G1 b us) (r' : RpAll B.W G1 us es) : WalkD B (Itz B.K a b) G1 (zipD ds es) := fun H0 G γ σ H sm S => by
  have hs : SqL B.K H a vs := S.sub.seq (sm.seq h)
  have hs' : SqL B.K H b us := S.sub.seq (sm.seq h')
  refine ⟨⟨vs, us, hs, hs', by rw [zipD_len, r.len, r'.len]; omega⟩, fun i c hc => ?_⟩
  obtain ⟨d, e, hd, he, rfl⟩ := zipD_get hc
  obtain ⟨v, hv, rv⟩ := r.get hd
  obtain ⟨u, hu, ru⟩ := r'.get he
  refine ⟨⟨vs, us, v, u, hs, hs', hv, hu⟩, fun x H' y => ?_⟩
  obtain ⟨T, x', y', h1, h2, h3, h4, h5⟩ := y
  have e1 := h4 vs hs
  rw [hv] at e1
  cases e1
  have e2 := h5 us hs'
  rw [hu] at e2
  cases e2
  subst h1 h3
  exact pair_step (B := withH B H0) S (rv.mono sm) (ru.mono sm) h2
theorem walkD_zipT {a b : Addr} {vs us : List V} {ds es : List D} (h : SqT B.K G1 a vs) (r : RpAll B.W G1 vs ds) (h' : SqT B.K G1 b us) (r' : RpAll B.W G1 us es) : WalkD B (RZ.ItzT B.K a b) G1 (zipD ds es) := fun H0 G γ σ H sm S => by
  have hs : SqT B.K H a vs := sqT_mono S.sub (sqT_mono sm h)
  have hs' : SqT B.K H b us := sqT_mono S.sub (sqT_mono sm h')
  refine ⟨⟨vs, us, hs, hs', by rw [zipD_len, r.len, r'.len]; omega⟩, fun i c hc => ?_⟩
  obtain ⟨d, e, hd, he, rfl⟩ := zipD_get hc
  obtain ⟨v, hv, rv⟩ := r.get hd
  obtain ⟨u, hu, ru⟩ := r'.get he
  refine ⟨⟨vs, us, v, u, hs, hs', hv, hu⟩, fun x H' y => ?_⟩
  obtain ⟨T, x', y', h1, h2, h3, h4, h5⟩ := y
  have e1 := h4 vs hs
  rw [hv] at e1
  cases e1
  have e2 := h5 us hs'
  rw [hu] at e2
  cases e2
  subst h1 h3
  exact pair_step (B := withH B H0) S (rv.mono sm) (ru.mono sm) h2
/-- both lists, or both tuples -/
def iZipD (t : DA) : DA := fun γ R => t γ fun ds γ1 => match ds with
  | [.lst xs, .lst ys] => R (zipD xs ys) γ1
  | [.tup xs, .tup ys] => R (zipD xs ys) γ1
  | _ => False
theorem i_zip {tg it : Expr} {t : DA} (h : PI X tg it (RZ.iZipA B.K (tDA B t))) : PI X tg it (tDI B (iZipD t)) := pi_imp h fun σ H R' ⟨G, γ, R, S, h, k⟩ => ⟨G, γ, _, S, h, fun ds γ1 G1 vs H1 q sm S1 r => by
  split at q
  · cases r with
    | cons r1 r2 =>
      cases r2 with
      | cons r2 r3 =>
        cases r3
        cases r1 with
        | lst hs ra =>
          cases r2 with
          | lst hs' ra' => exact ⟨_, _, _, _, rfl, .inl ⟨SqL.of (S1.sub _ _ hs), SqL.of (S1.sub _ _ hs'), k _ _ _ _ _ q sm S1 (walkD_zip (SqL.of hs) ra (SqL.of hs') ra')⟩⟩
  · cases r with
    | cons r1 r2 =>
      cases r2 with
      | cons r2 r3 =>
        cases r3
        cases r1 with
        | tup hs ra =>
          cases r2 with
          | tup hs' ra' => exact ⟨_, _, _, _, rfl, .inr ⟨hs.sq S1.sub, hs'.sq S1.sub, k _ _ _ _ _ q sm S1 (walkD_zipT (hs.sq0) ra (hs'.sq0) ra')⟩⟩
  · exact q.elim⟩
/-! ### for -/
def forD (b : BdT) (s : DS) (E : DEnds) : List D → Gm → Prop
  | [], γ => E.nx γ
  | d :: ds, γ => b d γ fun γ1 => s { nx := forD b s E ds, ct := forD b s E ds, bk := E.nx, rt := E.rt } γ1
def sFor (t : DA) (b : BdT) (s : DS) : DS := fun E γ => t γ fun ds γ1 => forD b s E ds γ1
theorem s_for {vs : List Nat} {t : DA} {bd : BdT} (h : PS X st (tFor (tDI B t) (tDG B vs bd) (tDS B s))) : PS X st (tDS B (sFor t bd s)) := ps_imp h fun D σ H ⟨G, γ, E, S, h, F⟩ => by
  refine ⟨G, γ, _, S, h, fun ds γ1 G1 H1 J q sm S1 w => ?_⟩
  refine ⟨fun i m σ H => ∃ G γ, m = ds.length - i ∧ i ≤ ds.length ∧ Same G1 G ∧ DstG B G γ σ H ∧ forD bd s E (ds.drop i) γ, ⟨_, G1, γ1, rfl, Nat.zero_le _, Same.refl _, S1, q⟩, ?_⟩
  rintro i m σ2 H2 ⟨G2, γ2, rfl, hi, sm2, S2, q2⟩
  obtain ⟨w1, w2⟩ := w B.H0 G2 γ2 σ2 H2 sm2 S2
  by_cases hlt : i < ds.length
  · right
    have hd : ds[i]? = some ds[i] := List.getElem?_eq_getElem hlt
    obtain ⟨g, y⟩ := w2 i _ hd
    rw [List.drop_eq_getElem_cons hlt] at q2
    refine ⟨g, fun σ' H' => ∃ G γ, Same G1 G ∧ DstG B G γ σ' H' ∧ forD bd s E (ds.drop (i + 1)) γ, fun σ' H' ⟨G3, γ3, s3, S3, q3⟩ => ⟨ds.length - (i + 1), by omega, G3, γ3, rfl, hlt, s3, S3, q3⟩, fun x H' yy => ?_⟩
    obtain ⟨G3, s3, S3, r3⟩ := y x H' yy
    refine ⟨G3, γ2, _, _, S3, r3, q2, fun γ4 σ4 q4 S4 _ => ?_⟩
    have s13 : Same G1 G3 := sm2.trans s3
    refine ⟨G3, γ4, _, S4, q4, ⟨fun γ5 G5 σ5 H5 q5 s5 S5 => ⟨G5, γ5, s13.trans s5, S5, q5⟩, fun d γ5 G5 σ5 v H5 q5 s5 S5 r5 => F.rt _ _ _ _ _ _ q5 (sm.trans (s13.trans s5)) S5 r5, fun γ5 G5 σ5 H5 q5 s5 S5 => F.nx _ _ _ _ q5 (sm.trans (s13.trans s5)) S5, fun γ5 G5 σ5 H5 q5 s5 S5 => ⟨G5, γ5, s13.trans s5, S5, q5⟩⟩⟩
  · left
    have e : i = ds.length := by omega
    subst e
    rw [List.drop_length] at q2
    exact ⟨w1, F.nx _ _ _ _ q2 (sm.trans sm2) S2⟩
/-! ### while -/
def sWhile (c : DB) (s : DS) : DS := fun E γ => ∃ W : Nat → Gm → Prop, (∃ m, W m γ) ∧ ∀ m γ, W m γ → c γ fun p γ1 =>
  (p → s { nx := fun γ' => ∃ m', m' < m ∧ W m' γ', ct := fun γ' => ∃ m', m' < m ∧ W m' γ', bk := E.nx, rt := E.rt } γ1) ∧ (¬p → E.nx γ1)
theorem s_while {c : DB} (h : PS X st (tWhile (tDB B c) (tDS B s))) : PS X st (tDS B (sWhile c s)) := ps_imp h fun D σ H ⟨G, γ, E, S, ⟨W, ⟨m0, w0⟩, turn⟩, F⟩ => by
  refine ⟨fun m σ H => ∃ G1 γ, Same G G1 ∧ DstG B G1 γ σ H ∧ W m γ, ⟨m0, G, γ, Same.refl _, S, w0⟩, ?_⟩
  rintro m σ2 H2 ⟨G2, γ2, s2, S2, w2⟩
  refine ⟨G2, γ2, _, S2, turn m γ2 w2, fun p b γ3 G3 H3 ⟨h1, h2⟩ hp s3 S3 => ?_⟩
  cases b with
  | true =>
    rw [if_pos rfl]
    refine ⟨fun σ' H' => ∃ m', m' < m ∧ ∃ G1 γ, Same G G1 ∧ DstG B G1 γ σ' H' ∧ W m' γ, fun σ' H' z => z, G3, γ3, _, S3, h1 (hp.mp rfl), ?_⟩
    exact ⟨fun γ5 G5 σ5 H5 ⟨m', l, q5⟩ s5 S5 => ⟨m', l, G5, γ5, s2.trans (s3.trans s5), S5, q5⟩, fun d γ5 G5 σ5 v H5 q5 s5 S5 r5 => F.rt _ _ _ _ _ _ q5 (s2.trans (s3.trans s5)) S5 r5,
      fun γ5 G5 σ5 H5 q5 s5 S5 => F.nx _ _ _ _ q5 (s2.trans (s3.trans s5)) S5, fun γ5 G5 σ5 H5 ⟨m', l, q5⟩ s5 S5 => ⟨m', l, G5, γ5, s2.trans (s3.trans s5), S5, q5⟩⟩
  | false =>
    rw [if_neg Bool.false_ne_true]
    exact F.nx _ _ _ _ (h2 fun z => nomatch hp.mpr z) (s2.trans s3) S3
end
end EL
namespace EL
open PySem PySem.Spec PyProof.Rows L2
/-! ### defs: what a call comes to -/
abbrev FD := List D → (D → Prop) → (Nat → List D → Prop) → Prop
/-- an exception, as it leaves: its class, its own dict where it has one -/
def XAt (W : Cw) (G H : Hp) (n : Nat) (fs : List D) (cv : Value) (o : Option Addr) : Prop :=
  ∃ C ns, W.cl n = some (C, ns) ∧ cv = .ref C ∧ ((fs = [] ∧ ns = [] ∧ o = none) ∨ ∃ d vs, o = some d ∧ H d = some (.xd (ns.zip vs)) ∧ vs.length = ns.length ∧ RpAll W G vs fs)
def noX : Nat → List D → Prop := fun _ _ => False
/-- K: the written part; cl: the classes; DkF: the deck's word by how many draws there were; c: how many draws it makes at most; n: how many arguments -/
def spD (K : PySem.W.Frag) (cl : Nat → Option (Addr × List Str)) (DkF : Nat → Hp → Addr → Addr → Prop) (c n : Nat) (F : FD) : Sp := fun vs H Q E => ∃ (m : Nat) (dk : Option (Addr × Addr)) (G : Hp) (ds : List D) (R : D → Prop) (xc : Nat → List D → Prop), m + c ≤ 2 ^ 50 ∧ (∀ m, DkLaw (DkF m)) ∧ (∀ m m' H d c, m ≤ m' → DkF m H d c → DkF m' H d c) ∧
  (∀ d c, dk = some (d, c) → DkF m H d c ∧ G d = none ∧ G c = none) ∧ Same G H ∧ (∀ p xs, H p = some (.tup xs) → G p = some (.tup xs)) ∧ RpAll ⟨dk, cl, K⟩ G vs ds ∧ ds.length = n ∧ F ds R xc ∧
  (∀ d v G' H', R d → Same G G' → Same G' H' → (∀ p xs, H' p = some (.tup xs) → G' p = some (.tup xs)) → (∀ p, H p ≠ none → G p = none → G' p = none) → Kp ⟨dk, cl, K⟩ H H' → (∀ d e, dk = some (d, e) → DkF (m + c) H' d e) → Rp ⟨dk, cl, K⟩ G' v d → Q v H') ∧
  ∀ n fs cv o G' H', xc n fs → Same G G' → Same G' H' → (∀ p xs, H' p = some (.tup xs) → G' p = some (.tup xs)) → (∀ p, H p ≠ none → G p = none → G' p = none) → Kp ⟨dk, cl, K⟩ H H' → (∀ d e, dk = some (d, e) → DkF (m + c) H' d e) → XAt ⟨dk, cl, K⟩ G' H' n fs cv o → E cv o H'
theorem spD_len {K : PySem.W.Frag} {cl : Nat → Option (Addr × List Str)} {DkF : Nat → Hp → Addr → Addr → Prop} {c n m : Nat} {F : FD} (h : n = m) : ∀ vs H Q E, spD K cl DkF c n F vs H Q E → vs.length = m := by
  rintro vs H Q E ⟨_, dk, G, ds, R, xc, _, _, _, _, _, _, r, hl, _⟩
  rw [r.len, hl, h]
/-- what is raised under B is what leaves the def -/
def XOk (B : Bs) : Prop := ∀ n fs cv o G γ σ H, B.xc n fs → DstG B G γ σ H → XAt B.W G H n fs cv o → B.E cv o H
/-- B's deck is the callee's, behind some draws -/
def DkIs (B : Bs) (DkF : Nat → Hp → Addr → Addr → Prop) : Prop := ∃ m, m + B.cost ≤ 2 ^ 50 ∧ B.DkAt = fun k => DkF (m + k)
/-- what is known of the deck's word, for calls -/
structure DkK (B : Bs) (DkF : Nat → Hp → Addr → Addr → Prop) : Prop where
  is : DkIs B DkF
  law : ∀ m, DkLaw (DkF m)
  up : ∀ m m' H d c, m ≤ m' → DkF m H d c → DkF m' H d c
def startL (N n : Nat) (ds : List D) : GL := ds.map Sl.fz ++ List.replicate (N - n) .un
def startG (N n : Nat) (ds : List D) : Gm := ⟨startL N n ds, 0⟩
theorem start_ok {W : Cw} {DkAt : Nat → Hp → Addr → Addr → Prop} {G H : Hp} {N : List Str} {vs : List V} {ds : List D} {xc : Nat → List D → Prop} {E : XK} {cost : Nat} (L : ∀ m, DkLaw (DkAt m)) (up : ∀ m m' H d c, m ≤ m' → DkAt m H d c → DkAt m' H d c) (hd : ∀ d c, W.dk = some (d, c) → DkAt 0 H d c ∧ G d = none ∧ G c = none) (sm : Same G H) (tu : ∀ p xs, H p = some (.tup xs) → G p = some (.tup xs)) (r : RpAll W G vs ds) :
    Dst ⟨W, DkAt, H, G, xc, E, cost⟩ 0 G (startL N.length ds.length ds) (L2.start N vs) H where
  law := L
  le := Nat.zero_le _
  up := up
  sub := sm
  sub0 := Same.refl _
  kept := Kp.refl
  fresh := fun p _ h => h
  tups := tu
  dkok := fun d c e => by
    obtain ⟨h1, h2, h3⟩ := hd d c e
    obtain ⟨t1, t2⟩ := (L _).there _ _ _ h1
    exact ⟨h1, t1, t2, h2, h3⟩
  len := by simp [L2.start, startL, r.len]
  slot := fun i s e => by
    unfold startL at e
    unfold L2.start
    by_cases l : i < ds.length
    · rw [List.getElem?_append_left (by rw [List.length_map]; exact l), List.getElem?_map] at e
      have hd : ds[i]? = some ds[i] := List.getElem?_eq_getElem l
      rw [hd] at e
      obtain ⟨v, hv, rv⟩ := r.get hd
      cases e
      refine ⟨some v, ?_, v, rfl, rv⟩
      rw [List.getElem?_append_left (by rw [List.length_map, r.len]; exact l), List.getElem?_map, hv]
      rfl
    · rw [List.getElem?_append_right (by rw [List.length_map]; omega)] at e
      rw [List.getElem?_append_right (by rw [List.length_map, r.len]; omega)]
      rw [List.getElem?_replicate] at e ⊢
      rw [List.length_map] at e ⊢
      rw [r.len]
      split at e
      · cases e
        rw [if_pos (by assumption)]
        exact ⟨none, rfl, trivial⟩
      · cases e
  off := fun i s p e hp => by
    exfalso
    have := List.mem_of_getElem? e
    rcases List.mem_append.mp this with h | h
    · obtain ⟨d, _, z⟩ := List.mem_map.mp h
      subst z
      cases hp
    · have := List.eq_of_mem_replicate h
      subst this
      cases hp
  nd := fun i j p s t e _ hp _ => by
    exfalso
    have := List.mem_of_getElem? e
    rcases List.mem_append.mp this with h | h
    · obtain ⟨d, _, z⟩ := List.mem_map.mp h
      subst z
      cases hp
    · have := List.eq_of_mem_replicate h
      subst this
      cases hp
/-- a def by its body's data reading -/
theorem bodyD {X : Cx} {K : PySem.W.Frag} {cl : Nat → Option (Addr × List Str)} {DkF : Nat → Hp → Addr → Addr → Prop} {c n : Nat} {F : FD} {N : List Str} {vs : List V} {H : Hp} {Q : VK} {E : XK} {body : List Stmt} {s : (Nat → List D → Prop) → DS} (h : spD K cl DkF c n F vs H Q E)
    (der : ∀ dk G xc DkAt, XOk ⟨⟨dk, cl, K⟩, DkAt, H, G, xc, E, c⟩ → DkK ⟨⟨dk, cl, K⟩, DkAt, H, G, xc, E, c⟩ DkF → PSs X body (tDS ⟨⟨dk, cl, K⟩, DkAt, H, G, xc, E, c⟩ (s xc)))
    (rd : ∀ ds R xc, ds.length = n → F ds R xc → s xc ⟨fun _ => R .non, fun d _ => R d, fun _ => False, fun _ => False⟩ (startG N.length n ds)) :
    ∃ t, PSs X body t ∧ t { nx := fun _ H' => Q .non H', rt := Q } (L2.start N vs) H := by
  obtain ⟨m, dk, G, ds, R, xc, hm, L, up, hd, sm, tu, r, hl, hF, k, kx⟩ := h
  subst hl
  have L' : ∀ k, DkLaw (DkF (m + k)) := fun k => L _
  have up' : ∀ k k' H d c, k ≤ k' → DkF (m + k) H d c → DkF (m + k') H d c := fun k k' H d c h => up _ _ H d c (by omega)
  refine ⟨_, der dk G xc (fun k => DkF (m + k)) ?_ ⟨⟨m, hm, rfl⟩, L, up⟩, G, _, _, start_ok L' up' hd sm tu r, rd ds R xc rfl hF, ?_⟩
  · exact fun n fs cv o G' γ σ H' q S x => kx n fs cv o G' H' q S.sub0 S.sub S.tups S.fresh S.kept (fun d e z => up _ _ _ _ _ (Nat.add_le_add_left S.le m) (S.dkok d e z).1) x
  have out : ∀ d v G' H' γ σ, R d → DstG ⟨⟨dk, cl, K⟩, fun k => DkF (m + k), H, G, xc, E, c⟩ G' γ σ H' → Rp ⟨dk, cl, K⟩ G' v d → Q v H' := fun d v G' H' γ σ hR S rv =>
    k d v G' H' hR S.sub0 S.sub S.tups S.fresh S.kept (fun d e z => up _ _ _ _ _ (Nat.add_le_add_left S.le m) (S.dkok d e z).1) rv
  exact ⟨fun γ G' σ H' q s S => out _ _ _ _ _ _ q S .non, fun d γ G' σ v H' q s S r => out _ _ _ _ _ _ q S r, fun _ _ _ _ q => q.elim, fun _ _ _ _ q => q.elim⟩
section
variable {X : Cx} {B : Bs} {G G' G1 : Hp} {γ γ' : Gm} {σ : L2.St} {H H' : Hp} {e a b : Expr} {ta tb t : DT} {pos : Pos} {st : Stmt}
/-- more draws -/
def plusC (γ : Gm) (c : Nat) : Gm := ⟨γ.sl, γ.ct + c⟩
/-- behind a call -/
theorem Dst.after {m m' : Nat} {γ : GL} (S : Dst B m G γ σ H) (hm : m' ≤ B.cost) (s1 : Same G G') (s2 : Same G' H') (tu : ∀ p xs, H' p = some (.tup xs) → G' p = some (.tup xs)) (fr : ∀ p, H p ≠ none → G p = none → G' p = none) (kp : Kp B.W H H') (hd : ∀ d c, B.W.dk = some (d, c) → B.DkAt m' H' d c) : Dst B m' G' γ σ H' := by
  refine S.heapsC hm s1 s2 (fun b o _ e z => kp b o e z) (fun p h0 g0 => ?_) tu hd fun i s p e hp => ?_
  · refine fr p ?_ (S.fresh p h0 g0)
    by_cases z : ∀ d c, B.W.dk = some (d, c) → p ≠ d ∧ p ≠ c
    · cases q : B.H0 p with
      | none => exact absurd q h0
      | some o => rw [S.kept p o q z]; exact fun z => nomatch z
    · intro hp
      apply z
      intro d c e
      obtain ⟨t1, t2⟩ := (S.law _).there _ _ _ (S.dkok d c e).1
      exact ⟨fun z => t1 (z ▸ hp), fun z => t2 (z ▸ hp)⟩
  · obtain ⟨h0, hg⟩ := S.off i s p e hp
    obtain ⟨o, _, h2⟩ := S.slot i s e
    rcases h2.there p hp with ⟨xs, h⟩ | ⟨xs, h⟩
    · exact ⟨by rw [h]; exact kp p _ h (S.offdk h0), fr p (by rw [h]; exact fun z => nomatch z) hg⟩
    · exact ⟨by rw [h]; exact kp p _ h (S.offdk h0), fr p (by rw [h]; exact fun z => nomatch z) hg⟩
theorem sp_run {DkF : Nat → Hp → Addr → Addr → Prop} {c n : Nat} {F : FD} {vs : List V} {ds : List D} {R : D → Prop} {xc : Nat → List D → Prop} {Q : VK} {E : XK} (hB : DkIs B DkF) (L : ∀ m, DkLaw (DkF m)) (up : ∀ m m' H d c, m ≤ m' → DkF m H d c → DkF m' H d c) (S : DstG B G γ σ H) (hc : γ.ct + c ≤ B.cost) (r : RpAll B.W G vs ds) (hl : ds.length = n) (hF : F ds R xc)
    (k : ∀ d G' v H', R d → Same G G' → DstG B G' (plusC γ c) σ H' → Rp B.W G' v d → Q v H') (kx : ∀ n fs cv o G' H', xc n fs → Same G G' → DstG B G' (plusC γ c) σ H' → XAt B.W G' H' n fs cv o → E cv o H') : spD B.K B.W.cl DkF c n F vs H Q E := by
  obtain ⟨m0, hb, hm⟩ := hB
  have at1 : ∀ k H d c, B.DkAt k H d c ↔ DkF (m0 + k) H d c := fun k H d c => by rw [hm]
  refine ⟨m0 + γ.ct, B.W.dk, G, ds, R, xc, by omega, L, up, fun d e z => ?_, S.sub, S.tups, r, hl, hF, fun d v G' H' hR s1 s2 tu fr kp hd rv => k d G' v H' hR s1 (S.after hc s1 s2 tu fr kp fun d e z => (at1 _ _ _ _).mpr (by have := hd d e z; rw [Nat.add_assoc] at this; exact this)) rv,
    fun n fs cv o G' H' hx s1 s2 tu fr kp hd x => kx n fs cv o G' H' hx s1 (S.after hc s1 s2 tu fr kp fun d e z => (at1 _ _ _ _).mpr (by have := hd d e z; rw [Nat.add_assoc] at this; exact this)) x⟩
  exact ⟨(at1 _ _ _ _).mp (S.dkok d e z).1, S.gdk d e z⟩
theorem DkK.withH {B : Bs} {DkF : Nat → Hp → Addr → Addr → Prop} (h : DkK B DkF) (H0 : Hp) : DkK (withH B H0) DkF := ⟨h.is, h.law, h.up⟩
/-- a def that draws nothing -/
def dCall (n : Nat) (F : FD) (xc : Nat → List D → Prop) (ta : DA) : DT := fun γ R => ta γ fun ds γ1 => ds.length = n ∧ F ds (fun d => R d γ1) xc
/-- one that draws at most c times -/
def dCallC (c n : Nat) (F : FD) (cost : Nat) (xc : Nat → List D → Prop) (ta : DA) : DT := fun γ R => ta γ fun ds γ1 => ds.length = n ∧ γ1.ct + c ≤ cost ∧ F ds (fun d => R d (plusC γ1 c)) xc
variable {DkF : Nat → Hp → Addr → Addr → Prop}
theorem plus0 {γ : Gm} : plusC γ 0 = γ := rfl
theorem d_callC (hB : DkK B DkF) {c n : Nat} {F : FD} {ta : DA} {E : XK} (h : PE X e (tCall (spD B.K B.W.cl DkF c n F) [] E (tDA B ta))) : PE X e (tD B (dCallC c n F B.cost noX ta)) := pe_imp h fun σ H Q ⟨G, γ, R, S, h, k⟩ =>
  ⟨G, γ, _, S, h, fun ds γ1 G1 vs H1 ⟨hl, hc, hF⟩ sm S1 r => by
    show spD B.K B.W.cl DkF c n F (vs ++ []) H1 Q E
    rw [List.append_nil]
    exact sp_run hB.is hB.law hB.up S1 hc r hl hF (fun d G' v H' hR s' S' r' => k _ _ _ _ _ hR (sm.trans s') S' r') fun _ _ _ _ _ _ z => z.elim⟩
theorem d_call (hB : DkK B DkF) {n : Nat} {F : FD} {ta : DA} {E : XK} (h : PE X e (tCall (spD B.K B.W.cl DkF 0 n F) [] E (tDA B ta))) : PE X e (tD B (dCall n F noX ta)) := pe_imp h fun σ H Q ⟨G, γ, R, S, h, k⟩ =>
  ⟨G, γ, _, S, h, fun ds γ1 G1 vs H1 ⟨hl, hF⟩ sm S1 r => by
    show spD B.K B.W.cl DkF 0 n F (vs ++ []) H1 Q E
    rw [List.append_nil]
    exact sp_run (c := 0) hB.is hB.law hB.up S1 S1.le r hl hF (fun d G' v H' hR s' S' r' => k _ _ _ _ _ hR (sm.trans s') S' r') fun _ _ _ _ _ _ z => z.elim⟩
theorem d_call0 (hB : DkK B DkF) {n : Nat} {F : FD} {E : XK} (h : PE X e (tCall (spD B.K B.W.cl DkF 0 n F) [] E tNil)) : PE X e (tD B (dCall n F noX aNil)) := pe_imp h fun σ H Q ⟨G, γ, R, S, ⟨hl, hF⟩, k⟩ =>
  sp_run (c := 0) hB.is hB.law hB.up S S.le .nil hl hF (fun d G' v H' hR s' S' r' => k _ _ _ _ _ hR s' S' r') fun _ _ _ _ _ _ z => z.elim
/-- one that may raise: what it lets out leaves here, too -/
theorem d_callX (hB : DkK B DkF) {c n : Nat} {F : FD} {ta : DA} (hx : XOk B) (h : PE X e (tCall (spD B.K B.W.cl DkF c n F) [] B.E (tDA B ta))) : PE X e (tD B (dCallC c n F B.cost B.xc ta)) := pe_imp h fun σ H Q ⟨G, γ, R, S, h, k⟩ =>
  ⟨G, γ, _, S, h, fun ds γ1 G1 vs H1 ⟨hl, hc, hF⟩ sm S1 r => by
    show spD B.K B.W.cl DkF c n F (vs ++ []) H1 Q B.E
    rw [List.append_nil]
    exact sp_run hB.is hB.law hB.up S1 hc r hl hF (fun d G' v H' hR s' S' r' => k _ _ _ _ _ hR (sm.trans s') S' r') fun n fs cv o G' H' z s' S' x => hx n fs cv o G' (plusC γ1 c) _ H' z S' x⟩
/-- a method of an instance of class c -/
def dMeth (k n : Nat) (F : FD) (xc : Nat → List D → Prop) (to : DT) (ta : DA) : DT := fun γ R => to γ fun d γ1 => match d with
  | .obj c' fs => c' = k ∧ ta γ1 fun ds γ2 => (D.obj c' fs :: ds).length = n ∧ F (D.obj c' fs :: ds) (fun r => R r γ2) xc
  | _ => False
theorem lookup_zip {ns : List Str} {vs : List V} {m : Str} (h : ns.contains m = false) : (ns.zip vs).lookup m = none := by
  induction ns generalizing vs with
  | nil => rfl
  | cons x ns ih =>
    cases vs with
    | nil => rfl
    | cons v vs =>
      rw [List.contains_cons, Bool.or_eq_false_iff] at h
      rw [List.zip_cons_cons, List.lookup_cons, h.1]
      exact ih h.2
theorem d_meth (hB : DkK B DkF) {C : Addr} {m : Str} {kc n : Nat} {ns : List Str} {F : FD} {ta : DA} {E : XK} (hc : B.W.cl kc = some (C, ns)) (hm : ns.contains m = false) (h : PE X e (tMeth C m (spD B.K B.W.cl DkF 0 n F) [] E (tD B t) (tDA B ta))) : PE X e (tD B (dMeth kc n F noX t ta)) := pe_imp h fun σ H Q ⟨G, γ, R, S, h, k⟩ =>
  ⟨G, γ, _, S, h, fun d γ1 G1 v H1 q sm S1 r => by
    split at q
    · obtain ⟨e, h2⟩ := q
      subst e
      have r0 := r
      cases r with
      | obj hC hl hv ra =>
        rw [hc] at hC
        cases hC
        refine ⟨_, _, _, rfl, S1.sub _ _ hv, lookup_zip hm, G1, γ1, _, S1, h2, fun ds γ2 G2 vs H2 ⟨hl, hF⟩ sm2 S2 r2 => ?_⟩
        show spD B.K B.W.cl DkF 0 n F (_ :: (vs ++ [])) H2 Q E
        rw [List.append_nil]
        exact sp_run (c := 0) hB.is hB.law hB.up S2 S2.le (.cons (r0.mono sm2) r2) hl hF (fun d G' v H' hR s' S' r' => k _ _ _ _ _ hR (sm.trans (sm2.trans s')) S' r') fun _ _ _ _ _ _ z => z.elim
    · exact q.elim⟩
theorem d_meth0 (hB : DkK B DkF) {C : Addr} {m : Str} {kc n : Nat} {ns : List Str} {F : FD} {E : XK} (hc : B.W.cl kc = some (C, ns)) (hm : ns.contains m = false) (h : PE X e (tMeth C m (spD B.K B.W.cl DkF 0 n F) [] E (tD B t) tNil)) : PE X e (tD B (dMeth kc n F noX t aNil)) := pe_imp h fun σ H Q ⟨G, γ, R, S, h, k⟩ =>
  ⟨G, γ, _, S, h, fun d γ1 G1 v H1 q sm S1 r => by
    split at q
    · obtain ⟨e, hl, hF⟩ := q
      subst e
      have r0 := r
      cases r with
      | obj hC hl' hv ra =>
        rw [hc] at hC
        cases hC
        refine ⟨_, _, _, rfl, S1.sub _ _ hv, lookup_zip hm, ?_⟩
        exact sp_run (c := 0) hB.is hB.law hB.up S1 S1.le (.cons r0 .nil) hl hF (fun d G' v H' hR s' S' r' => k _ _ _ _ _ hR (sm.trans s') S' r') fun _ _ _ _ _ _ z => z.elim
    · exact q.elim⟩
/-- a promise by addresses, told by data -/
theorem fn_conv {P : Program} {w : World} {K : PySem.W.Frag} {mg : Str → Option Value} {base : Heap} {CX : CXT} {k : Nat} {f : Addr} {fd : FuncData} {ps : List Str} {sp sp' : Sp} (h : FnOk P w K mg base CX k f fd ps sp) (c : ∀ vs H Q E, sp' vs H Q E → sp vs H Q E) : FnOk P w K mg base CX k f fd ps sp' := h.imp c
/-! ### items, lengths, slices -/
def ixF : F2 := fun d e R => match d, e with
  | .tup ds, .int i => ∃ c, atI ds i = some c ∧ R c
  | .lst ds, .int i => ∃ c, atI ds i = some c ∧ R c
  | .str z, .int i => z.length ≤ 1000000 ∧ ∃ c, atI z.cps.toList i = some c ∧ R (.str ⟨#[c]⟩)
  | _, _ => False
theorem atI_len {vs : List V} {ds : List D} {W : Cw} (r : RpAll W G vs ds) {i : Int} {c : D} (h : atI ds i = some c) : ∃ v, atI vs i = some v ∧ Rp W G v c := by
  unfold atI at h ⊢
  rw [r.len]
  cases q : ixN ds.length i with
  | none => rw [q] at h; cases h
  | some j =>
    rw [q] at h
    exact r.get h
theorem ok_ix (hK : X.K = B.K) : OkR2 B (rIx X.K) ixF := by
  intro G γ σ H x y d e R Q S rx ry h1 k
  rw [hK]
  unfold ixF at h1
  split at h1
  · obtain ⟨c, h1, h2⟩ := h1
    cases rpInt ry
    cases rx with
    | tup hs ra =>
      obtain ⟨v, hv, rv⟩ := atI_len ra h1
      exact .inr (.inl ⟨_, _, _, v, rfl, rfl, hs.sq S.sub, hv, k _ _ _ _ h2 (Same.refl _) S rv⟩)
  · obtain ⟨c, h1, h2⟩ := h1
    cases rpInt ry
    cases rx with
    | lst hs ra =>
      obtain ⟨v, hv, rv⟩ := atI_len ra h1
      exact .inl ⟨_, _, _, v, rfl, rfl, SqL.of (S.sub _ _ hs), hv, k _ _ _ _ h2 (Same.refl _) S rv⟩
  · obtain ⟨hz, c, h1, h2⟩ := h1
    cases rpInt ry
    cases rpStr rx
    exact .inr (.inr ⟨_, _, c, rfl, rfl, sz_ok hz, h1, k _ _ _ _ h2 (Same.refl _) S (.str _)⟩)
  · exact h1.elim
theorem d_item (hK : X.K = B.K) (ha : PE X a (tD B ta)) (hb : PE X b (tD B tb)) (hs : PlainIx b) : PE X (.Subscript a b pos) (tD B (dOp ixF ta tb)) := d_ix ix_seq (ok_ix hK) ha hb hs
/-! ### calls by values -/
abbrev FC := List D → (D → Prop) → Prop
def OkRC (B : Bs) (r : List V → Hp → VK → Prop) (f : FC) : Prop := ∀ G γ σ H vs ds R Q, DstG B G γ σ H → RpAll B.W G vs ds → f ds R →
  (∀ c G' v H', R c → Same G G' → DstG B G' γ σ H' → Rp B.W G' v c → Q v H') → r vs H Q
def dCB (f : FC) (ta : DA) : DT := fun γ R => ta γ fun ds γ1 => f ds fun c => R c γ1
theorem d_cb {r : List V → Hp → VK → Prop} {f : FC} {ta : DA} (hr : OkRC B r f) (h : PE X e (tCB r (tDA B ta))) : PE X e (tD B (dCB f ta)) := pe_imp h fun σ H Q ⟨G, γ, R, S, h, k⟩ =>
  ⟨G, γ, _, S, h, fun ds γ1 G1 vs H1 hf sm S1 r1 => hr _ _ _ _ _ _ _ _ S1 r1 hf fun c G' v H' hc s' S' r' => k _ _ _ _ _ hc (sm.trans s') S' r'⟩
def lenF : FC := fun ds R => match ds with
  | [.tup xs] => R (.int (xs.length : Nat))
  | [.lst xs] => R (.int (xs.length : Nat))
  | [.str z] => z.length ≤ 1000000 ∧ R (.int (z.length : Nat))
  | _ => False
def rLen (K : PySem.W.Frag) : List V → Hp → VK → Prop := fun xs H Q => (∃ p ys, xs = [.ref p] ∧ (SqL K H p ys ∨ SqT K H p ys) ∧ Q (.int ys.length) H) ∨ ∃ z, xs = [.str z] ∧ z.length ≤ sizeLine ∧ Q (.int z.length) H
theorem call_lenD : CallR X (.builtin "len") (rLen X.K) := CallR.or call_len_seq call_len_str
theorem ok_len (hK : X.K = B.K) : OkRC B (rLen X.K) lenF := by
  intro G γ σ H vs ds R Q S r h1 k
  rw [hK]
  unfold lenF at h1
  split at h1
  · cases r with
    | cons r1 r2 =>
      cases r2
      cases r1 with
      | tup hs ra =>
        refine .inl ⟨_, _, rfl, .inr (hs.sq S.sub), ?_⟩
        rw [ra.len]
        exact k _ _ _ _ h1 (Same.refl _) S (.int _)
  · cases r with
    | cons r1 r2 =>
      cases r2
      cases r1 with
      | lst hs ra =>
        refine .inl ⟨_, _, rfl, .inl (SqL.of (S.sub _ _ hs)), ?_⟩
        rw [ra.len]
        exact k _ _ _ _ h1 (Same.refl _) S (.int _)
  · cases r with
    | cons r1 r2 =>
      cases r2
      cases rpStr r1
      exact .inr ⟨_, rfl, sz_ok h1.1, k _ _ _ _ h1.2 (Same.refl _) S (.int _)⟩
  · exact h1.elim
def absF : FC := fun ds R => match ds with
  | [.int i] => R (.int (if i < 0 then -i else i))
  | _ => False
theorem ok_abs : OkRC B (fun xs H Q => ∃ i, xs = [.int i] ∧ Q (.int (if i < 0 then -i else i)) H) absF := by
  intro G γ σ H vs ds R Q S r h2 k
  unfold absF at h2
  split at h2
  · cases r with
    | cons r1 r2 =>
      cases r2
      cases rpInt r1
      exact ⟨_, rfl, k _ _ _ _ h2 (Same.refl _) S (.int _)⟩
  · exact h2.elim
def int1F : FC := fun ds R => match ds with
  | [.int i] => R (.int i)
  | [.bl b] => R (.int (if b then 1 else 0))
  | _ => False
theorem ok_int1 : OkRC B (fun xs H Q => (∃ i, xs = [.int i] ∧ Q (.int i) H) ∨ ∃ k, xs = [.bl k] ∧ Q (.int (if k then 1 else 0)) H) int1F := by
  intro G γ σ H vs ds R Q S r h2 k
  unfold int1F at h2
  split at h2
  · cases r with
    | cons r1 r2 =>
      cases r2
      cases rpInt r1
      exact .inl ⟨_, rfl, k _ _ _ _ h2 (Same.refl _) S (.int _)⟩
  · cases r with
    | cons r1 r2 =>
      cases r2
      cases rpBl r1
      exact .inr ⟨_, rfl, k _ _ _ _ h2 (Same.refl _) S (.int _)⟩
  · exact h2.elim
def min2F : FC := fun ds R => match ds with
  | [.int i, .int j] => R (.int (min i j))
  | _ => False
theorem ok_min2 : OkRC B (fun xs H Q => ∃ i j, xs = [.int i, .int j] ∧ Q (.int (if j < i then j else i)) H) min2F := by
  intro G γ σ H vs ds R Q S r h2 k
  unfold min2F at h2
  split at h2
  · rename_i i j
    cases r with
    | cons r1 r2 =>
      cases r2 with
      | cons r2 r3 =>
        cases r3
        cases rpInt r1
        cases rpInt r2
        refine ⟨_, _, rfl, ?_⟩
        have e : (if j < i then j else i) = min i j := by split <;> omega
        rw [e]
        exact k _ _ _ _ h2 (Same.refl _) S (.int _)
  · exact h2.elim
def max2F : FC := fun ds R => match ds with
  | [.int i, .int j] => R (.int (max i j))
  | _ => False
theorem ok_max2 : OkRC B (fun xs H Q => ∃ i j, xs = [.int i, .int j] ∧ Q (.int (if j > i then j else i)) H) max2F := by
  intro G γ σ H vs ds R Q S r h2 k
  unfold max2F at h2
  split at h2
  · rename_i i j
    cases r with
    | cons r1 r2 =>
      cases r2 with
      | cons r2 r3 =>
        cases r3
        cases rpInt r1
        cases rpInt r2
        refine ⟨_, _, rfl, ?_⟩
        have e : (if j > i then j else i) = max i j := by split <;> omega
        rw [e]
        exact k _ _ _ _ h2 (Same.refl _) S (.int _)
  · exact h2.elim
/-- tuple(list), tuple(tuple) -/
def tupF : FC := fun ds R => match ds with
  | [.lst es] => R (.tup es)
  | [.tup es] => R (.tup es)
  | _ => False
theorem ok_tupOf (hK : X.K = B.K) : OkRC B (fun xs H Q => ∃ p ys, xs = [.ref p] ∧ ((SqL X.K H p ys ∧ ∀ l, H l = none → Q (.ref l) (upd H l (.tup ys))) ∨ (SqT X.K H p ys ∧ Q (.ref p) H))) tupF := by
  intro G γ σ H vs ds R Q S r h2 k
  rw [hK]
  unfold tupF at h2
  split at h2
  · cases r with
    | cons r1 r2 =>
      cases r2
      cases r1 with
      | lst hs ra => exact ⟨_, _, rfl, .inl ⟨SqL.of (S.sub _ _ hs), fun l hl => by
          obtain ⟨G2, s2, S2, r2⟩ := S.newTup ra hl
          exact k _ _ _ _ h2 s2 S2 r2⟩⟩
  · cases r with
    | cons r1 r2 =>
      cases r2
      cases r1 with
      | tup hs ra => exact ⟨_, _, rfl, .inr ⟨hs.sq S.sub, k _ _ _ _ h2 (Same.refl _) S (.tup hs ra)⟩⟩
  · exact h2.elim
/-- list(list), list(tuple): new -/
def fListOf (ta : DA) : DA := fun γ R => ta γ fun ds γ1 => match ds with
  | [.lst es] => R es γ1
  | [.tup es] => R es γ1
  | _ => False
theorem f_listOf {ta : DA} (hK : X.K = B.K) (h : PE X e (tCB (fun xs H Q => ∃ p ys, xs = [.ref p] ∧ (SqL X.K H p ys ∨ SqT X.K H p ys) ∧ ∀ l, H l = none → Q (.ref l) (upd H l (.lst ys))) (tDA B ta))) : PE X e (tDF B (fListOf ta)) := pe_imp h fun σ H Q ⟨G, γ, R, S, h, k⟩ =>
  ⟨G, γ, _, S, h, fun ds γ1 G1 vs H1 q sm S1 r => by
    rw [hK]
    have fin : ∀ ys es, R es γ1 → RpAll B.W G1 ys es → ∀ l, H1 l = none → Q (.ref l) (upd H1 l (.lst ys)) := fun ys es h2 ra l hl => k _ _ _ _ _ _ h2 sm (S1.laid (fun _ z => nomatch z) hl) upd_same ra (S1.free0 hl) (S1.sub.free hl) (S1.noslot hl)
    split at q
    · cases r with
      | cons r1 r2 =>
        cases r2
        cases r1 with
        | lst hs ra => exact ⟨_, _, rfl, .inl (SqL.of (S1.sub _ _ hs)), fin _ _ q ra⟩
    · cases r with
      | cons r1 r2 =>
        cases r2
        cases r1 with
        | tup hs ra => exact ⟨_, _, rfl, .inr (hs.sq S1.sub), fin _ _ q ra⟩
    · exact q.elim⟩
/-! ### new lists by +, * -/
def fCatF (ta tb : DT) : DA := fun γ R => ta γ fun x γ1 => tb γ1 fun y γ2 => match x, y with
  | .lst ds, .lst es => ds.length + es.length ≤ 1000000 ∧ R (ds ++ es) γ2
  | _, _ => False
theorem f_cat (ha : PE X a (tD B ta)) (hb : PE X b (tD B tb)) : PE X (.BinOp a .Add b pos) (tDF B (fCatF ta tb)) := pe_imp (pe_op op_cat ha hb) fun σ H Q ⟨G, γ, R, S, h, k⟩ =>
  ⟨G, γ, _, S, h, fun x γ1 G1 v H1 h1 s1 S1 r1 => ⟨G1, γ1, _, S1, h1, fun y γ2 G2 u H2 q s2 S2 r2 => by
    split at q
    · obtain ⟨hl, h2⟩ := q
      cases r1 with
      | lst hs ra =>
        cases r2 with
        | lst hs' ra' =>
          refine ⟨_, _, _, _, rfl, rfl, S2.sub _ _ (s2 _ _ hs), S2.sub _ _ hs', by rw [ra.len, ra'.len]; exact sz_ok hl, fun p hp => ?_⟩
          exact k _ _ _ _ _ _ h2 (s1.trans s2) (S2.laid (fun _ z => nomatch z) hp) upd_same ((ra.mono s2).app ra') (S2.free0 hp) (S2.sub.free hp) (S2.noslot hp)
    · exact q.elim⟩⟩
def fRep (ta tb : DT) : DA := fun γ R => ta γ fun x γ1 => tb γ1 fun y γ2 => match x, y with
  | .lst ds, .int k => (-(2 ^ 62) ≤ k ∧ k < 2 ^ 62 ∧ ds.length * k.toNat ≤ 1000000) ∧ R (repD k ds) γ2
  | _, _ => False
theorem f_rep (ha : PE X a (tD B ta)) (hb : PE X b (tD B tb)) : PE X (.BinOp a .Mult b pos) (tDF B (fRep ta tb)) := pe_imp (pe_op op_rep ha hb) fun σ H Q ⟨G, γ, R, S, h, k⟩ =>
  ⟨G, γ, _, S, h, fun x γ1 G1 v H1 h1 s1 S1 r1 => ⟨G1, γ1, _, S1, h1, fun y γ2 G2 u H2 q s2 S2 r2 => by
    split at q
    · obtain ⟨⟨h0, h3, hl⟩, h2⟩ := q
      cases rpInt r2
      cases r1 with
      | lst hs ra =>
        refine ⟨_, _, _, rfl, rfl, S2.sub _ _ (s2 _ _ hs), by omega, by omega, by rw [ra.len]; exact sz_ok hl, fun p hp => ?_⟩
        exact k _ _ _ _ _ _ h2 (s1.trans s2) (S2.laid (fun _ z => nomatch z) hp) upd_same (rp_rep (ra.mono s2) _) (S2.free0 hp) (S2.sub.free hp) (S2.noslot hp)
    · exact q.elim⟩⟩
/-! ### fields -/
def dFld (c i : Nat) (t : DT) : DT := fun γ R => t γ fun d γ1 => match d with
  | .obj c' fs => c' = c ∧ ∃ x, fs[i]? = some x ∧ R x γ1
  | _ => False
theorem lookup_at {ns : List Str} {vs : List V} {f : Str} {i : Nat} {v : V} (hn : ns[i]? = some f) (nd : ns.Nodup) (hv : vs[i]? = some v) : (ns.zip vs).lookup f = some v := by
  induction ns generalizing vs i with
  | nil => simp at hn
  | cons x ns ih =>
    cases vs with
    | nil => simp at hv
    | cons u vs =>
      rw [List.nodup_cons] at nd
      rw [List.zip_cons_cons, List.lookup_cons]
      cases i with
      | zero =>
        simp at hn hv
        subst hn hv
        simp
      | succ i =>
        have hn' : ns[i]? = some f := by simpa using hn
        have hv' : vs[i]? = some v := by simpa using hv
        have : (f == x) = false := by
          rw [beq_eq_false_iff_ne]
          intro z
          subst z
          exact nd.1 (List.mem_of_getElem? hn')
        rw [this]
        exact ih hn' nd.2 hv'
theorem d_fld {C : Addr} {f : Str} {c i : Nat} {ns : List Str} (hK : X.K = B.K) (hc : B.W.cl c = some (C, ns)) (hi : ns[i]? = some f) (nd : ns.Nodup) (cl : Cls B.K C) (na : NoAttr B.K C f) (h : PE X a (tD B t)) (hb : attributeBase a f X.env (eval a X.env) = eval a X.env := by rfl) : PE X (.Attribute a f pos) (tD B (dFld c i t)) := pe_imp (pe_fld h hb) fun σ H Q ⟨G, γ, R, S, h, k⟩ =>
  ⟨G, γ, _, S, h, fun d γ1 G1 v H1 q sm S1 r => by
    rw [hK]
    split at q
    · obtain ⟨e, x, hx, h2⟩ := q
      subst e
      cases r with
      | obj hC hl hv ra =>
        rw [hc] at hC
        cases hC
        obtain ⟨u, hu, ru⟩ := ra.get hx
        exact ⟨_, C, _, _, u, rfl, S1.sub _ _ hv, cl, na, lookup_at hi nd hu, k _ _ _ _ _ h2 sm S1 ru⟩
    · exact q.elim⟩
/-! ### slices -/
def cutD (ds : List D) (lo hi : Option Int) : List D := (ds.drop (HT.sIx ds.length 0 lo)).take (HT.sIx ds.length ds.length hi - HT.sIx ds.length 0 lo)
abbrev DO := Gm → (Option Int → Gm → Prop) → Prop
def tDO (B : Bs) (t : DO) : TO := fun σ H Q => ∃ G γ R, DstG B G γ σ H ∧ t γ R ∧ ∀ o γ' G' H', R o γ' → Same G G' → DstG B G' γ' σ H' → Q o H'
def oNone : DO := fun γ R => R none γ
def oSome (t : DT) : DO := fun γ R => t γ fun d γ1 => match d with
  | .int i => R (some i) γ1
  | _ => False
theorem po_imp {e : Option Expr} {t t' : TO} (h : PO X e t) (k : ∀ σ H Q, t' σ H Q → t σ H Q) : PO X e t' := ⟨fun pins s σ H Q I q => h.run pins s σ H Q I (k σ H Q q)⟩
theorem o_none : PO X none (tDO B oNone) := po_imp po_none fun σ H Q ⟨G, γ, R, S, h, k⟩ => k _ _ _ _ h (Same.refl _) S
theorem o_some (h : PE X e (tD B t)) : PO X (some e) (tDO B (oSome t)) := po_imp (po_some h) fun σ H Q ⟨G, γ, R, S, h, k⟩ => ⟨G, γ, _, S, h, fun d γ1 G1 v H1 q sm S1 r => by
  split at q
  · cases rpInt r
    exact ⟨_, rfl, k _ _ _ _ q sm S1⟩
  · exact q.elim⟩
theorem RpAll.cut {W : Cw} {vs : List V} {ds : List D} (r : RpAll W G vs ds) (lo hi : Option Int) : RpAll W G (cutV vs lo hi) (cutD ds lo hi) := by
  unfold cutV cutD
  rw [r.len]
  exact (r.drop _).take _
def dSl (t : DT) (tl th : DO) : DT := fun γ R => t γ fun d γ1 => tl γ1 fun lo γ2 => th γ2 fun hi γ3 => match d with
  | .tup ds => R (.tup (cutD ds lo hi)) γ3
  | .lst ds => R (.lst (cutD ds lo hi)) γ3
  | .str z => z.length ≤ 1000000 ∧ R (.str (cutS z lo hi)) γ3
  | _ => False
def rSlD (K : PySem.W.Frag) : V → Option Int → Option Int → Hp → VK → Prop := fun x lo hi H Q => rSlA K x lo hi H Q ∨ (rSlL K x lo hi H Q ∨ rSlS x lo hi H Q)
theorem sl_D : SlR X (rSlD X.K) := SlR.or sl_tupA (SlR.or sl_list sl_str)
theorem d_sl {lo hi : Option Expr} {p2 : Pos} {tl th : DO} (hK : X.K = B.K) (hp : PE X (.Subscript e (.Slice lo hi none p2) pos) (tSl (rSlD X.K) (tD B t) (tDO B tl) (tDO B th))) : PE X (.Subscript e (.Slice lo hi none p2) pos) (tD B (dSl t tl th)) :=
  pe_imp hp fun σ H Q ⟨G, γ, R, S, h, k⟩ => ⟨G, γ, _, S, h, fun d γ1 G1 v H1 h1 s1 S1 r1 => ⟨G1, γ1, _, S1, h1, fun lo γ2 G2 H2 h2 s2 S2 => ⟨G2, γ2, _, S2, h2, fun hi γ3 G3 H3 h3 s3 S3 => by
    rw [hK]
    have r3 := r1.mono (s2.trans s3)
    split at h3
    · rename_i ds
      cases r3 with
      | @tup pa vs _ hs ra =>
        refine .inl ⟨_, _, rfl, hs.sq S3.sub, fun hw => ?_, fun _ p hp => ?_⟩
        · refine k _ _ _ _ _ h3 (s1.trans (s2.trans s3)) S3 ?_
          have e : cutD ds lo hi = ds := by
            unfold cutD
            rw [← ra.len, hw.1, hw.2, ra.len, List.drop_zero, Nat.sub_zero, List.take_length]
          rw [e]
          exact .tup hs ra
        · obtain ⟨G4, s4, S4, r4⟩ := S3.newTup (ra.cut lo hi) hp
          exact k _ _ _ _ _ h3 ((s1.trans (s2.trans s3)).trans s4) S4 r4
    · cases r3 with
      | @lst pa vs _ hs ra =>
        refine .inr (.inl ⟨_, _, rfl, SqL.of (S3.sub _ _ hs), fun p hp => ?_⟩)
        obtain ⟨G4, s4, S4, r4⟩ := S3.newLst (ra.cut lo hi) hp
        exact k _ _ _ _ _ h3 ((s1.trans (s2.trans s3)).trans s4) S4 r4
    · cases rpStr r3
      exact .inr (.inr ⟨_, rfl, sz_ok h3.1, k _ _ _ _ _ h3.2 (s1.trans (s2.trans s3)) S3 (.str _)⟩)
    · exact h3.elim⟩⟩⟩
/-- a list's slice: new -/
def fSlL (t : DT) (tl th : DO) : DA := fun γ R => t γ fun d γ1 => tl γ1 fun lo γ2 => th γ2 fun hi γ3 => match d with
  | .lst ds => R (cutD ds lo hi) γ3
  | _ => False
theorem f_slL {lo hi : Option Expr} {p2 : Pos} {tl th : DO} (hK : X.K = B.K) (hp : PE X (.Subscript e (.Slice lo hi none p2) pos) (tSl (rSlL X.K) (tD B t) (tDO B tl) (tDO B th))) : PE X (.Subscript e (.Slice lo hi none p2) pos) (tDF B (fSlL t tl th)) :=
  pe_imp hp fun σ H Q ⟨G, γ, R, S, h, k⟩ => ⟨G, γ, _, S, h, fun d γ1 G1 v H1 h1 s1 S1 r1 => ⟨G1, γ1, _, S1, h1, fun lo γ2 G2 H2 h2 s2 S2 => ⟨G2, γ2, _, S2, h2, fun hi γ3 G3 H3 h3 s3 S3 => by
    rw [hK]
    have r3 := r1.mono (s2.trans s3)
    split at h3
    · cases r3 with
      | @lst pa vs _ hs ra =>
        refine ⟨_, _, rfl, SqL.of (S3.sub _ _ hs), fun p hp => ?_⟩
        exact k _ _ _ _ _ _ h3 (s1.trans (s2.trans s3)) (S3.laid (fun _ z => nomatch z) hp) upd_same (ra.cut lo hi) (S3.free0 hp) (S3.sub.free hp) (S3.noslot hp)
    · exact h3.elim⟩⟩⟩
/-! ### own lists -/
theorem Dst.store {m : Nat} {γ : GL} (S : Dst B m G γ σ H) {i : Nat} {p : Addr} {ds es : List D} {us : List V} (h : γ[i]? = some (.own p ds)) (r : RpAll B.W G us es) : Dst B m G (γ.set i (.own p es)) σ (upd H p (.lst us)) := by
  obtain ⟨o, h1, h2, vs, h3, h4⟩ := S.slot i _ h
  subst h2
  obtain ⟨h5, h6⟩ := S.off i _ p h (List.mem_singleton.mpr rfl)
  have Sw : Dst B m G (γ.set i .un) σ H := S.weak
  have no : NoSlot (γ.set i .un) p := fun j s e hp => by
    by_cases z : i = j
    · subst z
      rw [List.getElem?_set_self (List.getElem?_eq_some_iff.mp h).1] at e
      cases e
      cases hp
    · rw [List.getElem?_set_ne z] at e
      exact z (S.nd i j p _ s h e (List.mem_singleton.mpr rfl) hp)
  have S2 := Sw.offed (o := .lst us) (fun _ z => nomatch z) h6 h5 no
  have S3 := slot_set S2 (i := i) (v := .ref p) (s := .own p es) ⟨rfl, us, upd_same, r⟩ fun p' hp' => by
    cases List.mem_singleton.mp hp'
    exact ⟨h5, h6, fun j t _ e => no j t e⟩
  rw [set_same h1, List.set_set] at S3
  exact S3
/-- x.append(e) of an own list -/
def sApp (i : Nat) (t : DT) : DS := fun E γ => (∃ p ds, look γ i = .own p ds) ∧ t γ fun d γ1 => match look γ1 i with
  | .own p es => es.length < 1000000 ∧ E.nx (putS γ1 i (.own p (es ++ [d])))
  | _ => False
theorem s_app {i : Nat} (h : PS X st (tDrop (tBM X.K "list" rAppend (tVar i) (tCons (tD B t) tNil)))) (hK : X.K = B.K) : PS X st (tDS B (sApp i t)) := ps_imp h fun De σ H ⟨G, γ, E, S, ⟨⟨p0, ds, hi⟩, h⟩, F⟩ => by
  obtain ⟨o, h1, h2, vs, h3, h4⟩ := S.slot i _ (look_get hi (fun z => nomatch z))
  subst h2
  refine ⟨_, h1, .inl ⟨rfl, vs, SqL.of h3⟩, G, γ, _, S, h, fun d γ1 G1 v H1 q sm S1 r => ?_⟩
  split at q
  · rename_i p es hi1
    obtain ⟨hl, q⟩ := q
    obtain ⟨o', k1, k2, us, k3, k4⟩ := S1.slot i _ (look_get hi1 (fun z => nomatch z))
    subst k2
    rw [h1] at k1
    cases k1
    refine ⟨p0, us, v, rfl, rfl, k3, by rw [k4.len]; exact Nat.lt_of_lt_of_le hl (by decide), ?_⟩
    rw [putS_eq] at q
    exact F.nx _ _ _ _ q sm (S1.store (look_get hi1 (fun z => nomatch z)) (k4.app (.cons r .nil)))
  · exact q.elim
/-- x[k] of an own list: it stays one's own -/
def dIxO (i : Nat) (t : DT) : DT := fun γ R => t γ fun d γ1 => match look γ1 i, d with
  | .own p ds, .int k => ∃ c, atI ds k = some c ∧ R c γ1
  | _, _ => False
end
end EL
namespace EL
open PySem PySem.Spec PyProof.Rows L2
/-! ### comprehensions -/
def wipeL (γ : GL) : List Nat → GL
  | [] => γ
  | v :: vs => putL (wipeL γ vs) v .un
def wipeS (γ : Gm) (vs : List Nat) : Gm := ⟨wipeL γ.sl vs, γ.ct⟩
theorem wipe_get (σ : L2.St) (j : Nat) : ∀ vs : List Nat, (wipe σ vs)[j]? = if j ∈ vs then (σ[j]?).map fun _ => none else σ[j]?
  | [] => by simp [wipe]
  | v :: vs => by
    show ((wipe σ vs).set v none)[j]? = _
    by_cases z : v = j
    · subst z
      rw [if_pos List.mem_cons_self, List.getElem?_set]
      rw [if_pos rfl, wipe_length]
      by_cases l : v < σ.length
      · rw [if_pos l, List.getElem?_eq_getElem l]; rfl
      · rw [if_neg l, List.getElem?_eq_none (by omega)]; rfl
    · rw [List.getElem?_set_ne z, wipe_get σ j vs]
      have : (j ∈ v :: vs) ↔ j ∈ vs := by simp only [List.mem_cons]; exact ⟨fun h => h.resolve_left (fun e => z e.symm), .inr⟩
      by_cases h : j ∈ vs
      · rw [if_pos h, if_pos (this.mpr h)]
      · rw [if_neg h, if_neg (fun q => h (this.mp q))]
theorem wipe_wipe (σ : L2.St) (vs : List Nat) : wipe (wipe σ vs) vs = wipe σ vs := by
  apply List.ext_getElem?
  intro j
  rw [wipe_get, wipe_get]
  by_cases h : j ∈ vs
  · rw [if_pos h, if_pos h]
    cases σ[j]? <;> rfl
  · rw [if_neg h, if_neg h]
theorem wipeL_len (γ : GL) : ∀ vs : List Nat, (wipeL γ vs).length = γ.length
  | [] => rfl
  | v :: vs => by
    show (putL (wipeL γ vs) v .un).length = _
    rw [putL_eq, List.length_set, wipeL_len γ vs]
theorem wipeL_get (γ : GL) (j : Nat) : ∀ vs : List Nat, (wipeL γ vs)[j]? = if j ∈ vs then (γ[j]?).map fun _ => Sl.un else γ[j]?
  | [] => by simp [wipeL]
  | v :: vs => by
    show (putL (wipeL γ vs) v .un)[j]? = _
    rw [putL_eq]
    by_cases z : v = j
    · subst z
      rw [if_pos List.mem_cons_self, List.getElem?_set]
      rw [if_pos rfl, wipeL_len]
      by_cases l : v < γ.length
      · rw [if_pos l, List.getElem?_eq_getElem l]; rfl
      · rw [if_neg l, List.getElem?_eq_none (by omega)]; rfl
    · rw [List.getElem?_set_ne z, wipeL_get γ j vs]
      have : (j ∈ v :: vs) ↔ j ∈ vs := by simp only [List.mem_cons]; exact ⟨fun h => h.resolve_left (fun e => z e.symm), .inr⟩
      by_cases h : j ∈ vs
      · rw [if_pos h, if_pos (this.mpr h)]
      · rw [if_neg h, if_neg (fun q => h (this.mp q))]

section
variable {X : Cx} {B : Bs} {G G' G1 : Hp} {γ γ' : Gm} {σ σ' : L2.St} {H H' : Hp} {e a b : Expr} {ta tb t : DT} {pos : Pos} {st : Stmt} {p : Addr} {o o' : HO}
theorem Dst.wiped {m : Nat} {γ : GL} (S : Dst B m G γ σ H) (vs : List Nat) : Dst B m G (wipeL γ vs) (wipe σ vs) H := S.reslot (by rw [wipe_length, wipeL_len]; exact S.len) fun i s e => by
  rw [wipeL_get] at e
  by_cases h : i ∈ vs
  · rw [if_pos h] at e
    cases q : γ[i]? with
    | none => rw [q] at e; cases e
    | some u => rw [q] at e; cases e; exact .inl rfl
  · rw [if_neg h] at e
    exact .inr ⟨e, by rw [wipe_get, if_neg h]⟩
theorem Dst.unwipe {m : Nat} {γ : GL} {vs : List Nat} (S : Dst B m G γ (wipe σ vs) H) : Dst B m G (wipeL γ vs) σ H := S.reslot (by rw [wipeL_len, ← S.len, wipe_length]) fun i s e => by
  rw [wipeL_get] at e
  by_cases h : i ∈ vs
  · rw [if_pos h] at e
    cases q : γ[i]? with
    | none => rw [q] at e; cases e
    | some u => rw [q] at e; cases e; exact .inl rfl
  · rw [if_neg h] at e
    exact .inr ⟨e, by rw [wipe_get, if_neg h]⟩
theorem NoSlot.wipe {γ : GL} {p : Addr} (h : NoSlot γ p) (vs : List Nat) : NoSlot (wipeL γ vs) p := fun i s e hp => by
  rw [wipeL_get] at e
  split at e
  · cases q : γ[i]? with
    | none => rw [q] at e; cases e
    | some u => rw [q] at e; cases e; cases hp
  · exact h i s e hp
/-- an object that none knows is held fast for a while -/
theorem Dst.hide {m : Nat} {γ : GL} (S : Dst B m G γ σ H) (hp : H p = some o) (hg : G p = none) (h0 : B.H0 p = none) (hn : NoSlot γ p) : Dst (withH B (upd B.H0 p o)) m G γ σ H where
  law := S.law
  le := S.le
  up := S.up
  sub := S.sub
  sub0 := S.sub0
  kept := fun b u e z => by
    by_cases q : b = p
    · subst q
      have e : upd B.H0 b o b = some u := e
      rw [upd_same] at e
      cases e
      exact hp
    · have e : upd B.H0 p o b = some u := e
      rw [upd_ne q] at e
      exact S.kept b u e z
  fresh := fun q h1 h2 => by
    by_cases z : q = p
    · subst z; exact hg
    · have h1 : upd B.H0 p o q ≠ none := h1
      rw [upd_ne z] at h1
      exact S.fresh q h1 h2
  tups := S.tups
  dkok := fun d c e => by
    obtain ⟨h1, h2, h3, h4, h5⟩ := S.dkok d c e
    refine ⟨h1, ?_, ?_, h4, h5⟩
    · show upd B.H0 p o d ≠ none
      rw [upd_ne (fun z => h2 (by rw [z]; exact h0))]; exact h2
    · show upd B.H0 p o c ≠ none
      rw [upd_ne (fun z => h3 (by rw [z]; exact h0))]; exact h3
  len := S.len
  slot := S.slot
  off := fun i s q e hq => by
    have n : q ≠ p := fun n => hn i s e (by rw [← n]; exact hq)
    exact ⟨by show upd B.H0 p o q = none; rw [upd_ne n]; exact (S.off i s q e hq).1, (S.off i s q e hq).2⟩
  nd := S.nd
theorem Dst.unhide {m : Nat} {γ : GL} (S : Dst (withH B (upd B.H0 p o)) m G γ σ H) (h0 : B.H0 p = none) (hg0 : B.G0 p = none) (hdk : ∀ d c, B.W.dk = some (d, c) → B.H0 d ≠ none ∧ B.H0 c ≠ none) : Dst B m G γ σ H ∧ H p = some o ∧ G p = none ∧ NoSlot γ p := by
  have up : ∀ q, B.H0 q ≠ none → upd B.H0 p o q = B.H0 q := fun q h => upd_ne (fun z => h (by rw [z]; exact h0))
  have ns : NoSlot γ p := fun i s e hq => by
    have c : upd B.H0 p o p = none := (S.off i s p e hq).1
    rw [upd_same] at c
    cases c
  refine ⟨?_, ?_, ?_, ns⟩
  · constructor
    · exact S.law
    · exact S.le
    · exact S.up
    · exact S.sub
    · exact S.sub0
    · intro b u e z
      exact S.kept b u (by show upd B.H0 p o b = some u; rw [up b (by rw [e]; exact fun z => nomatch z)]; exact e) z
    · intro q h1 h2
      exact S.fresh q (by show upd B.H0 p o q ≠ none; rw [up q h1]; exact h1) h2
    · exact S.tups
    · intro d c e
      obtain ⟨h1, _, _, h4, h5⟩ := S.dkok d c e
      obtain ⟨h2, h3⟩ := hdk d c e
      exact ⟨h1, h2, h3, h4, h5⟩
    · exact S.len
    · exact S.slot
    · intro i s q e hq
      have c : upd B.H0 p o q = none := (S.off i s q e hq).1
      have n : q ≠ p := fun n => by subst n; exact ns i s e hq
      rw [upd_ne n] at c
      exact ⟨c, (S.off i s q e hq).2⟩
    · exact S.nd
  · refine S.kept p o upd_same fun d c e => ?_
    obtain ⟨h2, h3⟩ := hdk d c e
    exact ⟨fun z => h2 (by rw [← z]; exact h0), fun z => h3 (by rw [← z]; exact h0)⟩
  · exact S.fresh p (by show upd B.H0 p o p ≠ none; rw [upd_same]; exact fun z => nomatch z) hg0
def tDx (B : Bs) (t : DT) : TE := fun σ H Q => ∃ H0, tD (withH B H0) t σ H Q
def tDBx (B : Bs) (t : DB) : TT := fun σ H Q => ∃ H0, tDB (withH B H0) t σ H Q
def tDGx (B : Bs) (vs : List Nat) (b : BdT) : TG := fun v σ H Q => ∃ H0, tDG (withH B H0) vs b v σ H Q
theorem dx (h : ∀ H0, PE X e (tD (withH B H0) t)) : PE X e (tDx B t) := ⟨fun pins s σ H Q I ⟨H0, q⟩ => (h H0).run pins s σ H Q I q⟩
theorem gx {tg : Expr} {vs : List Nat} {bd : BdT} (h : ∀ H0, PG X tg (tDG (withH B H0) vs bd)) : PG X tg (tDGx B vs bd) := ⟨fun pins s σ H v u Q I r ⟨H0, q⟩ => (h H0).run pins s σ H v u Q I r q⟩
def bYes : DB := fun γ R => R True γ
theorem bx_yes : PTs X [] (tDBx B bYes) := ⟨fun pins s σ H Q I hh => by
  obtain ⟨H0, G, γ, R, S, h, k⟩ := hh
  exact pts_nil.run pins s σ H Q I (k True true γ G H h (by simp) (Same.refl _) S)⟩
theorem bx_one {c : Expr} {t : DB} (h : ∀ H0, PT X c (tDB (withH B H0) t)) : PTs X [c] (tDBx B t) := ⟨fun pins s σ H Q I ⟨H0, q⟩ => (pts_one (h H0)).run pins s σ H Q I q⟩
def lcD (bd : BdT) (tt : DB) (te : DT) (vs : List Nat) : List D → List D → Gm → (List D → Gm → Prop) → Prop
  | [], acc, γ, R => R acc (wipeS γ vs)
  | d :: ds, acc, γ, R => bd d γ fun γ2 => tt γ2 fun p γ3 => (p → te γ3 fun c γ4 => lcD bd tt te vs ds (acc ++ [c]) (wipeS γ4 vs) R) ∧ (¬p → lcD bd tt te vs ds acc (wipeS γ3 vs) R)
def fLc (t : DA) (bd : BdT) (tt : DB) (te : DT) (vs : List Nat) : DA := fun γ R => t γ fun ds γ1 => ds.length ≤ 1000000 ∧ lcD bd tt te vs ds [] (wipeS γ1 vs) R
theorem lc_run {t : DA} {bd : BdT} {tt : DB} {te : DT} {vs : List Nat} : ∀ σ H Q, tDF B (fLc t bd tt te vs) σ H Q → tLc (tDI B t) (tDGx B vs bd) (tDBx B tt) (tDx B te) vs σ H Q := fun σ H Q ⟨G, γ, R, S, h, k⟩ => by
  refine ⟨G, γ, _, S, h, fun ds γ1 G1 H1 J ⟨lim, q⟩ sm S1 w Dd hD => ?_⟩
  have hg0 : B.G0 Dd = none := S1.sub0.free (S1.sub.free hD)
  have hh0 := S1.free0 hD
  have hdk : ∀ d c, B.W.dk = some (d, c) → B.H0 d ≠ none ∧ B.H0 c ≠ none := fun d c e => ⟨(S1.dkok d c e).2.1, (S1.dkok d c e).2.2.1⟩
  refine ⟨fun i m H => ∃ G γ us acc, m = ds.length - i ∧ i ≤ ds.length ∧ acc.length ≤ i ∧ Same G1 G ∧ DstG B G γ (wipe σ vs) H ∧ H Dd = some (.lst us) ∧ RpAll B.W G us acc ∧ G Dd = none ∧ NoSlot γ.sl Dd ∧ lcD bd tt te vs (ds.drop i) acc γ R,
    ⟨_, G1, wipeS γ1 vs, [], [], rfl, Nat.zero_le _, Nat.le_refl _, Same.refl _, (S1.laid (o := .lst []) (fun _ z => nomatch z) hD).wiped vs, upd_same, .nil, S1.sub.free hD, (S1.noslot hD).wipe vs, q⟩, ?_⟩
  rintro i m H2 ⟨G2, γ2, us, acc, rfl, hi, hacc, sm2, S2, hu, ra, hg, hn, q2⟩
  have S2h := S2.hide hu hg hh0 hn
  obtain ⟨w1, w2⟩ := w _ G2 γ2 _ H2 sm2 S2h
  by_cases hlt : i < ds.length
  · right
    obtain ⟨go, y⟩ := w2 i _ (List.getElem?_eq_getElem hlt)
    rw [List.drop_eq_getElem_cons hlt] at q2
    refine ⟨go, fun H' => ∃ G γ us acc, acc.length ≤ i + 1 ∧ Same G1 G ∧ DstG B G γ (wipe σ vs) H' ∧ H' Dd = some (.lst us) ∧ RpAll B.W G us acc ∧ G Dd = none ∧ NoSlot γ.sl Dd ∧ lcD bd tt te vs (ds.drop (i + 1)) acc γ R,
      fun H' ⟨G3, γ3, us, acc, z⟩ => ⟨ds.length - (i + 1), by omega, G3, γ3, us, acc, rfl, hlt, z⟩, fun x H' yy => ?_⟩
    obtain ⟨G3, s3, S3, r3⟩ := y x H' yy
    refine ⟨upd B.H0 Dd (.lst us), G3, γ2, _, _, S3, r3, q2, fun γ4 σ4 q4 S4 w4 => ⟨w4.trans (wipe_wipe σ vs), ?_⟩⟩
    have w4' : wipe σ4 vs = wipe σ vs := w4.trans (wipe_wipe σ vs)
    have s13 : Same G1 G3 := sm2.trans s3
    refine ⟨_, G3, γ4, _, S4, q4, fun pp b γ5 G5 H5 ⟨h1, h2⟩ hpb s5 S5 => ?_⟩
    cases b with
    | true =>
      refine iteT ?_
      refine ⟨_, G5, γ5, _, S5, h1 (hpb.mp rfl), fun c γ6 G6 v H6 q6 s6 S6 r6 => ?_⟩
      obtain ⟨S6', hu6, hg6, hn6⟩ := S6.unhide hh0 hg0 hdk
      have ra6 := ra.mono (s3.trans (s5.trans s6))
      have hl : acc.length < 1000000 := by omega
      refine ⟨us, hu6, by rw [ra6.len]; exact Nat.lt_of_lt_of_le hl (by decide), G6, wipeS γ6 vs, us ++ [v], acc ++ [c], by rw [List.length_append]; exact Nat.succ_le_succ hacc, s13.trans (s5.trans s6), ?_, upd_same, ra6.app (.cons r6 .nil), hg6, hn6.wipe vs, q6⟩
      rw [← w4']
      exact (S6'.wiped vs).offed (fun _ z => nomatch z) hg6 hh0 (hn6.wipe vs)
    | false =>
      refine iteF ?_
      obtain ⟨S5', hu5, hg5, hn5⟩ := S5.unhide hh0 hg0 hdk
      refine ⟨G5, wipeS γ5 vs, us, acc, by omega, s13.trans s5, ?_, hu5, ra.mono (s3.trans s5), hg5, hn5.wipe vs, h2 fun z => nomatch hpb.mpr z⟩
      rw [← w4']
      exact S5'.wiped vs
  · left
    have e : i = ds.length := by omega
    subst e
    rw [List.drop_length] at q2
    exact ⟨w1, k _ _ _ _ _ _ q2 (sm.trans sm2) S2.unwipe hu ra hh0 hg (hn.wipe vs)⟩
theorem f_lc {t : DA} {bd : BdT} {tt : DB} {te : DT} {vs : List Nat} (h : PE X e (tLc (tDI B t) (tDGx B vs bd) (tDBx B tt) (tDx B te) vs)) : PE X e (tDF B (fLc t bd tt te vs)) := pe_imp h lc_run
theorem a_lc {t : DA} {bd : BdT} {tt : DB} {te : DT} {vs : List Nat} {g : TG} (h : PS X st (tAsg (tLc (tDI B t) (tDGx B vs bd) (tDBx B tt) (tDx B te) vs) g)) : PS X st (tAsg (tDF B (fLc t bd tt te vs)) g) := ps_imp h fun De σ H q => lc_run σ H _ q
theorem a_f {t : DA} {g : TG} (h : PS X st (tAsg (tDF B t) g)) : PS X st (tAsg (tD B (dF t)) g) := ps_imp h fun De σ H ⟨G, γ, R, S, h, k⟩ =>
  ⟨G, γ, _, S, h, fun ds γ1 G1 p vs H1 h1 s1 S1 hp r1 h0 hg hn => by
    obtain ⟨S2, sm⟩ := S1.frz hp h0 hg hn
    exact k _ _ _ _ _ h1 (s1.trans sm) S2 (.lst upd_same (r1.mono sm))⟩
/-! ### in, not in -/
def flatD : D → Bool
  | .non => true
  | .bl _ => true
  | .int _ => true
  | .str _ => true
  | _ => false
def eqF : D → D → Bool
  | .non, .non => true
  | .bl a, .bl b => a == b
  | .bl a, .int b => (if a then 1 else 0) == b
  | .int a, .bl b => a == (if b then 1 else 0)
  | .int a, .int b => a == b
  | .str a, .str b => a == b
  | _, _ => false
def inDs (d : D) (ds : List D) : Bool := ds.any fun y => eqF y d
theorem flat_of {W : Cw} {v : V} {d : D} (r : Rp W G v d) (h : flatD d = true) : flatV v = true := by
  cases r <;> first | rfl | cases h
theorem eqF_of {W : Cw} {v u : V} {d c : D} (r : Rp W G v d) (r' : Rp W G u c) (h : flatD d = true) (h' : flatD c = true) : eqV v u = eqF d c := by
  cases r <;> first | (cases h; done) | (cases r' <;> first | (cases h'; done) | rfl)
theorem flats_of {W : Cw} : ∀ {vs : List V} {ds : List D}, RpAll W G vs ds → ds.all flatD = true → vs.all flatV = true
  | _, _, .nil, _ => rfl
  | _, _, .cons r t, h => by
    rw [List.all_cons, Bool.and_eq_true] at h ⊢
    exact ⟨flat_of r h.1, flats_of t h.2⟩
theorem in_of {W : Cw} {v : V} {d : D} (r : Rp W G v d) (h : flatD d = true) : ∀ {vs : List V} {ds : List D}, RpAll W G vs ds → ds.all flatD = true → inV v vs = inDs d ds
  | _, _, .nil, _ => rfl
  | _, _, .cons r' t, h' => by
    rw [List.all_cons, Bool.and_eq_true] at h'
    have ih := in_of r h t h'.2
    unfold inV inDs at ih ⊢
    rw [List.any_cons, List.any_cons, eqF_of r' r h'.1 h, ih]
/-- in a list, a tuple of flat things -/
def inP (neg : Bool) : FP := fun d e R => match e with
  | .lst ds => (flatD d = true ∧ ds.all flatD = true) ∧ R ((inDs d ds = true) ↔ neg = false)
  | .tup ds => (flatD d = true ∧ ds.all flatD = true) ∧ R ((inDs d ds = true) ↔ neg = false)
  | _ => False
theorem ok_inP {neg : Bool} (hK : X.K = B.K) : OkRP B (rIn X.K neg) (inP neg) := by
  intro G γ σ H x y d e R Q S rx ry h k
  rw [hK]
  unfold inP at h
  split at h
  · obtain ⟨⟨h2, h3⟩, h⟩ := h
    cases ry with
    | lst hs ra =>
      refine ⟨_, _, rfl, .inl (SqL.of (S.sub _ _ hs)), flat_of rx h2, flats_of ra h3, ?_⟩
      rw [in_of rx h2 ra h3]
      exact k _ _ _ _ h (by cases neg <;> simp) (Same.refl _) S
  · obtain ⟨⟨h2, h3⟩, h⟩ := h
    cases ry with
    | tup hs ra =>
      refine ⟨_, _, rfl, .inr (hs.sq S.sub), flat_of rx h2, flats_of ra h3, ?_⟩
      rw [in_of rx h2 ra h3]
      exact k _ _ _ _ h (by cases neg <;> simp) (Same.refl _) S
  · exact h.elim
/-- one sign in a text -/
def inSP (neg : Bool) : FP := fun d e R => match d, e with
  | .str c, .str z => ∃ x, c = ⟨#[x]⟩ ∧ R ((x ∈ z.cps.toList) ↔ neg = false)
  | _, _ => False
theorem ok_inSP : OkRP B (fun x y H Q => ∃ (c : Nat) (z : Str), x = .str ⟨#[c]⟩ ∧ y = .str z ∧ Q (.bl (decide (c ∈ z.cps.toList))) H) (inSP false) := by
  intro G γ σ H x y d e R Q S rx ry h k
  unfold inSP at h
  split at h
  · obtain ⟨c, rfl, h⟩ := h
    cases rpStr rx
    cases rpStr ry
    exact ⟨c, _, rfl, rfl, k _ _ _ _ h (by simp) (Same.refl _) S⟩
  · exact h.elim
/-! ### isinstance of a built-in class, of built-in data -/
def tyN : D → Option String
  | .non => some "NoneType"
  | .bl _ => some "bool"
  | .int _ => some "int"
  | .str _ => some "str"
  | .tup _ => some "tuple"
  | .lst _ => some "list"
  | .dct _ => some "dict"
  | _ => none
def tyIs (T n : String) : Bool := n == T || (n == "bool" && T == "int")
def isiF (T : String) : FC := fun ds R => match ds with
  | [d, _] => match tyN d with
    | some n => R (.bl (tyIs T n))
    | none => False
  | _ => False
def rIsiB (K : PySem.W.Frag) (T : String) : List V → Hp → VK → Prop := fun xs H Q => ∃ x t b, xs = [x, .ty T] ∧ TyX K H x t ∧ PySem.W.kitOne K t (.type T) = some b ∧ Q (.bl b) H
theorem call_isiB {T : String} : CallR X (.builtin "isinstance") (rIsiB X.K T) := fun pins s σ H xs us Q I r ⟨x, t, b, e, ty, k, q⟩ => call_isi pins s σ H xs us Q I r ⟨x, .ty T, t, .type T, b, e, .ty T, ty, k, q⟩
theorem TyD_of {W : Cw} {v : V} {d : D} {n : String} (h : tyN d = some n) (r : Rp W G v d) (s : Same G H) : TyX W.K H v (.type n) := by
  cases r with
  | non => cases h; exact .base .non
  | bl b => cases h; exact .base (.bl b)
  | int i => cases h; exact .base (.int i)
  | str z => cases h; exact .base (.str z)
  | tup hs ra =>
    cases h
    rcases hs with hs | ⟨o, its, n, h1, h2, _⟩
    · exact .base (.tup (s _ _ hs))
    · exact .kTuple h1 h2
  | lst hs ra => cases h; exact .base (.lst (s _ _ hs))
  | dct hs ra => cases h; exact .base (.dK (s _ _ hs))
  | obj _ _ _ _ => cases h
  | dk _ => cases h
  | opq v => cases h
/-- a class's name as the second: (T, .ty T) -/
theorem ok_isiB {T : String} (hK : X.K = B.K) (hk : ∀ n ∈ ["NoneType", "bool", "int", "str", "tuple", "list", "dict"], kitB n T = some (tyIs T n)) (G γ σ H) {vs : List V} {ds : List D} {R : D → Prop} {Q : VK} (S : DstG B G γ σ H) {x : V} {d : D} (r1 : Rp B.W G x d) (h : isiF T [d, .opq (.ty T)] R)
    (k : ∀ c G' v H', R c → Same G G' → DstG B G' γ σ H' → Rp B.W G' v c → Q v H') : rIsiB X.K T [x, .ty T] H Q := by
  unfold isiF at h
  dsimp only at h
  cases q : tyN d with
  | none => rw [q] at h; exact h.elim
  | some n =>
    rw [q] at h
    refine ⟨x, _, _, rfl, by rw [hK]; exact TyD_of q r1 S.sub, kit_ty (hk n ?_), k _ _ _ _ h (Same.refl _) S (.bl _)⟩
    cases d <;> first | (cases q; done) | (cases q; simp)
end
/-! ### data as the library has it; repr, == -/
mutual
def py : D → PyData
  | .non => .none
  | .bl b => .bool b
  | .int i => .int i
  | .str z => .str z
  | .tup ds => .tuple (pys ds)
  | .lst ds => .list (pys ds)
  | _ => .none
def pys : List D → List PyData
  | [] => []
  | d :: ds => py d :: pys ds
end
mutual
def isPy : D → Bool
  | .tup ds => isPys ds
  | .lst ds => isPys ds
  | .dct _ => false
  | .obj _ _ => false
  | .dk => false
  | .opq _ => false
  | _ => true
def isPys : List D → Bool
  | [] => true
  | d :: ds => isPy d && isPys ds
end
section
variable {X : Cx} {B : Bs} {G G' G1 : Hp} {γ γ' : Gm} {σ σ' : L2.St} {H H' : Hp} {e a b : Expr} {ta tb t : DT} {pos : Pos} {st : Stmt} {p : Addr} {o o' : HO}
mutual
theorem py_of {W : Cw} (s : Same G H) : ∀ {v : V} {d : D}, Rp W G v d → isPy d = true → Dp W.K H v (py d)
  | _, _, .non, _ => by rw [py]; exact .non
  | _, _, .bl b, _ => by rw [py]; exact .bl b
  | _, _, .int i, _ => by rw [py]; exact .int i
  | _, _, .str z, _ => by rw [py]; exact .str z
  | _, _, .tup (ds := ds) hs ra, h => by rw [isPy] at h; rw [py]; exact .tup (hs.sq s) (pys_of s ra h)
  | _, _, .lst (ds := ds) hs ra, h => by rw [isPy] at h; rw [py]; exact .lst (SqL.of (s _ _ hs)) (pys_of s ra h)
  | _, _, .dct _ _, h => by rw [isPy] at h; cases h
  | _, _, .obj _ _ _ _, h => by rw [isPy] at h; cases h
  | _, _, .dk _, h => by rw [isPy] at h; cases h
  | _, _, .opq _, h => by rw [isPy] at h; cases h
theorem pys_of {W : Cw} (s : Same G H) : ∀ {vs : List V} {ds : List D}, RpAll W G vs ds → isPys ds = true → DpAll W.K H vs (pys ds)
  | _, _, .nil, _ => by rw [pys]; exact .nil
  | _, _, .cons (d := d) (ds := ds) r t, h => by
    rw [isPys, Bool.and_eq_true] at h
    rw [pys]
    exact .cons (py_of s r h.1) (pys_of s t h.2)
end
/-- what == is told of: data of built-in kinds, of no great depth -/
def okD (d : D) : Prop := isPy d = true ∧ SeqAt.shaped (py d) = true
def eqD (d e : D) : Bool := PyData.eqv (py d) (py e)
def eqP : FP := fun d e R => match d, e with
  | .int i, .int j => R (i = j)
  | .str i, .str j => R (i = j)
  | .bl i, .bl j => R (i = j)
  | .non, .non => R True
  | _, _ => (okD d ∧ okD e) ∧ R (eqD d e = true)
def neP : FP := fun d e R => eqP d e fun p => R (¬p)
theorem eq_core (S : DstG B G γ σ H) {x y : V} {d e : D} {R : Prop → Prop} (rx : Rp B.W G x d) (ry : Rp B.W G y e) (h : eqP d e R) : ∃ p b, R p ∧ (b = true ↔ p) ∧ ((scal x y = true ∧ decide (x = y) = b) ∨ ∃ q r, Dp B.K H x q ∧ Dp B.K H y r ∧ SeqAt.shaped q = true ∧ SeqAt.shaped r = true ∧ PyData.eqv q r = b) := by
  unfold eqP at h
  split at h
  · cases rpInt rx
    cases rpInt ry
    exact ⟨_, _, h, by simp, .inl ⟨rfl, rfl⟩⟩
  · cases rpStr rx
    cases rpStr ry
    exact ⟨_, _, h, by simp, .inl ⟨rfl, rfl⟩⟩
  · cases rpBl rx
    cases rpBl ry
    exact ⟨_, _, h, by simp, .inl ⟨rfl, rfl⟩⟩
  · cases rpNon rx
    cases rpNon ry
    exact ⟨_, _, h, by simp, .inl ⟨rfl, rfl⟩⟩
  · obtain ⟨⟨⟨h1, h2⟩, h3, h4⟩, h⟩ := h
    exact ⟨_, _, h, Iff.rfl, .inr ⟨_, _, py_of S.sub rx h1, py_of S.sub ry h3, h2, h4, rfl⟩⟩
theorem ok_eqP (hK : X.K = B.K) : OkRP B (fun x y H Q => rEq x y H Q ∨ rEqD X.K x y H Q) eqP := by
  intro G γ σ H x y d e R Q S rx ry h k
  rw [hK]
  obtain ⟨p, b, hR, hb, ⟨h1, h2⟩ | ⟨q, r, h1, h2, h3, h4, h5⟩⟩ := eq_core S rx ry h
  · refine .inl ⟨h1, ?_⟩
    rw [h2]
    exact k _ _ _ _ hR hb (Same.refl _) S
  · refine .inr ⟨q, r, h1, h2, h3, h4, ?_⟩
    rw [h5]
    exact k _ _ _ _ hR hb (Same.refl _) S
theorem ok_neP (hK : X.K = B.K) : OkRP B (fun x y H Q => rNe x y H Q ∨ rNeD X.K x y H Q) neP := by
  intro G γ σ H x y d e R Q S rx ry h k
  rw [hK]
  obtain ⟨p, b, hR, hb, ⟨h1, h2⟩ | ⟨q, r, h1, h2, h3, h4, h5⟩⟩ := eq_core S rx ry h
  · refine .inl ⟨h1, ?_⟩
    rw [h2]
    exact k _ _ _ _ hR (by rw [← hb]; cases b <;> simp) (Same.refl _) S
  · refine .inr ⟨q, r, h1, h2, h3, h4, ?_⟩
    rw [h5]
    exact k _ _ _ _ hR (by rw [← hb]; cases b <;> simp) (Same.refl _) S
theorem op_eqPP (hu : X.A.units + 64 < cLine) : OpR X (compareOp .Eq) (fun x y H Q => rEq x y H Q ∨ rEqD X.K x y H Q) := OpR.or op_eq (op_eqD hu)
theorem op_nePP (hu : X.A.units + 64 < cLine) : OpR X (compareOp .NotEq) (fun x y H Q => rNe x y H Q ∨ rNeD X.K x y H Q) := OpR.or op_ne (op_neD hu)
/-! ### is, is not: None, truths -/
def isP (neg : Bool) : FP := fun d e R => match d, e with
  | .opq _, _ => False
  | .non, .non => R (True ↔ neg = false)
  | .bl i, .bl j => R ((i = j) ↔ neg = false)
  | _, .non => R (False ↔ neg = false)
  | _, _ => False
theorem rp_non {W : Cw} {v : V} {d : D} (r : Rp W G v d) (h : ∀ w, d ≠ .opq w) : v = .non ↔ d = .non := by
  cases r <;> first | exact absurd rfl (h _) | simp
theorem isP_core {W : Cw} {neg : Bool} {d e : D} {R : Prop → Prop} {x y : V} (rx : Rp W G x d) (ry : Rp W G y e) (h : isP neg d e R) :
    (y = .non ∧ ∃ p, R (p ↔ neg = false) ∧ (x = .non ↔ p)) ∨ ∃ a b, x = .bl a ∧ y = .bl b ∧ R ((a = b) ↔ neg = false) := by
  cases e with
  | non =>
    cases rpNon ry
    cases d with
    | opq v => exact h.elim
    | non => cases rpNon rx; exact .inl ⟨rfl, _, h, by simp⟩
    | _ => exact .inl ⟨rfl, _, h, by rw [rp_non rx (fun w z => nomatch z)]; simp⟩
  | bl j =>
    cases rpBl ry
    cases d with
    | bl i => cases rpBl rx; exact .inr ⟨_, _, rfl, rfl, h⟩
    | _ => exact h.elim
  | _ => cases d <;> exact h.elim
theorem ok_isP : OkRP B (fun x y H Q => (y = .non ∧ Q (.bl (decide (x = .non))) H) ∨ ∃ a b, x = .bl a ∧ y = .bl b ∧ Q (.bl (decide (a = b))) H) (isP false) := by
  intro G γ σ H x y d e R Q S rx ry h k
  rcases isP_core rx ry h with ⟨e, p, hR, hp⟩ | ⟨a, b, e1, e2, hR⟩
  · exact .inl ⟨e, k _ _ _ _ hR (by simp [hp]) (Same.refl _) S⟩
  · exact .inr ⟨a, b, e1, e2, k _ _ _ _ hR (by simp) (Same.refl _) S⟩
theorem ok_isnotP : OkRP B (fun x y H Q => (y = .non ∧ Q (.bl (!decide (x = .non))) H) ∨ ∃ a b, x = .bl a ∧ y = .bl b ∧ Q (.bl (!decide (a = b))) H) (isP true) := by
  intro G γ σ H x y d e R Q S rx ry h k
  rcases isP_core rx ry h with ⟨e, p, hR, hp⟩ | ⟨a, b, e1, e2, hR⟩
  · exact .inl ⟨e, k _ _ _ _ hR (by simp [hp]) (Same.refl _) S⟩
  · exact .inr ⟨a, b, e1, e2, k _ _ _ _ hR (by simp) (Same.refl _) S⟩
theorem op_isPP : OpR X (compareOp .Is) (fun x y H Q => (y = .non ∧ Q (.bl (decide (x = .non))) H) ∨ ∃ a b, x = .bl a ∧ y = .bl b ∧ Q (.bl (decide (a = b))) H) := OpR.or op_isN op_is_bl
theorem op_isnotPP : OpR X (compareOp .IsNot) (fun x y H Q => (y = .non ∧ Q (.bl (!decide (x = .non))) H) ∨ ∃ a b, x = .bl a ∧ y = .bl b ∧ Q (.bl (!decide (a = b))) H) := OpR.or op_notN op_isnot_bl
end
end EL
namespace EL
open PySem PySem.Spec PyProof.Rows L2
/-! ### own things lent: for one expression they are read alone, then one's own again -/
def thawSl (s : Sl) : Sl := match thaw s with
  | some d => .fz d
  | none => s
def thawL (γ : GL) : GL := γ.map thawSl
def thawAll (γ : Gm) : Gm := ⟨thawL γ.sl, γ.ct⟩
def asAll (γ : GL) : List Addr := γ.flatMap Sl.as
theorem mem_asAll {γ : GL} {p : Addr} : p ∈ asAll γ ↔ ∃ (i : Nat) (s : Sl), γ[i]? = some s ∧ p ∈ s.as := by
  unfold asAll
  rw [List.mem_flatMap]
  constructor
  · rintro ⟨s, hs, hp⟩
    obtain ⟨i, hi⟩ := List.getElem?_of_mem hs
    exact ⟨i, s, hi, hp⟩
  · rintro ⟨i, s, hi, hp⟩
    exact ⟨s, List.mem_of_getElem? hi, hp⟩
theorem thawSl_as (s : Sl) : (thawSl s).as = [] := by cases s <;> rfl
theorem SlOk.thawL {W : Cw} {G H : Hp} {o : Option V} {s : Sl} {l : List Addr} (h : SlOk W G H o s) (hl : ∀ p ∈ s.as, p ∈ l) (e : Same G (froz G H l)) : SlOk W (froz G H l) H o (thawSl s) := by
  cases s with
  | un => trivial
  | fz d => obtain ⟨v, a, b⟩ := h; exact ⟨v, a, b.mono e⟩
  | own p ds =>
    obtain ⟨a, vs, b, c⟩ := h
    exact ⟨_, a, .lst (by rw [froz_in (hl p (List.mem_singleton.mpr rfl))]; exact b) (c.mono e)⟩
  | ownD p kvs =>
    obtain ⟨a, vs, b, c⟩ := h
    exact ⟨_, a, .dct (by rw [froz_in (hl p (List.mem_singleton.mpr rfl))]; exact b) (c.mono e)⟩
  | ownL p kvs =>
    obtain ⟨a, b, c, nd⟩ := h
    refine ⟨_, a, .dct (by rw [froz_in (hl p List.mem_cons_self)]; exact b) ?_⟩
    have go : ∀ l' : List (Key × (Addr × List D)), (∀ k ∈ l', k ∈ kvs) → RpKv W (froz G H l) (l'.map fun k => (k.1, V.ref k.2.1)) (l'.map fun k => (k.1, D.lst k.2.2)) := by
      intro l'
      induction l' with
      | nil => exact fun _ => .nil
      | cons k l' ih =>
        intro hk
        obtain ⟨vs, x, y⟩ := c k (hk k List.mem_cons_self)
        exact .cons (.lst (by rw [froz_in (hl _ (List.mem_cons_of_mem _ (List.mem_map.mpr ⟨k, hk k List.mem_cons_self, rfl⟩)))]; exact x) (y.mono e)) (ih fun k' hk' => hk k' (List.mem_cons_of_mem _ hk'))
    exact go kvs fun _ h => h
section
variable {X : Cx} {B : Bs} {G G' G1 G2 : Hp} {γ γ' : Gm} {σ σ' : L2.St} {H H' H2 : Hp} {e a b : Expr} {ta tb t : DT} {pos : Pos} {st : Stmt} {p : Addr} {o o' : HO}
theorem Dst.lend {m : Nat} {γ : GL} (S : Dst B m G γ σ H) : Same G (froz G H (asAll γ)) ∧ Dst B m (froz G H (asAll γ)) (thawL γ) σ H := by
  have off : ∀ b ∈ asAll γ, B.H0 b = none ∧ G b = none := fun b hb => by
    obtain ⟨i, s, e, hp⟩ := mem_asAll.mp hb
    exact S.off i s b e hp
  have sm : Same G (froz G H (asAll γ)) := fun b u e => by
    rw [froz_out fun z => by rw [(off b z).2] at e; cases e]
    exact e
  have at1 : ∀ (i : Nat) (t : Sl), (thawL γ)[i]? = some t → ∃ s, γ[i]? = some s ∧ t = thawSl s := fun i t e => by
    unfold thawL at e
    rw [List.getElem?_map] at e
    cases q : γ[i]? with
    | none => rw [q] at e; cases e
    | some s => rw [q] at e; cases e; exact ⟨s, rfl, rfl⟩
  refine ⟨sm, ?_⟩
  constructor
  · exact S.law
  · exact S.le
  · exact S.up
  · intro b u e
    by_cases z : b ∈ asAll γ
    · rw [froz_in z] at e; exact e
    · rw [froz_out z] at e; exact S.sub b u e
  · exact fun b u e => sm b u (S.sub0 b u e)
  · exact S.kept
  · intro q h1 h2
    rw [froz_out fun z => h1 (off q z).1]; exact S.fresh q h1 h2
  · intro q xs e
    by_cases z : q ∈ asAll γ
    · rw [froz_in z]; exact e
    · rw [froz_out z]; exact S.tups q xs e
  · exact S.dkok
  · unfold thawL; rw [List.length_map]; exact S.len
  · intro i t e
    obtain ⟨s, h, rfl⟩ := at1 i t e
    obtain ⟨o, h1, h2⟩ := S.slot i s h
    exact ⟨o, h1, h2.thawL (fun p hp => mem_asAll.mpr ⟨i, s, h, hp⟩) sm⟩
  · intro i t p e hp
    obtain ⟨s, h, rfl⟩ := at1 i t e
    rw [thawSl_as] at hp
    cases hp
  · intro i j p t u e _ hp _
    obtain ⟨s, h, rfl⟩ := at1 i t e
    rw [thawSl_as] at hp
    cases hp
def unf (G : Hp) (l : List Addr) : Hp := fun b => if b ∈ l then none else G b
theorem unf_in {l : List Addr} {b : Addr} (h : b ∈ l) : unf G l b = none := if_pos h
theorem unf_out {l : List Addr} {b : Addr} (h : b ∉ l) : unf G l b = G b := if_neg h
theorem Dst.unlend {m m' : Nat} {γ : GL} {vs : List Nat} (S : Dst B m G γ σ H) (sm : Same (froz G H (asAll γ)) G2) (S2 : Dst B m' G2 (wipeL (thawL γ) vs) σ H2) :
    Same G (unf G2 (asAll γ)) ∧ Dst B m' (unf G2 (asAll γ)) (wipeL γ vs) σ H2 ∧ SameT G2 (unf G2 (asAll γ)) := by
  have off : ∀ b ∈ asAll γ, B.H0 b = none ∧ G b = none := fun b hb => by
    obtain ⟨i, s, e, hp⟩ := mem_asAll.mp hb
    exact S.off i s b e hp
  have there : ∀ b ∈ asAll γ, ((∃ xs, H b = some (.lst xs)) ∨ ∃ xs, H b = some (.dK xs)) ∧ G2 b = H b ∧ H2 b = H b := fun b hb => by
    obtain ⟨i, s, e, hp⟩ := mem_asAll.mp hb
    obtain ⟨o, _, h2⟩ := S.slot i s e
    rcases h2.there b hp with ⟨xs, h⟩ | ⟨xs, h⟩
    · have g := sm b _ (by rw [froz_in hb]; exact h)
      exact ⟨.inl ⟨xs, h⟩, by rw [g, h], by rw [S2.sub b _ g, h]⟩
    · have g := sm b _ (by rw [froz_in hb]; exact h)
      exact ⟨.inr ⟨xs, h⟩, by rw [g, h], by rw [S2.sub b _ g, h]⟩
  have sg : Same G (unf G2 (asAll γ)) := fun b u e => by
    have n : b ∉ asAll γ := fun z => by rw [(off b z).2] at e; cases e
    rw [unf_out n]
    exact sm b u (by rw [froz_out n]; exact e)
  have at1 : ∀ (i : Nat) (t : Sl), (wipeL γ vs)[i]? = some t → (t = .un ∧ i < γ.length) ∨ (γ[i]? = some t ∧ i ∉ vs) := fun i t e => by
    rw [wipeL_get] at e
    by_cases h : i ∈ vs
    · rw [if_pos h] at e
      cases q : γ[i]? with
      | none => rw [q] at e; cases e
      | some u => rw [q] at e; cases e; exact .inl ⟨rfl, (List.getElem?_eq_some_iff.mp q).1⟩
    · rw [if_neg h] at e
      exact .inr ⟨e, h⟩
  refine ⟨sg, ?_, ?_⟩
  · constructor
    · exact S.law
    · exact S2.le
    · exact S.up
    · intro b u e
      by_cases z : b ∈ asAll γ
      · rw [unf_in z] at e; cases e
      · rw [unf_out z] at e; exact S2.sub b u e
    · exact fun b u e => sg b u (S.sub0 b u e)
    · exact S2.kept
    · intro q h1 h2
      by_cases z : q ∈ asAll γ
      · exact unf_in z
      · rw [unf_out z]; exact S2.fresh q h1 h2
    · intro q xs e
      by_cases z : q ∈ asAll γ
      · obtain ⟨h, _, h2⟩ := there q z
        rw [h2] at e
        rcases h with ⟨ys, h⟩ | ⟨ys, h⟩ <;> (rw [h] at e; cases e)
      · rw [unf_out z]; exact S2.tups q xs e
    · exact S2.dkok
    · rw [wipeL_len]; exact S.len
    · intro i t e
      rcases at1 i t e with ⟨e1, l⟩ | ⟨h, _⟩
      · subst e1
        have l' : i < σ.length := by rw [S.len]; exact l
        exact ⟨σ[i], List.getElem?_eq_getElem l', trivial⟩
      · obtain ⟨o, h1, h2⟩ := S.slot i t h
        exact ⟨o, h1, h2.mono sg fun p hp => (there p (mem_asAll.mpr ⟨i, t, h, hp⟩)).2.2⟩
    · intro i t p e hp
      rcases at1 i t e with ⟨e1, l⟩ | ⟨h, _⟩
      · subst e1; cases hp
      · exact ⟨(S.off i t p h hp).1, unf_in (mem_asAll.mpr ⟨i, t, h, hp⟩)⟩
    · intro i j p s t e1 e2 p1 p2
      rcases at1 i s e1 with ⟨q, _⟩ | ⟨h1, _⟩
      · subst q; cases p1
      · rcases at1 j t e2 with ⟨q, _⟩ | ⟨h2, _⟩
        · subst q; cases p2
        · exact S.nd i j p s t h1 h2 p1 p2
  · intro b u e n1 n2
    rw [unf_out fun z => ?_]
    · exact e
    · obtain ⟨h, h1, _⟩ := there b z
      rw [h1] at e
      rcases h with ⟨ys, h⟩ | ⟨ys, h⟩
      · rw [h] at e; cases e; exact n1 _ rfl
      · rw [h] at e; cases e; exact n2 _ rfl
/-- what an expression leaves of the slots that were lent: but its own variables all is as it was; there may be more draws -/
def dLend (t : DT) : DT := fun γ R => t (thawAll γ) fun c γ' => solid c = true ∧ ∃ vs, γ'.sl = wipeL (thawL γ.sl) vs ∧ R c ⟨wipeL γ.sl vs, γ'.ct⟩
theorem d_lend (h : PE X e (tD B t)) : PE X e (tD B (dLend t)) := pe_imp h fun σ H Q ⟨G, γ, R, S, h, k⟩ => by
  obtain ⟨sm, S1⟩ := S.lend
  refine ⟨_, thawAll γ, _, S1, h, fun d γ' G' v H' ⟨hs, vs, e, q⟩ s' S' r => ?_⟩
  have S'' : Dst B γ'.ct G' γ'.sl σ H' := S'
  rw [e] at S''
  obtain ⟨sg, S3, st⟩ := S.unlend s' S''
  exact k d ⟨wipeL γ.sl vs, γ'.ct⟩ _ v H' q sg S3 (r.solid st hs)
def bLend (t : DB) : DB := fun γ R => t (thawAll γ) fun p γ' => ∃ vs, γ'.sl = wipeL (thawL γ.sl) vs ∧ R p ⟨wipeL γ.sl vs, γ'.ct⟩
theorem b_lend {t : DB} (h : PT X e (tDB B t)) : PT X e (tDB B (bLend t)) := pt_imp h fun σ H Q ⟨G, γ, R, S, h, k⟩ => by
  obtain ⟨sm, S1⟩ := S.lend
  refine ⟨_, thawAll γ, _, S1, h, fun p b γ' G' H' ⟨vs, e, q⟩ hb s' S' => ?_⟩
  have S'' : Dst B γ'.ct G' γ'.sl σ H' := S'
  rw [e] at S''
  obtain ⟨sg, S3, st⟩ := S.unlend s' S''
  exact k p b ⟨wipeL γ.sl vs, γ'.ct⟩ _ H' q hb sg S3
def fLend (t : DA) : DA := fun γ R => t (thawAll γ) fun ds γ' => solids ds = true ∧ ∃ vs, γ'.sl = wipeL (thawL γ.sl) vs ∧ R ds ⟨wipeL γ.sl vs, γ'.ct⟩
theorem lend_core {t : DA} : ∀ σ H Q, tDF B (fLend t) σ H Q → tDF B t σ H Q := fun σ H Q ⟨G, γ, R, S, h, k⟩ => by
  obtain ⟨sm, S1⟩ := S.lend
  refine ⟨_, thawAll γ, _, S1, h, fun ds γ' G' p us H' ⟨hs, vs, e, q⟩ s' S' hp r h0 hg hn => ?_⟩
  have S'' : Dst B γ'.ct G' γ'.sl σ H' := S'
  rw [e] at S''
  obtain ⟨sg, S3, st⟩ := S.unlend s' S''
  have np : p ∉ asAll γ.sl := fun z => by
    obtain ⟨i, s, e, hq⟩ := mem_asAll.mp z
    obtain ⟨o, _, h2⟩ := S.slot i s e
    have : froz G H (asAll γ.sl) p = H p := froz_in z
    rcases h2.there p hq with ⟨xs, h⟩ | ⟨xs, h⟩
    · rw [s' p _ (by rw [this]; exact h)] at hg; cases hg
    · rw [s' p _ (by rw [this]; exact h)] at hg; cases hg
  refine k ds ⟨wipeL γ.sl vs, γ'.ct⟩ _ p us H' q sg S3 hp (r.solid st hs) h0 (by rw [unf_out np]; exact hg) ?_
  exact NoSlot.wipe (fun i s e hq => np (mem_asAll.mpr ⟨i, s, e, hq⟩)) vs
theorem f_lend {t : DA} (h : PE X e (tDF B t)) : PE X e (tDF B (fLend t)) := pe_imp h lend_core
theorem a_lend {t : DA} {g : TG} (h : PS X st (tAsg (tDF B t) g)) : PS X st (tAsg (tDF B (fLend t)) g) := ps_imp h fun De σ H q => lend_core σ H _ q
/-! ### own lists changed: what a method makes of the content and the arguments -/
abbrev FM := List D → List D → (D → List D → Prop) → Prop
def OkM (r : V → List V → Hp → VK → Prop) (f : FM) : Prop := ∀ (W : Cw) (G H : Hp) (p : Addr) (us xs : List V) (ds es : List D) (R : D → List D → Prop) (Q : VK), Same G H → H p = some (.lst us) → G p = none → RpAll W G us ds → RpAll W G xs es → f ds es R →
  (∀ c v ws cs, R c cs → Rp W G v c → RpAll W G ws cs → Q v (upd H p (.lst ws))) → r (.ref p) xs H Q
def dMut (i : Nat) (f : FM) (ta : DA) : DT := fun γ R => (∃ p ds, look γ i = .own p ds) ∧ ta γ fun es γ1 => match look γ1 i with
  | .own p ds => f ds es fun c cs => R c (putS γ1 i (.own p cs))
  | _ => False
theorem d_mut {i : Nat} {f : FM} {ta : DA} {r : V → List V → Hp → VK → Prop} (hr : OkM r f) (h : PE X e (tBM X.K "list" r (tVar i) (tDA B ta))) : PE X e (tD B (dMut i f ta)) := pe_imp h fun σ H Q ⟨G, γ, R, S, ⟨⟨p0, ds0, hi⟩, h⟩, k⟩ => by
  obtain ⟨o, h1, h2, vs, h3, h4⟩ := S.slot i _ (look_get hi (fun z => nomatch z))
  subst h2
  refine ⟨_, h1, .inl ⟨rfl, vs, SqL.of h3⟩, G, γ, _, S, h, fun es γ1 G1 xs H1 q sm S1 r1 => ?_⟩
  split at q
  · rename_i p ds hi1
    have hg := look_get hi1 (fun z => nomatch z)
    obtain ⟨o', k1, k2, us, k3, k4⟩ := S1.slot i _ hg
    subst k2
    rw [h1] at k1
    cases k1
    exact hr B.W G1 H1 p0 us xs ds es _ _ S1.sub k3 (S1.off i _ p0 hg (List.mem_singleton.mpr rfl)).2 k4 r1 q fun c v ws cs hR rv rw' => k _ (putS γ1 i (.own p0 cs)) _ _ _ hR sm (by rw [putS_eq]; exact S1.store hg rw') rv
  · exact q.elim
/-- without arguments -/
theorem d_mut0 {i : Nat} {f : FM} {r : V → List V → Hp → VK → Prop} (hr : OkM r f) (h : PE X e (tBM0 X.K "list" r (tVar i))) : PE X e (tD B (dMut i f aNil)) := pe_imp h fun σ H Q ⟨G, γ, R, S, ⟨⟨p0, ds0, hi⟩, q⟩, k⟩ => by
  obtain ⟨o, h1, h2, vs, h3, h4⟩ := S.slot i _ (look_get hi (fun z => nomatch z))
  subst h2
  refine ⟨_, h1, .inl ⟨rfl, vs, SqL.of h3⟩, ?_⟩
  unfold aNil at q
  dsimp only at q
  rw [hi] at q
  have hg := look_get hi (fun z => nomatch z)
  exact hr B.W G H p0 vs [] ds0 [] _ _ S.sub h3 (S.off i _ p0 hg (List.mem_singleton.mpr rfl)).2 h4 .nil q fun c v ws cs hR rv rw' => k _ (putS γ i (.own p0 cs)) _ _ _ hR (Same.refl _) (by rw [putS_eq]; exact S.store hg rw') rv
def appM : FM := fun ds es R => match es with
  | [d] => ds.length < 1000000 ∧ R .non (ds ++ [d])
  | _ => False
theorem ok_appM : OkM rAppend appM := by
  intro W G H p us xs ds es R Q sm hp hg ru rx h k
  unfold appM at h
  split at h
  · cases rx with
    | cons r1 r2 =>
      cases r2
      exact ⟨p, us, _, rfl, rfl, hp, by rw [ru.len]; exact Nat.lt_of_lt_of_le h.1 (by decide), k _ _ _ _ h.2 .non (ru.app (.cons r1 .nil))⟩
  · exact h.elim
def extM : FM := fun ds es R => match es with
  | [.lst cs] => ds.length + cs.length ≤ 1000000 ∧ R .non (ds ++ cs)
  | _ => False
theorem ok_extM : OkM rExtend extM := by
  intro W G H p us xs ds es R Q sm hp hg ru rx h k
  unfold extM at h
  split at h
  · cases rx with
    | cons r1 r2 =>
      cases r2
      cases r1 with
      | lst hs ra => exact ⟨p, _, us, _, rfl, rfl, hp, sm _ _ hs, by rw [ru.len, ra.len]; exact sz_ok h.1, k _ _ _ _ h.2 .non (ru.app ra)⟩
  · exact h.elim
def popM : FM := fun ds es R => match es with
  | [] => ∃ d, ds[ds.length - 1]? = some d ∧ R d ds.dropLast
  | _ => False
theorem RpAll.dropLast {W : Cw} {vs : List V} {ds : List D} (r : RpAll W G vs ds) : RpAll W G vs.dropLast ds.dropLast := by
  rw [List.dropLast_eq_take, List.dropLast_eq_take, r.len]
  exact r.take _
theorem ok_popM : OkM rPop popM := by
  intro W G H p us xs ds es R Q sm hp hg ru rx h k
  unfold popM at h
  split at h
  · cases rx
    obtain ⟨d, hd, h⟩ := h
    obtain ⟨v, hv, rv⟩ := ru.get hd
    exact ⟨p, us, v, rfl, rfl, hp, by rw [ru.len]; exact hv, k _ _ _ _ h rv ru.dropLast⟩
  · exact h.elim
def popAtM : FM := fun ds es R => match es with
  | [.int i] => (-(2 ^ 62) ≤ i ∧ i < 2 ^ 62) ∧ ∃ j d, seqIndex? i ds.length = some j ∧ ds[j]? = some d ∧ R d (ds.eraseIdx j)
  | _ => False
theorem ok_popAtM : OkM rPopAt popAtM := by
  intro W G H p us xs ds es R Q sm hp hg ru rx h k
  unfold popAtM at h
  split at h
  · cases rx with
    | cons r1 r2 =>
      cases r2
      cases rpInt r1
      obtain ⟨⟨l1, l2⟩, j, d, hj, hd, h⟩ := h
      obtain ⟨v, hv, rv⟩ := ru.get hd
      exact ⟨p, us, _, j, v, rfl, rfl, hp, by omega, by omega, by rw [ru.len]; exact hj, hv, k _ _ _ _ h rv (ru.erase j)⟩
  · exact h.elim
/-! ### x[k] = v of an own list -/
def sSetIt (i : Nat) (tk tv : DT) : DS := fun E γ => tv γ fun d γ1 => (∃ p ds, look γ1 i = .own p ds) ∧ tk γ1 fun k γ2 => match look γ2 i, k with
  | .own p ds, .int z => ∃ j, ixN ds.length z = some j ∧ E.nx (putS γ2 i (.own p (ds.set j d)))
  | _, _ => False
theorem s_setIt {i : Nat} {tk tv : DT} (h : PS X st (tAsg (tD B tv) (gSub (tVar i) (tD B tk) rSetL))) : PS X st (tDS B (sSetIt i tk tv)) := ps_imp h fun De σ H ⟨G, γ, E, S, h, F⟩ =>
  ⟨G, γ, _, S, h, fun d γ1 G1 v H1 ⟨⟨p0, ds0, hi⟩, q⟩ s1 S1 r1 => by
    obtain ⟨o, h1, h2, vs, h3, h4⟩ := S1.slot i _ (look_get hi (fun z => nomatch z))
    subst h2
    refine ⟨_, h1, G1, γ1, _, S1, q, fun k γ2 G2 u H2 q2 s2 S2 r2 => ?_⟩
    split at q2
    · rename_i p ds z hi2
      have hg := look_get hi2 (fun z => nomatch z)
      obtain ⟨o', k1, k2, us, k3, k4⟩ := S2.slot i _ hg
      subst k2
      rw [h1] at k1
      cases k1
      cases rpInt r2
      obtain ⟨j, hj, q2⟩ := q2
      refine ⟨p0, us, z, j, rfl, rfl, k3, by rw [k4.len]; exact hj, ?_⟩
      rw [putS_eq] at q2
      exact F.nx _ _ _ _ q2 (s1.trans s2) (S2.store hg (k4.set (r1.mono s2) j))
    · exact q2.elim⟩
end
end EL
namespace EL
open PySem PySem.Spec PyProof.Rows L2
section
variable {X : Cx} {B : Bs} {G G' G1 G2 : Hp} {γ γ' : Gm} {σ σ' : L2.St} {H H' H2 : Hp} {e a b : Expr} {ta tb t : DT} {pos : Pos} {st : Stmt} {p : Addr}
/-! ### lists of one kind -/
theorem rp_ints {W : Cw} : ∀ {ns : List Int} {vs : List V}, RpAll W G vs (ns.map D.int) → vs = ns.map V.int
  | [], _, .nil => rfl
  | n :: ns, _, .cons r t => by
    rw [rpInt r, rp_ints (ns := ns) t]
    rfl
theorem rp_bls {W : Cw} : ∀ {ns : List Bool} {vs : List V}, RpAll W G vs (ns.map D.bl) → vs = ns.map V.bl
  | [], _, .nil => rfl
  | n :: ns, _, .cons r t => by
    rw [rpBl r, rp_bls (ns := ns) t]
    rfl
theorem rp_strs {W : Cw} : ∀ {ns : List Str} {vs : List V}, RpAll W G vs (ns.map D.str) → vs = ns.map V.str
  | [], _, .nil => rfl
  | n :: ns, _, .cons r t => by
    rw [rpStr r, rp_strs (ns := ns) t]
    rfl
theorem ints_rp {W : Cw} : ∀ (ns : List Int), RpAll W G (ns.map V.int) (ns.map D.int)
  | [] => .nil
  | n :: ns => .cons (.int n) (ints_rp ns)
theorem strs_rp {W : Cw} : ∀ (ns : List Str), RpAll W G (ns.map V.str) (ns.map D.str)
  | [] => .nil
  | n :: ns => .cons (.str n) (strs_rp ns)
def anyF : FC := fun ds R => match ds with
  | [.lst xs] => ∃ bs : List Bool, xs = bs.map D.bl ∧ R (.bl (bs.any id))
  | _ => False
theorem ok_any (hK : X.K = B.K) : OkRC B (rAny X.K) anyF := by
  intro G γ σ H vs ds R Q S r h k
  rw [hK]
  unfold anyF at h
  split at h
  · obtain ⟨bs, e, h⟩ := h
    subst e
    cases r with
    | cons r1 r2 =>
      cases r2
      cases r1 with
      | lst hs ra =>
        rw [rp_bls ra] at hs
        exact ⟨_, bs, rfl, SqL.of (S.sub _ _ hs), k _ _ _ _ h (Same.refl _) S (.bl _)⟩
  · exact h.elim
def allF : FC := fun ds R => match ds with
  | [.lst xs] => ∃ bs : List Bool, xs = bs.map D.bl ∧ R (.bl (bs.all id))
  | _ => False
theorem ok_all (hK : X.K = B.K) : OkRC B (rAll X.K) allF := by
  intro G γ σ H vs ds R Q S r h k
  rw [hK]
  unfold allF at h
  split at h
  · obtain ⟨bs, e, h⟩ := h
    subst e
    cases r with
    | cons r1 r2 =>
      cases r2
      cases r1 with
      | lst hs ra =>
        rw [rp_bls ra] at hs
        exact ⟨_, bs, rfl, SqL.of (S.sub _ _ hs), k _ _ _ _ h (Same.refl _) S (.bl _)⟩
  · exact h.elim
def sumF : FC := fun ds R => match ds with
  | [.lst xs] => ∃ ns : List Int, xs = ns.map D.int ∧ R (.int ns.sum)
  | _ => False
theorem ok_sum (hK : X.K = B.K) : OkRC B (rSum X.K) sumF := by
  intro G γ σ H vs ds R Q S r h k
  rw [hK]
  unfold sumF at h
  split at h
  · obtain ⟨bs, e, h⟩ := h
    subst e
    cases r with
    | cons r1 r2 =>
      cases r2
      cases r1 with
      | lst hs ra =>
        rw [rp_ints ra] at hs
        exact ⟨_, bs, rfl, SqL.of (S.sub _ _ hs), k _ _ _ _ h (Same.refl _) S (.int _)⟩
  · exact h.elim
def maxF : FC := fun ds R => match ds with
  | [.lst xs] => ∃ ns : List Int, xs = ns.map D.int ∧ 0 < ns.length ∧ ∀ m, m ∈ ns → (∀ y, y ∈ ns → y ≤ m) → R (.int m)
  | _ => False
theorem ok_max (hK : X.K = B.K) : OkRC B (rMax X.K) maxF := by
  intro G γ σ H vs ds R Q S r h k
  rw [hK]
  unfold maxF at h
  split at h
  · obtain ⟨bs, e, hl, h⟩ := h
    subst e
    cases r with
    | cons r1 r2 =>
      cases r2
      cases r1 with
      | lst hs ra =>
        rw [rp_ints ra] at hs
        exact ⟨_, bs, rfl, SqL.of (S.sub _ _ hs), hl, fun m h1 h2 => k _ _ _ _ (h m h1 h2) (Same.refl _) S (.int _)⟩
  · exact h.elim
/-- tuple(reversed(xs)) -/
def dTupRev (t : DT) : DT := fun γ R => t γ fun d γ1 => match d with
  | .lst xs => R (.tup xs.reverse) γ1
  | _ => False
theorem d_tupRev (h : PE X e (RT.tTupRev B.K (tD B t))) : PE X e (tD B (dTupRev t)) := pe_imp h fun σ H Q ⟨G, γ, R, S, h, k⟩ => ⟨G, γ, _, S, h, fun d γ1 G1 v H1 q sm S1 r => by
  split at q
  · cases r with
    | lst hs ra =>
      refine ⟨_, _, rfl, SqL.of (S1.sub _ _ hs), fun l hl => ?_⟩
      obtain ⟨G2, s2, S2, r2⟩ := S1.newTup ra.rev hl
      exact k _ _ _ _ _ q (sm.trans s2) S2 r2
  · exact q.elim⟩
/-- xs[::-1] -/
def fRev (t : DT) : DA := fun γ R => t γ fun d γ1 => match d with
  | .lst xs => R xs.reverse γ1
  | _ => False
theorem f_rev (h : PE X e (tRevL B.K (tD B t))) : PE X e (tDF B (fRev t)) := pe_imp h fun σ H Q ⟨G, γ, R, S, h, k⟩ => ⟨G, γ, _, S, h, fun d γ1 G1 v H1 q sm S1 r => by
  split at q
  · cases r with
    | lst hs ra =>
      refine ⟨_, _, rfl, SqL.of (S1.sub _ _ hs), fun l hl => ?_⟩
      exact k _ _ _ _ _ _ q sm (S1.laid (fun _ z => nomatch z) hl) upd_same ra.rev (S1.free0 hl) (S1.sub.free hl) (S1.noslot hl)
  · exact q.elim⟩
/-! ### methods of texts -/
abbrev FS1 := Str → D → (D → Prop) → Prop
def dS1 (f : D → D → (D → Prop) → Prop) (to ta : DT) : DT := fun γ R => to γ fun d γ1 => match d with
  | .str z => ta γ1 fun x γ2 => f (.str z) x fun c => R c γ2
  | _ => False
def OkM1 (B : Bs) (r : V → List V → Hp → VK → Prop) (f : D → D → (D → Prop) → Prop) : Prop := ∀ G γ σ H (z : Str) x d R Q, DstG B G γ σ H → Rp B.W G x d → f (.str z) d R →
  (∀ c G' v H', R c → Same G G' → DstG B G' γ σ H' → Rp B.W G' v c → Q v H') → r (.str z) [x] H Q
theorem d_s1 {r : V → List V → Hp → VK → Prop} {f : D → D → (D → Prop) → Prop} (hr : OkM1 B r f) (h : PE X e (tM1 r (tD B t) (tD B ta))) : PE X e (tD B (dS1 f t ta)) := pe_imp h fun σ H Q ⟨G, γ, R, S, h, k⟩ =>
  ⟨G, γ, _, S, h, fun d γ1 G1 v H1 q s1 S1 r1 => by
    split at q
    · rename_i z
      cases rpStr r1
      exact ⟨⟨z, rfl⟩, G1, γ1, _, S1, q, fun x γ2 G2 u H2 q2 s2 S2 r2 => hr _ _ _ _ _ _ _ _ _ S2 r2 q2 fun c G' v H' hc s' S' r' => k _ _ _ _ _ hc (s1.trans (s2.trans s')) S' r'⟩
    · exact q.elim⟩
def joinF : D → D → (D → Prop) → Prop := fun d x R => match d, x with
  | .str a, .lst xs => ∃ ys : List Str, xs = ys.map D.str ∧ (ys.map (·.length)).sum + ys.length * a.length ≤ 1000000 ∧ R (.str (Txt.join a ys))
  | .str a, .tup xs => ∃ ys : List Str, xs = ys.map D.str ∧ (ys.map (·.length)).sum + ys.length * a.length ≤ 1000000 ∧ R (.str (Txt.join a ys))
  | _, _ => False
theorem ok_join (hK : X.K = B.K) : OkM1 B (fun x xs H Q => ∃ a p, ∃ ys : List Str, x = .str a ∧ xs = [.ref p] ∧ (SqL X.K H p (ys.map V.str) ∨ SqT X.K H p (ys.map V.str)) ∧
      (ys.map (·.length)).sum + ys.length * a.length ≤ 16777216 ∧ Q (.str (Txt.join a ys)) H) joinF := by
  intro G γ σ H z x d R Q S r h k
  rw [hK]
  unfold joinF at h
  split at h
  · rename_i _ e1
    cases e1
    obtain ⟨ys, e, hl, h⟩ := h
    subst e
    cases r with
    | lst hs ra =>
      rw [rp_strs ra] at hs
      exact ⟨_, _, ys, rfl, rfl, .inl (SqL.of (S.sub _ _ hs)), by omega, k _ _ _ _ h (Same.refl _) S (.str _)⟩
  · rename_i _ e1
    cases e1
    obtain ⟨ys, e, hl, h⟩ := h
    subst e
    cases r with
    | tup hs ra =>
      rw [rp_strs ra] at hs
      exact ⟨_, _, ys, rfl, rfl, .inr (hs.sq S.sub), by omega, k _ _ _ _ h (Same.refl _) S (.str _)⟩
  · exact h.elim
/-- s.index(t): it is there -/
def sindexF : D → D → (D → Prop) → Prop := fun d x R => match d, x with
  | .str a, .str b => ∃ i rest, Builtin.Str.occurrences a b 0 a.length 1 = i :: rest ∧ R (.int (i : Nat))
  | _, _ => False
theorem ok_sindex : OkM1 B (fun x xs H Q => ∃ a b i rest, x = .str a ∧ xs = [.str b] ∧ Builtin.Str.occurrences a b 0 a.length 1 = i :: rest ∧ Q (.int (i : Nat)) H) sindexF := by
  intro G γ σ H z x d R Q S r h k
  unfold sindexF at h
  split at h
  · rename_i _ e1
    cases e1
    obtain ⟨i, rest, hi, h⟩ := h
    cases rpStr r
    exact ⟨_, _, i, rest, rfl, rfl, hi, k _ _ _ _ h (Same.refl _) S (.int _)⟩
  · exact h.elim
/-! ### repr of data of built-in kinds -/
def showOk (d : D) : Prop := isPy d = true ∧ (py d).showable = true ∧ (py d).hasDict = false ∧ (py d).depth ≤ 60 ∧ (py d).shown.length ≤ 1000000
def shownD (d : D) : Str := (py d).shown
end
end EL
namespace EL
open PySem PySem.Spec PyProof.Rows L2
/-! ### dicts by keys that are ints and texts -/
def keyD : D → Option Key
  | .int i => some (.inl i)
  | .str z => some (.inr z)
  | _ => none
def keyEq : Key → Key → Bool
  | .inl i, .inl j => i == j
  | .inr a, .inr b => a == b
  | _, _ => false
theorem keyEq_iff {a b : Key} : keyEq a b = true ↔ a = b := by
  cases a <;> cases b <;> simp [keyEq]
theorem keyEq_dec (a b : Key) : keyEq a b = decide (a = b) := by
  rw [Bool.eq_iff_iff, keyEq_iff, decide_eq_true_eq]
section
variable {α : Type}
def getK (key : Key) : List (Key × α) → Option α
  | [] => none
  | kv :: r => if keyEq kv.1 key then some kv.2 else getK key r
/-- in its place, or at the end -/
def setK (key : Key) (v : α) : List (Key × α) → List (Key × α)
  | [] => [(key, v)]
  | kv :: r => if keyEq kv.1 key then (kv.1, v) :: setA key v r else kv :: setK key v r
where setA (key : Key) (v : α) : List (Key × α) → List (Key × α)
  | [] => []
  | kv :: r => (if keyEq kv.1 key then (kv.1, v) else kv) :: setA key v r
def mergeD (kvs : List (Key × α)) : List (Key × α) → List (Key × α)
  | [] => kvs
  | kv :: r => mergeD (setK kv.1 kv.2 kvs) r
end
section
variable {X : Cx} {B : Bs} {G G' G1 G2 : Hp} {γ γ' : Gm} {σ σ' : L2.St} {H H' H2 : Hp} {e a b : Expr} {ta tb t : DT} {pos : Pos} {st : Stmt} {p : Addr}
theorem rp_key {W : Cw} {v : V} {d : D} {key : Key} (r : Rp W G v d) (h : keyD d = some key) : v = kV key := by
  cases r <;> first | (cases h; done) | (cases h; rfl)
theorem valV_get {W : Cw} {key : Key} : ∀ {vs : List (Key × V)} {ds : List (Key × D)}, RpKv W G vs ds → (∀ d, getK key ds = some d → ∃ v, valV vs key = some v ∧ Rp W G v d) ∧ (getK key ds = none → valV vs key = none)
  | _, _, .nil => ⟨(fun _ h => nomatch h), fun _ => rfl⟩
  | _, _, .cons (k := k) (v := v) (d := d) r t => by
    obtain ⟨h1, h2⟩ := valV_get (key := key) t
    unfold getK
    dsimp only
    by_cases e : k = key
    · rw [if_pos (keyEq_iff.mpr e), valV_pos (p := (k, v)) e]
      exact ⟨fun d' q => ⟨v, rfl, by cases q; exact r⟩, fun q => nomatch q⟩
    · rw [if_neg (fun q => e (keyEq_iff.mp q)), valV_neg (p := (k, v)) e]
      exact ⟨h1, h2⟩
theorem rp_setA {W : Cw} {key : Key} {v : V} {d : D} (r : Rp W G v d) : ∀ {vs : List (Key × V)} {ds : List (Key × D)}, RpKv W G vs ds → RpKv W G (vs.map fun kv => if kv.1 = key then (kv.1, v) else kv) (setK.setA key d ds)
  | _, _, .nil => .nil
  | _, _, .cons (k := k) r' t => by
    unfold setK.setA
    rw [List.map_cons]
    dsimp only
    by_cases e : k = key
    · rw [if_pos e, if_pos (keyEq_iff.mpr e)]
      exact .cons r (rp_setA r t)
    · rw [if_neg e, if_neg (fun q => e (keyEq_iff.mp q))]
      exact .cons r' (rp_setA r t)
theorem rp_putN {W : Cw} {key : Key} {v : V} {d : D} (r : Rp W G v d) : ∀ {vs : List (Key × V)} {ds : List (Key × D)}, RpKv W G vs ds → ¬ (vs.any fun kv => decide (kv.1 = key)) = true → RpKv W G (vs ++ [(key, v)]) (setK key d ds)
  | _, _, .nil, _ => .cons r .nil
  | _, _, .cons (k := k) r' t, h => by
    rw [List.any_cons, Bool.or_eq_true, not_or] at h
    unfold setK
    dsimp only
    rw [if_neg (fun q => h.1 (by rw [decide_eq_true_eq]; exact keyEq_iff.mp q))]
    exact .cons r' (rp_putN r t h.2)
theorem rp_putY {W : Cw} {key : Key} {v : V} {d : D} (r : Rp W G v d) : ∀ {vs : List (Key × V)} {ds : List (Key × D)}, RpKv W G vs ds → (vs.any fun kv => decide (kv.1 = key)) = true → RpKv W G (vs.map fun kv => if kv.1 = key then (kv.1, v) else kv) (setK key d ds)
  | _, _, .nil, h => by cases h
  | _, _, .cons (k := k) r' t, h => by
    unfold setK
    dsimp only
    rw [List.map_cons]
    dsimp only
    by_cases e : k = key
    · rw [if_pos e, if_pos (keyEq_iff.mpr e)]
      exact .cons r (rp_setA r t)
    · rw [if_neg e, if_neg (fun q => e (keyEq_iff.mp q))]
      rw [List.any_cons, Bool.or_eq_true] at h
      rcases h with h | h
      · exact absurd (of_decide_eq_true h) e
      · exact .cons r' (rp_putY r t h)
theorem rp_putK {W : Cw} {key : Key} {v : V} {d : D} (r : Rp W G v d) {vs : List (Key × V)} {ds : List (Key × D)} (t : RpKv W G vs ds) : RpKv W G (putK vs key v) (setK key d ds) := by
  unfold putK
  by_cases h : (vs.any fun kv => decide (kv.1 = key)) = true
  · rw [if_pos h]; exact rp_putY r t h
  · rw [if_neg h]; exact rp_putN r t h
theorem rp_merge {W : Cw} : ∀ {us : List (Key × V)} {es : List (Key × D)}, RpKv W G us es → ∀ {vs : List (Key × V)} {ds : List (Key × D)}, RpKv W G vs ds → RpKv W G (mergeK vs us) (mergeD ds es)
  | _, _, .nil, _, _, t => t
  | _, _, .cons r u, _, _, t => by
    unfold mergeK mergeD
    rw [List.foldl_cons]
    exact rp_merge u (rp_putK r t)
/-! ### d[k], d.get(k), d.get(k, x), k in d -/
def dDget (td tk : DT) : DT := fun γ R => td γ fun d γ1 => tk γ1 fun k γ2 => match d, keyD k with
  | .dct kvs, some key => ∃ c, getK key kvs = some c ∧ R c γ2
  | _, _ => False
theorem d_dget {td tk : DT} (h : PE X e (tDGet (tD B td) (tD B tk))) : PE X e (tD B (dDget td tk)) := pe_imp h fun σ H Q ⟨G, γ, R, S, h, k⟩ =>
  ⟨G, γ, _, S, h, fun d γ1 G1 v H1 q s1 S1 r1 => ⟨G1, γ1, _, S1, q, fun kk γ2 G2 u H2 q2 s2 S2 r2 => by
    split at q2
    · rename_i kvs key hk
      obtain ⟨c, hc, q2⟩ := q2
      have r1 := r1.mono s2
      cases r1 with
      | dct hs ra =>
        obtain ⟨v, hv, rv⟩ := (valV_get ra).1 c hc
        refine ⟨_, v, rfl, ?_, k _ _ _ _ _ q2 (s1.trans s2) S2 rv⟩
        rw [rp_key r2 hk, ← hv]
        exact DGet.k (S2.sub _ _ hs)
    · exact q2.elim⟩⟩
def dDget1 (td tk : DT) : DT := fun γ R => td γ fun d γ1 => tk γ1 fun k γ2 => match d, keyD k with
  | .dct kvs, some key => match getK key kvs with
    | some c => R c γ2
    | none => R .non γ2
  | _, _ => False
theorem d_dget1 {td tk : DT} (hd : ∀ γ R, td γ R → td γ fun d γ' => R d γ' ∧ ∃ kvs, d = .dct kvs) (h : PE X e (tDGet1 (tD B td) (tD B tk))) : PE X e (tD B (dDget1 td tk)) := pe_imp h fun σ H Q ⟨G, γ, R, S, h, k⟩ =>
  ⟨G, γ, _, S, hd _ _ h, fun d γ1 G1 v H1 ⟨q, kvs, ed⟩ s1 S1 r1 => by
    subst ed
    cases r1 with
    | @dct a vs _ hs ra =>
      refine ⟨a, rfl, .inl ⟨vs, .inl (S1.sub _ _ hs)⟩, G1, γ1, _, S1, q, fun kk γ2 G2 u H2 q2 s2 S2 r2 => ?_⟩
      split at q2
      · rename_i kvs' key e1 hk
        cases e1
        have ra2 := ra.mono s2
        refine ⟨valV vs key, by rw [rp_key r2 hk]; exact DGet.k (S2.sub _ _ (s2 _ _ hs)), ?_⟩
        cases e : getK key kvs with
        | some c =>
          rw [e] at q2
          obtain ⟨v, hv, rv⟩ := (valV_get ra2).1 c e
          rw [hv]
          exact k _ _ _ _ _ q2 (s1.trans s2) S2 rv
        | none =>
          rw [e] at q2
          rw [(valV_get ra2).2 e]
          exact k _ _ _ _ _ q2 (s1.trans s2) S2 .non
      · exact q2.elim⟩
def dDget2 (td tk tx : DT) : DT := fun γ R => td γ fun d γ1 => (∃ kvs, d = .dct kvs) ∧ tk γ1 fun k γ2 => tx γ2 fun x γ3 => match d, keyD k with
  | .dct kvs, some key => (∀ c, getK key kvs = some c → R c γ3) ∧ (getK key kvs = none → R x γ3)
  | _, _ => False
theorem d_dget2 {td tk tx : DT} (h : PE X e (tDGet2 (tD B td) (tD B tk) (tD B tx))) : PE X e (tD B (dDget2 td tk tx)) := pe_imp h fun σ H Q ⟨G, γ, R, S, h, k⟩ =>
  ⟨G, γ, _, S, h, fun d γ1 G1 v H1 ⟨⟨kvs, ed⟩, q⟩ s1 S1 r1 => by
    subst ed
    cases r1 with
    | @dct a vs _ hs ra =>
      refine ⟨a, rfl, .inl ⟨vs, .inl (S1.sub _ _ hs)⟩, G1, γ1, _, S1, q, fun kk γ2 G2 u H2 q2 s2 S2 r2 => ⟨G2, γ2, _, S2, q2, fun x γ3 G3 w H3 q3 s3 S3 r3 => ?_⟩⟩
      split at q3
      · rename_i kvs' key e1 hk
        cases e1
        have ra2 := ra.mono (s2.trans s3)
        refine ⟨valV vs key, by rw [rp_key r2 hk]; exact DGet.k (S3.sub _ _ (s3 _ _ (s2 _ _ hs))), ?_⟩
        cases e : getK key kvs with
        | some c =>
          obtain ⟨v, hv, rv⟩ := (valV_get ra2).1 c e
          rw [hv]
          exact k _ _ _ _ _ (q3.1 c e) (s1.trans (s2.trans s3)) S3 rv
        | none =>
          rw [(valV_get ra2).2 e]
          exact k _ _ _ _ _ (q3.2 e) (s1.trans (s2.trans s3)) S3 r3
      · exact q3.elim⟩
/-! ### {k: v, ..} -/
def dPairs : List (DT × DT) → Gm → (List (D × D) → Gm → Prop) → Prop
  | [], γ, R => R [] γ
  | (tk, tv) :: r, γ, R => tk γ fun x γ1 => tv γ1 fun y γ2 => dPairs r γ2 fun ps γ3 => R ((x, y) :: ps) γ3
def keyed : List (D × D) → Option (List (Key × D))
  | [] => some []
  | (k, v) :: r => match keyD k, keyed r with
    | some key, some kvs => some ((key, v) :: kvs)
    | _, _ => none
def fDisp (ts : List (DT × DT)) : DKv := fun γ R => dPairs ts γ fun ps γ' => match keyed ps with
  | some kvs => R (mergeD [] kvs) γ'
  | none => False
def RpPr (W : Cw) (G : Hp) : List (V × V) → List (D × D) → Prop := Paired fun p q => Rp W G p.1 q.1 ∧ Rp W G p.2 q.2
theorem pairs_run : ∀ (ts : List (DT × DT)) (G : Hp) (γ : Gm) (H : Hp) (R : List (D × D) → Gm → Prop) (Q : List (V × V) → Hp → Prop), DstG B G γ σ H → dPairs ts γ R →
    (∀ ps γ' G' vs H', R ps γ' → ps.length = ts.length → Same G G' → DstG B G' γ' σ H' → RpPr B.W G' vs ps → Q vs H') → tPairs (ts.map fun t => (tD B t.1, tD B t.2)) σ H Q
  | [], G, γ, H, R, Q, S, h, k => k [] γ G [] H h rfl (Same.refl _) S .nil
  | (tk, tv) :: r, G, γ, H, R, Q, S, h, k => ⟨G, γ, _, S, h, fun x γ1 G1 u H1 q1 s1 S1 r1 => ⟨G1, γ1, _, S1, q1, fun y γ2 G2 w H2 q2 s2 S2 r2 =>
      pairs_run r G2 γ2 H2 _ _ S2 q2 fun ps γ' G' vs H' q l s' S' rp => k _ _ _ _ _ q (by show ps.length + 1 = r.length + 1; rw [l]) (s1.trans (s2.trans s')) S' (.cons ⟨r1.mono (s2.trans s'), r2.mono s'⟩ rp)⟩⟩
theorem keyed_rp {W : Cw} {G : Hp} : ∀ {vs : List (V × V)} {ps : List (D × D)} {kvs : List (Key × D)}, RpPr W G vs ps → keyed ps = some kvs → ∃ us : List (Key × V), vs = us.map (fun kv => (kV kv.1, kv.2)) ∧ RpKv W G us kvs ∧ us.length = ps.length
  | _, _, kvs, .nil, h => by cases h; exact ⟨[], rfl, .nil, rfl⟩
  | _, _, kvs, .cons (b := (k, d)) r t, h => by
    unfold keyed at h
    split at h
    · rename_i key kvs' h1 h2
      cases h
      obtain ⟨us, e, ru, l⟩ := keyed_rp t h2
      refine ⟨(key, _) :: us, ?_, .cons r.2 ru, by rw [List.length_cons, l]; rfl⟩
      rw [List.map_cons, ← e]
      congr 1
      exact Prod.ext (rp_key r.1 h1) rfl
    · cases h
def tDP (B : Bs) (ts : List (DT × DT)) : List (TE × TE) := ts.map fun t => (tDx B t.1, tDx B t.2)
theorem f_disp {ts : List (DT × DT)} (h15 : ts.length ≤ 15) (h : PE X e (tDisp (tDP B ts))) : PE X e (tDFd B (fDisp ts)) := pe_imp h fun σ H Q ⟨G, γ, R, S, h, k⟩ p hp => by
  have hg : G p = none := S.sub.free hp
  have h0 : B.H0 p = none := S.free0 hp
  have hdk : ∀ d c, B.W.dk = some (d, c) → B.H0 d ≠ none ∧ B.H0 c ≠ none := fun d c e => ⟨(S.dkok d c e).2.1, (S.dkok d c e).2.2.1⟩
  have hn := S.noslot hp
  have S1 := (S.laid (o := .dK []) (fun _ z => nomatch z) hp).hide upd_same hg h0 hn
  have x : ∀ (ts : List (DT × DT)) σ H Q, tPairs (ts.map fun t => (tD (withH B (upd B.H0 p (.dK []))) t.1, tD (withH B (upd B.H0 p (.dK []))) t.2)) σ H Q → tPairs (tDP B ts) σ H Q := by
    intro ts
    induction ts with
    | nil => exact fun _ _ _ h => h
    | cons t r ih => exact fun σ H Q ⟨G, γ, R, S, h, k⟩ => ⟨_, G, γ, R, S, h, fun d γ' G' v H' a b c d' => by
        obtain ⟨G5, γ5, R5, S5, h5, k5⟩ := k d γ' G' v H' a b c d'
        exact ⟨_, G5, γ5, R5, S5, h5, fun d γ' G' v H' a b c d' => ih _ _ _ (k5 d γ' G' v H' a b c d')⟩⟩
  refine x ts σ _ _ (pairs_run (B := withH B (upd B.H0 p (.dK []))) ts G γ _ _ _ S1 h fun ps γ' G' vs H' q l s' S' rp => ?_)
  split at q
  · rename_i kvs hk
    obtain ⟨S2, hp2, hg2, hn2⟩ := S'.unhide h0 (S.sub0.free hg) hdk
    obtain ⟨us, e, ru, lu⟩ := keyed_rp rp hk
    refine ⟨hp2, us, e, by omega, ?_⟩
    exact k _ _ _ _ _ _ q s' (S2.offed (fun _ z => nomatch z) hg2 h0 hn2) upd_same (rp_merge ru .nil) h0 hg2 hn2
  · exact q.elim
end
end EL
namespace EL
open PySem PySem.Spec PyProof.Rows L2
open AutoSeq1 (wpAny_loadPart')
/-! ### enumerate(tuple) -/
theorem meets_enumerate_newT (l : Addr) (items : Array Value) (n : Nat) (dct : Option Addr) (sl : Array (Option Value)) :
    Meets (Builtin.«enumerate.__new__» ⟨[.type "enumerate", .ref l], []⟩) (fun _ R s => s.heap.get? l = some { cls := .type "tuple", dict := dct, data := .seq items n, slots := sl } ∧
      R (.ok (.ret (.ref (s.heap.push { cls := .type "tuple_iterator", data := .fields #[.ref l, .int 0 0] }).objs.size)))
        { s with heap := (s.heap.push { cls := .type "tuple_iterator", data := .fields #[.ref l, .int 0 0] }).push { cls := .type "enumerate", data := .fields #[.none, .bool false, .ref s.heap.objs.size, rawInt 0, .none, .none] } }) :=
  .of_wp fun prog w A R s h => by
    obtain ⟨hp, g, d, tk, os⟩ := s; obtain ⟨hl, h⟩ := h
    have hsub := sub_enumerate
    have hL : Heap.IsTuple (Shared.heap ⟨hp, g, d, tk, os⟩) l items := ⟨_, hl, rfl, n, rfl⟩
    wp_walk using wpAny_loadPart' hl
    refine wpAny_stack_any fun st => wpAny_pure ?_
    split
    · rename_i c _ _ _ _ _
      cases (c == Value.type "enumerate")
      · wp_walk using wpAny_loadPart' hl, wpAny_pyIter_tuple hL
        exact ⟨_, rfl, h⟩
      · wp_walk using wpAny_loadPart' hl, wpAny_pyIter_tuple hL
        exact ⟨_, rfl, h⟩
    · wp_walk using wpAny_loadPart' hl, wpAny_pyIter_tuple hL
      exact ⟨_, rfl, h⟩
section
variable {prog : Program} {w : World} {A : Around} {E : Value → Shared → Prop} {s : Shared}
theorem call_enumerate_tuple {l : Addr} {items : Array Value} {Q : Value → Shared → Prop} (hL : s.heap.IsTuple l items)
    (h : ∀ h', IsEnum h' (s.heap.objs.size + 1) s.heap.objs.size 0 .none → h'.IsTupleIter s.heap.objs.size l 0 → h'.objs.size = s.heap.objs.size + 2 →
      (∀ b o, s.heap.get? b = some o → h'.get? b = some o) → Q (.ref (s.heap.objs.size + 1)) { s with heap := h' }) :
    wpAny (model prog w) A (call (.type "enumerate") [.ref l]) Q E s := by
  obtain ⟨⟨c, dct, dt, sl⟩, hl, hc, n, hd⟩ := hL
  replace hc : c = .type "tuple" := hc
  replace hd : dt = .seq items n := hd
  subst hc hd
  refine callType_new F.called_enumerate (by decide) (F.typeCall_enumerate_1 _) (F.newCall_enumerate_1 _) (fun obj => F.args_object_init_2 obj _) F.entry_enumerate_new
    (meets_enumerate_newT l items n dct sl) ⟨hl, ?_⟩
  have hz : (s.heap.push { cls := .type "tuple_iterator", data := .fields #[.ref l, .int 0 0] }).objs.size = s.heap.objs.size + 1 := Heap.size_push ..
  show _ ∧ _
  rw [hz]
  have he : IsEnum ((s.heap.push { cls := .type "tuple_iterator", data := .fields #[.ref l, .int 0 0] }).push
      { cls := .type "enumerate", data := .fields #[.none, .bool false, .ref s.heap.objs.size, rawInt 0, .none, .none] }) (s.heap.objs.size + 1) s.heap.objs.size 0 .none := by
    have := Heap.get?_push_size (s.heap.push { cls := .type "tuple_iterator", data := .fields #[.ref l, .int 0 0] })
      (o := { cls := .type "enumerate", data := .fields #[.none, .bool false, .ref s.heap.objs.size, rawInt 0, .none, .none] }) rfl
    rw [hz] at this; exact this
  refine ⟨⟨_, he, rfl⟩, h _ he ⟨_, Heap.get?_push_of_some _ (Heap.get?_push_size _ rfl), rfl, rfl⟩ (by rw [Heap.size_push, hz]) fun b o x => Heap.get?_push_of_some _ (Heap.get?_push_of_some _ x)⟩
end
/-- the tuple at a, each item in a new pair -/
def IteT (K : PySem.W.Frag) (a : Addr) : It :=
  ⟨fun i H => ∃ (xs : List V) (x : V), SqT K H a xs ∧ xs[i]? = some x, fun i H v H' => ∃ T x, v = .ref T ∧ H T = none ∧ H' = upd H T (.tup [.int (i : Nat), x]) ∧ ∀ xs, SqT K H a xs → xs[i]? = some x, fun i H => ∃ xs : List V, SqT K H a xs ∧ xs.length ≤ i⟩
theorem turn_enumT {P : Program} {w : World} {K : PySem.W.Frag} {elts : List Expr} {kk : Nat} {tpos : Pos} (a e it : Addr) :
    Turn P w K (.Tuple elts kk tpos) (IteT K a) [e, it] e (fun i h => (∃ old, IsEnum h e it ((i : Nat) : Int) old) ∧ h.IsTupleIter it a i ∧ e ≠ it) where
  mem := by simp
  obj := fun i h st b hb => by
    obtain ⟨⟨old, he⟩, ⟨o, ho, hc, hd⟩, _⟩ := st
    have e' : b = e ∨ b = it := by simpa using hb
    rcases e' with z | z
    · rw [z]; exact ⟨_, he, fun v q => nomatch q⟩
    · rw [z]; exact ⟨o, ho, fun v q => by rw [hd] at q; cases q⟩
  keep := fun i h h' st k => let ⟨⟨old, he⟩, hi, hne⟩ := st; ⟨⟨old, k e (by simp) _ he⟩, hi.at fun o q => k it (by simp) o q, hne⟩
  item := by
    intro X hP hw hK hc i pins s σ H E I hf st hg
    subst hP hw hK
    obtain ⟨⟨old, he⟩, hit, hne⟩ := st
    obtain ⟨xs, x, hq, hx⟩ := hg
    obtain ⟨its, rv, p, hz⟩ := I.tuple hq
    obtain ⟨u, hu, ru⟩ := rv.get hx
    have hel : e < s.heap.objs.size := Heap.lt_size he
    have hil : it < s.heap.objs.size := by obtain ⟨_, q, _⟩ := hit; exact Heap.lt_size q
    have hp : s.heap.IsTuple a its.toArray := p
    have hai : a ≠ it := fun z => by
      subst z
      obtain ⟨o1, h1, c1, _⟩ := id hp
      obtain ⟨o2, h2, c2, _⟩ := id hit
      rw [h1] at h2; cases h2; rw [c1] at c2; exact absurd c2 (by decide)
    have hae : e ≠ a := fun z => by
      subst z
      obtain ⟨o1, h1, c1, _⟩ := id hp
      have he' : s.heap.get? e = some _ := he
      rw [h1] at he'
      cases he'
      exact absurd (show Value.type "enumerate" = Value.type "tuple" from c1) (by decide)
    have hlen : i < its.toArray.size := by
      have := (List.getElem?_eq_some_iff.mp hu).1
      simpa using this
    refine wpAny_pyNext_enum_itemD (Draws.tuple (A := X.A.in1) (show X.A.in1.handled = none from I.ok.hd hc) it a hai its.toArray) he ⟨hit, hp⟩ hlen hne (by simp [hne, hae]) fun y h' tk hP ho hst' hT hsz hk => ?_
    obtain ⟨hit', hp'⟩ := hst'
    have hy : y = u := by
      have h1 : its.toArray[i]? = some y := hP
      rw [List.getElem?_toArray, hu] at h1
      exact (Option.some.inj h1).symm
    subst hy
    refine ⟨_, rfl, wpAny_letOwnedTupleGo_enum (s := { s with heap := h', toks := tk + 1 }) ho fun h'' he' sb => ?_⟩
    have hT2 : h''.get? s.heap.objs.size = some { cls := .type "tuple", data := .seq #[.int i tk, y] } := (sb.2 _ (Nat.ne_of_gt hel)).trans hT
    have new : ObjOk X.prog X.w (upd H s.heap.objs.size (.tup [.int (i : Nat), x])) h'' s.heap.objs.size (.tup [.int (i : Nat), x]) :=
      ⟨by show 2 ≤ sizeLine; decide, [.int i tk, y], .cons ⟨_, rfl⟩ (.cons ru .nil), ⟨_, hT2, rfl, _, rfl⟩⟩
    have I1 : Inv X pins σ (upd H s.heap.objs.size (.tup [.int (i : Nat), x])) { s with heap := h'', toks := tk + 1 } :=
      I.turnedNew (ch := [e, it]) (fun b ob hb q => (sb.2 b (fun z => hb (by simp [z]))).trans (hk b ob (fun z => hb (by simp [z])) (fun z => hb (by simp [z])) q)) hf (Nat.le_refl _) new
    refine ⟨.ref s.heap.objs.size, _, I1, rfl, ⟨_, x, rfl, I.hok.fresh (Nat.le_refl _), rfl, fun ys hy => by rw [I.tuple_inj hy hq]; exact hx⟩, ⟨⟨y, ?_⟩, hit'.at fun o q => (sb.2 it (Ne.symm hne)).trans q, hne⟩, fun b hb => ?_⟩
    · have e1 : ((i + 1 : Nat) : Int) = (i : Int) + 1 := by omega
      rw [e1]; exact he'
    · have hb' : b < s.heap.objs.size := by
        have e' : b = e ∨ b = it := by simpa using hb
        rcases e' with z | z
        · rw [z]; exact hel
        · rw [z]; exact hil
      rw [upd_ne (Nat.ne_of_lt hb')]
      exact (hf b hb).1
  done := by
    intro X hP hw hK hc i pins s σ H E I hf st hg
    subst hP hw hK
    obtain ⟨⟨old, he⟩, hit, hne⟩ := st
    obtain ⟨xs, hq, hx⟩ := hg
    obtain ⟨its, rv, p, hz⟩ := I.tuple hq
    obtain ⟨f0, f1, f2, f3, f4, f5⟩ := hf it (by simp)
    have hl := rv.length
    have hp : s.heap.IsTuple a its.toArray := p
    have hT : s.TypeIs (.ref e) "enumerate" := ⟨_, he, rfl⟩
    unfold pyNext
    refine wpAny_bind (wpAny_attempt (wpAny_callSpecial?_slot (name := Str.ofString "__next__") hT F.slot_enumerate_next
      (wpAny_call_entry F.slot_enumerate_next hT F.entry_enumerate_next ?_ (F.args_enumerate_next_1 _))))
    show wpAny _ _ (field (.ref e) 2 >>= _) _ _ _
    refine wpAny_bind (wpAny_field he rfl (x := .ref it) rfl ?_)
    refine wpAny_bind (wpAny_nextOf_tuple_end (I.ok.hd hc) hit hp (by simp; omega) fun h' x he' hx' => ?_)
    obtain ⟨o, ho, hc'⟩ := hx'
    refine wpAny_bind (wpAny_isInstance (T := "StopIteration") (b := true) ⟨o, ho, hc'⟩ isSubtype_stop ?_)
    exact wpAny_pure ⟨rfl, I.turned (t' := s.toks) (fun b o hb q => he' b o hb q) f0 f1 f3 f4 f5⟩
  self := fun A i s Q E st h => let ⟨⟨_, he⟩, _⟩ := st; wpAny_pyIter_enum he h
/-- a list, or a tuple -/
def iEnumA (K : PySem.W.Frag) (ta : TA) : TI := fun σ H R => ta σ H fun vs H1 => ∃ a xs, vs = [.ref a] ∧ ((SqL K H1 a xs ∧ R (Ite K a) H1) ∨ (SqT K H1 a xs ∧ R (IteT K a) H1))
theorem pi_enumA {X : Cx} {e : Expr} {ta : TA} {p pos tpos : Pos} {elts : List Expr} {kk : Nat} (hg : Gl X "enumerate") (hm : X.mg "enumerate" = none) (ha : PA X [e] ta) (hs : starEach [e] X.env = [(false, eval e X.env)] := by rfl) :
    PI X (.Tuple elts kk tpos) (.Call (.Name "enumerate" p) [e] [] pos) (iEnumA X.K ta) := by
  refine ⟨fun pins s σ H R I h => ?_⟩
  refine Call_ (ld_blt I hg hm boot_enumerate (PyProof.Rows.callWith_type1 (thn (ha.run pos pins s σ H _ I h) fun us s1 ⟨vs, H1, I1, r1, q1⟩ => ?_) hs rfl))
  obtain ⟨a, xs, ex, hq⟩ := q1
  subst ex
  cases r1 with
  | cons r rr =>
    cases rr
    cases r
    have fp : ∀ b ∈ [s1.heap.objs.size + 1, s1.heap.objs.size], FpOk X pins H1 b := fun b hb => by
      have e' : b = s1.heap.objs.size + 1 ∨ b = s1.heap.objs.size := by simpa using hb
      have hle : s1.heap.objs.size ≤ b := by
        rcases e' with z | z
        · rw [z]; exact Nat.le_add_right _ _
        · rw [z]; exact Nat.le_refl _
      exact I1.fpOk hle (I1.hok.fresh hle)
    rcases hq with ⟨hq, q⟩ | ⟨hq, q⟩
    · obtain ⟨its, rv, p', hz⟩ := I1.list hq
      refine call_enumerate_list p'.isList fun h' he hit hsz hk => wpAny_pyIter_enum he ?_
      have I2 : Inv X pins σ H1 { s1 with heap := h' } := I1.kept (t' := s1.toks) hk
      exact ⟨s1.heap.objs.size + 1, [s1.heap.objs.size + 1, s1.heap.objs.size], _, _, H1, rfl, I2, turn_enum a (s1.heap.objs.size + 1) s1.heap.objs.size, ⟨⟨.none, he⟩, hit, Nat.succ_ne_self _⟩, fp, q⟩
    · obtain ⟨its, rv, p', hz⟩ := I1.tuple hq
      refine call_enumerate_tuple (show s1.heap.IsTuple a its.toArray from p') fun h' he hit hsz hk => wpAny_pyIter_enum he ?_
      have I2 : Inv X pins σ H1 { s1 with heap := h' } := I1.kept (t' := s1.toks) hk
      exact ⟨s1.heap.objs.size + 1, [s1.heap.objs.size + 1, s1.heap.objs.size], _, _, H1, rfl, I2, turn_enumT a (s1.heap.objs.size + 1) s1.heap.objs.size, ⟨⟨.none, he⟩, hit, Nat.succ_ne_self _⟩, fp, q⟩
section
variable {X : Cx} {B : Bs} {G G' G1 G2 : Hp} {γ γ' : Gm} {σ σ' : L2.St} {H H' H2 : Hp} {e a b : Expr} {ta tb t : DT} {pos : Pos} {st : Stmt} {p : Addr}
theorem walkD_enumT {a : Addr} {vs : List V} {ds : List D} (h : SqT B.K G1 a vs) (r : RpAll B.W G1 vs ds) : WalkD B (IteT B.K a) G1 (enumD ds) := fun H0 G γ σ H sm S => by
  have hs : SqT B.K H a vs := sqT_mono S.sub (sqT_mono sm h)
  refine ⟨⟨vs, hs, by rw [r.len, enumD_len]; exact Nat.le_refl _⟩, fun i c hc => ?_⟩
  obtain ⟨d, hd, rfl⟩ := enumD_get hc
  obtain ⟨v, hv, rv⟩ := r.get hd
  refine ⟨⟨vs, v, hs, hv⟩, fun x H' y => ?_⟩
  obtain ⟨T, x', h1, h2, h3, h4⟩ := y
  have := h4 vs hs
  rw [hv] at this
  cases this
  subst h1 h3
  exact pair_step (B := withH B H0) S (.int _) (rv.mono sm) h2
def iEnumB (t : DA) : DA := fun γ R => t γ fun ds γ1 => match ds with
  | [.lst es] => R (enumD es) γ1
  | [.tup es] => R (enumD es) γ1
  | _ => False
theorem i_enumB {tg it : Expr} {t : DA} (h : PI X tg it (iEnumA B.K (tDA B t))) : PI X tg it (tDI B (iEnumB t)) := pi_imp h fun σ H R' ⟨G, γ, R, S, h, k⟩ => ⟨G, γ, _, S, h, fun ds γ1 G1 vs H1 q sm S1 r => by
  split at q
  · cases r with
    | cons r1 r2 =>
      cases r2
      cases r1 with
      | lst hs ra => exact ⟨_, _, rfl, .inl ⟨SqL.of (S1.sub _ _ hs), k _ _ _ _ _ q sm S1 (walkD_enum (SqL.of hs) ra)⟩⟩
  · cases r with
    | cons r1 r2 =>
      cases r2
      cases r1 with
      | tup hs ra => exact ⟨_, _, rfl, .inr ⟨hs.sq S1.sub, k _ _ _ _ _ q sm S1 (walkD_enumT (hs.sq0) ra)⟩⟩
  · exact q.elim⟩
end
end EL
namespace EL
open PySem PySem.Spec PyProof.Rows L2
/-! ### d.update(e) -/
def rUpd : V → List V → Hp → VK → Prop := fun x vs H Q => ∃ a b kvs more, x = .ref a ∧ vs = [.ref b] ∧ a ≠ b ∧ H a = some (.dK kvs) ∧ H b = some (.dK more) ∧ kvs.length + more.length ≤ sizeLine ∧ Q .non (upd H a (.dK (mergeK kvs more)))
theorem mergeK_len : ∀ (more kvs : List (Key × V)), (mergeK kvs more).length ≤ kvs.length + more.length
  | [], kvs => Nat.le_refl _
  | kv :: more, kvs => by
    have h := mergeK_len more (putK kvs kv.1 kv.2)
    have h2 : (putK kvs kv.1 kv.2).length ≤ kvs.length + 1 := by
      unfold putK
      split
      · rw [List.length_map]; omega
      · rw [List.length_append]; exact Nat.le_refl _
    have e : mergeK kvs (kv :: more) = mergeK (putK kvs kv.1 kv.2) more := rfl
    rw [e, List.length_cons]
    omega
theorem mt_update {X : Cx} : MtR X "dict.update" rUpd := by
  intro pins s σ H x vs v us Q I rx rv h
  obtain ⟨a, b, kvs, more, rfl, rfl, hab, ha, hb, hz, q⟩ := h
  obtain rfl : v = Value.ref a := rx
  obtain ⟨u, rfl, ru⟩ := rv.one
  obtain rfl : u = Value.ref b := ru
  obtain ⟨za, hda, va, ra, da⟩ := dk_of I.hok ha
  obtain ⟨zb, hdb, vb, rb, db⟩ := dk_of I.hok hb
  refine call_meetsIn F.slot_dict_update da.typeIs F.entry_dict_update (F.args_dict_update_2 _ _) (meets_dict_update (mixKind X.prog X.w) a b hab hdb) ⟨va, vb, da, db, by rw [← ra.length, ← rb.length]; exact hz, fun h' hd' ho' hs => ?_⟩
  have he : ∃ q, h'.get? a = some q := let ⟨q, _, _, hq, _⟩ := hd'; ⟨q, hq⟩
  refine ⟨.non, _, ?_, rfl, q⟩
  exact d_write I (by rw [ha]; exact True.intro) hs he (dk_new (Nat.le_trans (mergeK_len _ _) hz) hda (rb.merge ra) hd')
section
variable {X : Cx} {B : Bs} {G G' G1 G2 : Hp} {γ γ' : Gm} {σ σ' : L2.St} {H H' H2 : Hp} {e a b : Expr} {ta tb t : DT} {pos : Pos} {st : Stmt} {p : Addr}
/-! ### own dicts changed -/
theorem Dst.restore {m : Nat} {γ : GL} (S : Dst B m G γ σ H) {i : Nat} {s s' : Sl} {p : Addr} {o : HO} (h : γ[i]? = some s) (hp : p ∈ s.as) (no : ∀ xs, o ≠ .tup xs) (has : ∀ q, q ∈ s'.as → q ∈ s.as)
    (ok : ∀ o0, σ[i]? = some o0 → SlOk B.W G H o0 s → SlOk B.W G (upd H p o) o0 s') : Dst B m G (γ.set i s') σ (upd H p o) := by
  obtain ⟨o0, h1, h2⟩ := S.slot i _ h
  obtain ⟨h5, h6⟩ := S.off i _ p h hp
  have Sw : Dst B m G (γ.set i .un) σ H := S.weak
  have li : i < γ.length := (List.getElem?_eq_some_iff.mp h).1
  have no1 : NoSlot (γ.set i .un) p := fun j t e hq => by
    by_cases z : i = j
    · subst z
      rw [List.getElem?_set_self li] at e
      cases e
      cases hq
    · rw [List.getElem?_set_ne z] at e
      exact z (S.nd i j p _ t h e hp hq)
  have S2 := Sw.offed (o := o) no h6 h5 no1
  have k2 := ok o0 h1 h2
  have e0 : ∃ v, o0 = some v := by
    cases s with
    | un => cases hp
    | fz d => cases hp
    | own q ds => exact ⟨_, h2.1⟩
    | ownD q ds => exact ⟨_, h2.1⟩
    | ownL q ds => exact ⟨_, h2.1⟩
  obtain ⟨v, e0⟩ := e0
  subst e0
  have S3 := slot_set S2 (i := i) (v := v) (s := s') k2 fun q hq => by
    have hq' := has q hq
    refine ⟨(S.off i _ q h hq').1, (S.off i _ q h hq').2, fun j t nj e hqt => ?_⟩
    rw [List.getElem?_set_ne (Ne.symm nj)] at e
    exact nj (S.nd j i q t s e h hqt hq')
  rw [set_same h1, List.set_set] at S3
  exact S3
abbrev FMd := List (Key × D) → List D → (D → List (Key × D) → Prop) → Prop
def dMutD (i : Nat) (f : FMd) (ta : DA) : DT := fun γ R => (∃ p ds, look γ i = .ownD p ds) ∧ ta γ fun es γ1 => match look γ1 i with
  | .ownD p ds => f ds es fun c cs => R c (putS γ1 i (.ownD p cs))
  | _ => False
def OkMd (r : V → List V → Hp → VK → Prop) (f : FMd) : Prop := ∀ (W : Cw) (G H : Hp) (p : Addr) (us : List (Key × V)) (xs : List V) (ds : List (Key × D)) (es : List D) (R : D → List (Key × D) → Prop) (Q : VK), Same G H → H p = some (.dK us) → G p = none → RpKv W G us ds → RpAll W G xs es → f ds es R →
  (∀ c v ws cs, R c cs → Rp W G v c → RpKv W G ws cs → Q v (upd H p (.dK ws))) → r (.ref p) xs H Q
theorem d_mutD {i : Nat} {f : FMd} {ta : DA} {r : V → List V → Hp → VK → Prop} (hr : OkMd r f) (h : PE X e (tBM X.K "dict" r (tVar i) (tDA B ta))) : PE X e (tD B (dMutD i f ta)) := pe_imp h fun σ H Q ⟨G, γ, R, S, ⟨⟨p0, ds0, hi⟩, h⟩, k⟩ => by
  obtain ⟨o, h1, h2, vs, h3, h4⟩ := S.slot i _ (look_get hi (fun z => nomatch z))
  subst h2
  refine ⟨_, h1, .inr (.inr (.inl ⟨rfl, .inl ⟨vs, h3⟩⟩)), G, γ, _, S, h, fun es γ1 G1 xs H1 q sm S1 r1 => ?_⟩
  split at q
  · rename_i p ds hi1
    have hg := look_get hi1 (fun z => nomatch z)
    obtain ⟨o', k1, k2, us, k3, k4⟩ := S1.slot i _ hg
    subst k2
    rw [h1] at k1
    cases k1
    exact hr B.W G1 H1 p0 us xs ds es _ _ S1.sub k3 (S1.off i _ p0 hg (List.mem_singleton.mpr rfl)).2 k4 r1 q fun c v ws cs hR rv rw' => k _ (putS γ1 i (.ownD p0 cs)) _ _ _ hR sm
      (by rw [putS_eq]; exact S1.restore (o := .dK ws) hg (List.mem_singleton.mpr rfl) (fun _ z => nomatch z) (fun q hq => hq) fun o0 e0 q0 => ⟨q0.1, ws, upd_same, rw'⟩) rv
  · exact q.elim
def updM : FMd := fun ds es R => match es with
  | [.dct cs] => ds.length + cs.length ≤ 1000000 ∧ R .non (mergeD ds cs)
  | _ => False
theorem ok_updM : OkMd rUpd updM := by
  intro W G H p us xs ds es R Q sm hp hg ru rx h k
  unfold updM at h
  split at h
  · cases rx with
    | cons r1 r2 =>
      cases r2
      cases r1 with
      | @dct b vs _ hs ra =>
        exact ⟨p, b, us, vs, rfl, rfl, (fun z => by rw [z, hs] at hg; cases hg), hp, sm _ _ hs, by rw [ru.len, ra.len]; exact sz_ok h.1, k _ _ _ _ h.2 .non (rp_merge ra ru)⟩
  · exact h.elim
/-- d[k] = v -/
def sDSet (i : Nat) (tk tv : DT) : DS := fun E γ => tv γ fun d γ1 => (∃ p ds, look γ1 i = .ownD p ds) ∧ tk γ1 fun k γ2 => match look γ2 i, keyD k with
  | .ownD p ds, some key => ds.length < 1000000 ∧ E.nx (putS γ2 i (.ownD p (setK key d ds)))
  | _, _ => False
theorem s_dset {i : Nat} {tk tv : DT} (h : PS X st (sDPut (tVar i) (tD B tk) (tD B tv))) : PS X st (tDS B (sDSet i tk tv)) := ps_imp h fun De σ H ⟨G, γ, E, S, h, F⟩ =>
  ⟨G, γ, _, S, h, fun d γ1 G1 v H1 ⟨⟨p0, ds0, hi⟩, q⟩ s1 S1 r1 => by
    obtain ⟨o, h1, h2, vs, h3, h4⟩ := S1.slot i _ (look_get hi (fun z => nomatch z))
    subst h2
    refine ⟨_, h1, G1, γ1, _, S1, q, fun k γ2 G2 u H2 q2 s2 S2 r2 => ?_⟩
    split at q2
    · rename_i p ds key hi2 hk
      have hg := look_get hi2 (fun z => nomatch z)
      obtain ⟨o', k1, k2, us, k3, k4⟩ := S2.slot i _ hg
      subst k2
      rw [h1] at k1
      cases k1
      have q3 := q2.2
      rw [putS_eq] at q3
      refine ⟨p0, _, rfl, ?_, F.nx _ _ _ _ q3 (s1.trans s2) (S2.restore (o := .dK (putK us key v)) hg (List.mem_singleton.mpr rfl) (fun _ z => nomatch z) (fun q hq => hq) fun o0 e0 q0 => ⟨q0.1, _, upd_same, rp_putK (r1.mono s2) k4⟩)⟩
      rw [rp_key r2 hk]
      exact DPut.k k3 (by rw [k4.len]; exact Nat.lt_of_lt_of_le q2.1 (by decide))
    · exact q2.elim⟩
/-! ### dicts of own lists -/
def mkL (ks : List Key) (as : List Addr) : List (Key × (Addr × List D)) := List.zipWith (fun k a => (k, (a, []))) ks as
theorem mkL_nil : ∀ (ks : List Key) (as : List Addr), ∀ k ∈ mkL ks as, k.2.2 = []
  | [], _, k, h => by cases h
  | _ :: _, [], k, h => by cases h
  | k0 :: ks, a :: as, k, h => by
    have h : k ∈ (k0, (a, ([] : List D))) :: mkL ks as := h
    rcases List.mem_cons.mp h with e | e
    · rw [e]
    · exact mkL_nil ks as k e
/-- x = {'P': [], 'L': []} -/
def sOwnL (i : Nat) (ks : List Key) : DS := fun E γ => ∀ p (as : List Addr), as.length = ks.length → E.nx (putS γ i (.ownL p (mkL ks as)))
def tEmp : TE := tLst tNil
theorem pairsL (ks : List Str) : ∀ (σ : L2.St) (H : Hp) (Q : List (V × V) → Hp → Prop),
    (∀ (as : List Addr) H', as.length = ks.length → as.Nodup → (∀ a ∈ as, H a = none ∧ H' a = some (.lst [])) → (∀ b, b ∉ as → H' b = H b) → Q (List.zipWith (fun k a => (V.str k, V.ref a)) ks as) H') →
    tPairs (ks.map fun k => (tC (.str k), tEmp)) σ H Q := by
  induction ks with
  | nil => exact fun σ H Q k => k [] H rfl .nil (fun _ h => by cases h) fun _ _ => rfl
  | cons z ks ih =>
    intro σ H Q k
    refine ⟨by show 0 ≤ sizeLine; exact Nat.zero_le _, fun p hp => ?_⟩
    refine ih σ _ _ fun as H' hl nd hn hk => ?_
    have np : p ∉ as := fun q => by
      have := (hn p q).1
      rw [upd_same] at this
      cases this
    refine k (p :: as) H' (by rw [List.length_cons, List.length_cons, hl]) (List.nodup_cons.mpr ⟨np, nd⟩) (fun a ha => ?_) fun b hb => ?_
    · rcases List.mem_cons.mp ha with q | q
      · subst q
        exact ⟨hp, by rw [hk a np, upd_same]⟩
      · have n : a ≠ p := fun z => np (z ▸ q)
        obtain ⟨h1, h2⟩ := hn a q
        rw [upd_ne n] at h1
        exact ⟨h1, h2⟩
    · rw [List.mem_cons, not_or] at hb
      rw [hk b hb.2, upd_ne hb.1]
theorem Dst.laidAll {m : Nat} {γ : GL} (S : Dst B m G γ σ H) : ∀ {as : List Addr} {H' : Hp}, as.Nodup → (∀ a ∈ as, H a = none ∧ H' a = some (.lst [])) → (∀ b, b ∉ as → H' b = H b) → Dst B m G γ σ H' := by
  intro as
  induction as generalizing H with
  | nil =>
    intro H' _ _ h
    have e : H' = H := funext fun b => h b (by simp)
    rw [e]
    exact S
  | cons a as ih =>
    intro H' nd hn hk
    rw [List.nodup_cons] at nd
    have S1 := S.laid (o := .lst []) (fun _ z => nomatch z) (hn a List.mem_cons_self).1
    refine ih S1 nd.2 (fun b hb => ?_) fun b hb => ?_
    · have n : b ≠ a := fun z => nd.1 (z ▸ hb)
      rw [upd_ne n]
      exact hn b (List.mem_cons_of_mem _ hb)
    · by_cases z : b = a
      · subst z
        rw [upd_same]
        exact (hn b List.mem_cons_self).2
      · rw [upd_ne z]
        exact hk b (by rw [List.mem_cons, not_or]; exact ⟨z, hb⟩)
theorem s_ownL {i : Nat} {ks : List Str} (nd : ks.Nodup) (h15 : ks.length ≤ 15) (h : PS X st (tAsg (tDisp (ks.map fun k => (tC (.str k), tEmp))) (gName i))) : PS X st (tDS B (sOwnL i (ks.map .inr))) := ps_imp h fun De σ H ⟨G, γ, E, S, h, F⟩ p hp => by
  have S1 := S.laid (o := .dK []) (fun _ z => nomatch z) hp
  refine pairsL ks σ _ _ fun as H' hl nda hn hk => ?_
  have S2 := S1.laidAll nda hn hk
  have np : p ∉ as := fun z => by
    have := (hn p z).1
    rw [upd_same] at this
    cases this
  have hp2 : H' p = some (.dK []) := by rw [hk p np, upd_same]
  have h0 : B.H0 p = none := S.free0 hp
  have hg : G p = none := S.sub.free hp
  have ns : NoSlot γ.sl p := S.noslot hp
  have S3 := S2.offed (o := .dK (List.zipWith (fun k a => (Sum.inr k, V.ref a)) ks as)) (fun _ z => nomatch z) hg h0 ns
  have hz : ∀ {α β γ δ : Type} (f : α → β → γ) (g : γ → δ) (l : List α) (m : List β), (List.zipWith f l m).map g = List.zipWith (fun a b => g (f a b)) l m := by
    intro α β γ δ f g l m
    rw [List.map_zipWith]
  refine ⟨hp2, List.zipWith (fun k a => (Sum.inr k, V.ref a)) ks as, by rw [List.map_zipWith]; rfl, by rw [List.length_zipWith]; omega, ?_⟩
  have em : mergeK [] (List.zipWith (fun k a => (Sum.inr k, V.ref a)) ks as) = List.zipWith (fun k a => ((Sum.inr k : Key), V.ref a)) ks as := by
    have go : ∀ (ks : List Str) (as : List Addr) (acc : List (Key × V)), ks.Nodup → (∀ k ∈ ks, ∀ kv ∈ acc, kv.1 ≠ Sum.inr k) → mergeK acc (List.zipWith (fun k a => ((Sum.inr k : Key), V.ref a)) ks as) = acc ++ List.zipWith (fun k a => ((Sum.inr k : Key), V.ref a)) ks as := by
      intro ks
      induction ks with
      | nil => intro as acc _ _; simp [mergeK]
      | cons k ks ih =>
        intro as acc nd ha
        cases as with
        | nil => simp [mergeK]
        | cons a as =>
          rw [List.nodup_cons] at nd
          rw [List.zipWith_cons_cons]
          unfold mergeK
          rw [List.foldl_cons]
          have e1 : putK acc (Sum.inr k : Key) (V.ref a) = acc ++ [(Sum.inr k, V.ref a)] := by
            unfold putK
            rw [if_neg]
            rw [List.any_eq_true]
            rintro ⟨kv, h1, h2⟩
            exact ha k List.mem_cons_self kv h1 (of_decide_eq_true h2)
          have := ih as (acc ++ [(Sum.inr k, V.ref a)]) nd.2 (fun k' hk' kv hkv => by
            rcases List.mem_append.mp hkv with q | q
            · exact ha k' (List.mem_cons_of_mem _ hk') kv q
            · cases List.mem_singleton.mp q
              intro z
              cases z
              exact nd.1 hk')
          unfold mergeK at this
          dsimp only
          rw [e1, this, List.append_assoc]
          rfl
    have := go ks as [] nd (fun _ _ _ h => by cases h)
    rw [this]
    rfl
  rw [em]
  have q := h p as (by rw [List.length_map]; exact hl)
  rw [putS_eq] at q
  have eas : (mkL (ks.map .inr) as).map (fun k => k.2.1) = as := by
    unfold mkL
    rw [List.zipWith_map_left, List.map_zipWith]
    have : ∀ (l : List Str) (m : List Addr), m.length = l.length → List.zipWith (fun _ a => a) l m = m := by
      intro l
      induction l with
      | nil => intro m hm; cases m with
        | nil => rfl
        | cons _ _ => cases hm
      | cons _ l ih => intro m hm; cases m with
        | nil => rfl
        | cons a m => rw [List.zipWith_cons_cons, ih m (by simpa using hm)]
    exact this ks as hl
  have emem : ∀ k ∈ mkL (ks.map .inr) as, k.2.2 = [] ∧ k.2.1 ∈ as := by
    intro k hk
    have h2 : k.2.1 ∈ (mkL (ks.map .inr) as).map (fun k => k.2.1) := List.mem_map.mpr ⟨k, hk, rfl⟩
    rw [eas] at h2
    refine ⟨?_, h2⟩
    exact mkL_nil _ _ k hk
  refine F.nx _ _ _ _ q (Same.refl _) (slot_set S3 (v := .ref p) (s := .ownL p (mkL (ks.map .inr) as)) ⟨rfl, ?_, ?_, ?_⟩ ?_)
  · rw [upd_same]
    congr 2
    unfold mkL
    rw [List.zipWith_map_left, List.map_zipWith]
  · intro k hk
    obtain ⟨e, hm⟩ := emem k hk
    rw [e]
    have n : k.2.1 ≠ p := fun z => np (z ▸ hm)
    exact ⟨[], by rw [upd_ne n]; exact (hn _ hm).2, .nil⟩
  · rw [eas]
    exact List.nodup_cons.mpr ⟨np, nda⟩
  · intro a ha
    have ha : a ∈ p :: (mkL (ks.map .inr) as).map fun k => k.2.1 := ha
    rw [eas] at ha
    rcases List.mem_cons.mp ha with z | z
    · subst z; exact ⟨h0, hg, fun j t _ e => ns j t e⟩
    · have hx := (hn a z).1
      have n : a ≠ p := fun q => np (q ▸ z)
      rw [upd_ne n] at hx
      exact ⟨S.free0 hx, S.sub.free hx, fun j t _ e => S.noslot hx j t e⟩
/-- an entry's list is changed -/
def setL (key : Key) (cs : List D) : List (Key × (Addr × List D)) → List (Key × (Addr × List D))
  | [] => []
  | kv :: r => if keyEq kv.1 key then (kv.1, (kv.2.1, cs)) :: r else kv :: setL key cs r
def dMutL (i : Nat) (f : FM) (tk : DT) (ta : DA) : DT := fun γ R => (∃ p kvs, look γ i = .ownL p kvs) ∧ tk γ fun k γ1 => match look γ1 i, keyD k with
  | .ownL p kvs, some key => ∃ a ds, getK key kvs = some (a, ds) ∧ ta γ1 fun es γ2 => γ2.sl = γ1.sl ∧ f ds es fun c cs => R c (putS γ2 i (.ownL p (setL key cs kvs)))
  | _, _ => False
theorem getL_mem {key : Key} {a : Addr} {ds : List D} : ∀ {kvs : List (Key × (Addr × List D))}, getK key kvs = some (a, ds) → (key, (a, ds)) ∈ kvs ∧ valV (kvs.map fun k => (k.1, V.ref k.2.1)) key = some (.ref a)
  | [], h => by cases h
  | (k0, (a0, ds0)) :: r, h => by
    unfold getK at h
    dsimp only at h
    by_cases e : keyEq k0 key = true
    · rw [if_pos e] at h
      have e' := keyEq_iff.mp e
      have hh := Option.some.inj h
      cases hh
      refine ⟨by rw [← e']; exact List.mem_cons_self, ?_⟩
      rw [List.map_cons, valV_pos (p := (k0, V.ref a)) e']
    · rw [if_neg e] at h
      obtain ⟨h1, h2⟩ := getL_mem h
      refine ⟨List.mem_cons_of_mem _ h1, ?_⟩
      rw [List.map_cons, valV_neg (p := (k0, V.ref a0)) (fun q => e (keyEq_iff.mpr q))]
      exact h2
theorem setL_map {key : Key} {cs : List D} : ∀ (kvs : List (Key × (Addr × List D))), (setL key cs kvs).map (fun k => (k.1, k.2.1)) = kvs.map fun k => (k.1, k.2.1)
  | [] => rfl
  | kv :: r => by
    unfold setL
    split
    · rfl
    · rw [List.map_cons, List.map_cons, setL_map r]
theorem setL_mem {key : Key} {cs : List D} {a : Addr} {ds : List D} : ∀ {kvs : List (Key × (Addr × List D))}, getK key kvs = some (a, ds) → (kvs.map fun k => k.2.1).Nodup → ∀ k ∈ setL key cs kvs, (k.2 = (a, cs)) ∨ (k ∈ kvs ∧ k.2.1 ≠ a)
  | [], h, _, _, _ => by cases h
  | (k0, (a0, ds0)) :: r, h, nd, k, hk => by
    unfold getK at h
    unfold setL at hk
    rw [List.map_cons, List.nodup_cons] at nd
    dsimp only at h hk nd
    by_cases e : keyEq k0 key = true
    · rw [if_pos e] at h hk
      cases h
      rcases List.mem_cons.mp hk with z | z
      · left; rw [z]
      · right; exact ⟨List.mem_cons_of_mem _ z, fun q => nd.1 (by rw [← q]; exact List.mem_map.mpr ⟨k, z, rfl⟩)⟩
    · rw [if_neg e] at h hk
      rcases List.mem_cons.mp hk with z | z
      · right
        rw [z]
        refine ⟨List.mem_cons_self, fun q => nd.1 ?_⟩
        have q : a0 = a := q
        rw [q]
        exact List.mem_map.mpr ⟨_, (getL_mem h).1, rfl⟩
      · rcases setL_mem h nd.2 k z with q | ⟨q1, q2⟩
        · exact .inl q
        · exact .inr ⟨List.mem_cons_of_mem _ q1, q2⟩
theorem Dst.storeL {m : Nat} {γ : GL} (S : Dst B m G γ σ H) {i : Nat} {p a : Addr} {key : Key} {kvs : List (Key × (Addr × List D))} {ds cs : List D} {ws : List V} (h : γ[i]? = some (.ownL p kvs)) (hk : getK key kvs = some (a, ds)) (r : RpAll B.W G ws cs) : Dst B m G (γ.set i (.ownL p (setL key cs kvs))) σ (upd H a (.lst ws)) := by
  have ha : a ∈ kvs.map fun k => k.2.1 := List.mem_map.mpr ⟨_, (getL_mem hk).1, rfl⟩
  have e1 : (setL key cs kvs).map (fun k => k.2.1) = kvs.map fun k => k.2.1 := by
    have := congrArg (List.map Prod.snd) (setL_map (key := key) (cs := cs) kvs)
    rw [List.map_map, List.map_map] at this
    exact this
  have e2 : (setL key cs kvs).map (fun k => (k.1, V.ref k.2.1)) = kvs.map fun k => (k.1, V.ref k.2.1) := by
    have := congrArg (List.map fun q : Key × Addr => (q.1, V.ref q.2)) (setL_map (key := key) (cs := cs) kvs)
    rw [List.map_map, List.map_map] at this
    exact this
  refine S.restore h (List.mem_cons_of_mem _ ha) (fun _ z => nomatch z) (fun q hq => ?_) fun o0 _ q0 => ?_
  · have hq : q ∈ p :: (setL key cs kvs).map fun k => k.2.1 := hq
    rw [e1] at hq
    exact hq
  · obtain ⟨k1, k2, k3, k4⟩ := q0
    rw [List.nodup_cons] at k4
    have n : p ≠ a := fun z => k4.1 (by rw [z]; exact ha)
    refine ⟨k1, by rw [upd_ne n, e2]; exact k2, fun k hk' => ?_, by rw [e1]; exact List.nodup_cons.mpr k4⟩
    rcases setL_mem hk k4.2 k hk' with z | ⟨z1, z2⟩
    · rw [z]; exact ⟨ws, upd_same, r⟩
    · obtain ⟨us, x, y⟩ := k3 k z1
      exact ⟨us, by rw [upd_ne z2]; exact x, y⟩
theorem d_mutL {i : Nat} {f : FM} {tk : DT} {ta : DA} {r : V → List V → Hp → VK → Prop} (hr : OkM r f) (h : PE X e (tBM X.K "list" r (tDGet (tVar i) (tD B tk)) (tDA B ta))) : PE X e (tD B (dMutL i f tk ta)) := pe_imp h fun σ H Q ⟨G, γ, R, S, ⟨⟨p0, kvs0, hi⟩, h⟩, k⟩ => by
  obtain ⟨o, h1, h2, h3⟩ := S.slot i _ (look_get hi (fun z => nomatch z))
  subst h2
  refine ⟨_, h1, G, γ, _, S, h, fun kk γ1 G1 u H1 q s1 S1 r1 => ?_⟩
  split at q
  · rename_i p kvs key hi1 hk
    obtain ⟨a, ds, hget, q⟩ := q
    have hg := look_get hi1 (fun z => nomatch z)
    obtain ⟨o', k1, k2, k3, k4, k5⟩ := S1.slot i _ hg
    subst k2
    rw [h1] at k1
    cases k1
    obtain ⟨hm, hv⟩ := getL_mem hget
    obtain ⟨us, hus, ru⟩ := k4 _ hm
    refine ⟨p0, .ref a, rfl, ?_, .inl ⟨rfl, us, SqL.of hus⟩, G1, γ1, _, S1, q, fun es γ2 G2 xs H2 ⟨eγ, q2⟩ s2 S2 r2 => ?_⟩
    · rw [rp_key r1 hk, ← hv]
      exact DGet.k k3
    · have hg : γ2.sl[i]? = some (.ownL p0 kvs) := by rw [eγ]; exact hg
      obtain ⟨o2, m1, m2, m3, m4, m5⟩ := S2.slot i _ hg
      obtain ⟨us2, hus2, ru2⟩ := m4 _ hm
      have ha : a ∈ Sl.as (.ownL p0 kvs) := List.mem_cons_of_mem _ (List.mem_map.mpr ⟨_, hm, rfl⟩)
      exact hr B.W G2 H2 a us2 xs ds es _ _ S2.sub hus2 (S2.off i _ a hg ha).2 ru2 r2 q2 fun c v ws cs hR rv rw' => k _ (putS γ2 i (.ownL p0 (setL key cs kvs))) _ _ _ hR (s1.trans s2) (by rw [putS_eq]; exact S2.storeL hg hget rw') rv
  · exact q.elim
theorem d_mutL0 {i : Nat} {f : FM} {tk : DT} {r : V → List V → Hp → VK → Prop} (hr : OkM r f) (h : PE X e (tBM0 X.K "list" r (tDGet (tVar i) (tD B tk)))) : PE X e (tD B (dMutL i f tk aNil)) := pe_imp h fun σ H Q ⟨G, γ, R, S, ⟨⟨p0, kvs0, hi⟩, h⟩, k⟩ => by
  obtain ⟨o, h1, h2, h3⟩ := S.slot i _ (look_get hi (fun z => nomatch z))
  subst h2
  refine ⟨_, h1, G, γ, _, S, h, fun kk γ1 G1 u H1 q s1 S1 r1 => ?_⟩
  split at q
  · rename_i p kvs key hi1 hk
    obtain ⟨a, ds, hget, ⟨_, q2⟩⟩ := q
    have hg := look_get hi1 (fun z => nomatch z)
    obtain ⟨o', k1, k2, k3, k4, k5⟩ := S1.slot i _ hg
    subst k2
    rw [h1] at k1
    cases k1
    obtain ⟨hm, hv⟩ := getL_mem hget
    obtain ⟨us, hus, ru⟩ := k4 _ hm
    refine ⟨p0, .ref a, rfl, ?_, .inl ⟨rfl, us, SqL.of hus⟩, ?_⟩
    · rw [rp_key r1 hk, ← hv]
      exact DGet.k k3
    · have ha : a ∈ Sl.as (.ownL p0 kvs) := List.mem_cons_of_mem _ (List.mem_map.mpr ⟨_, hm, rfl⟩)
      exact hr B.W G1 H1 a us [] ds [] _ _ S1.sub hus (S1.off i _ a hg ha).2 ru .nil q2 fun c v ws cs hR rv rw' => k _ (putS γ1 i (.ownL p0 (setL key cs kvs))) _ _ _ hR s1 (by rw [putS_eq]; exact S1.storeL hg hget rw') rv
  · exact q.elim
/-! ### repr of data of built-in kinds -/
def reprF : FC := fun ds R => match ds with
  | [.tup xs] => showOk (.tup xs) ∧ R (.str (shownD (.tup xs)))
  | [.lst xs] => showOk (.lst xs) ∧ R (.str (shownD (.lst xs)))
  | _ => False
theorem ok_repr (hK : X.K = B.K) : OkRC B (PH.rRepr X.K) reprF := by
  intro G γ σ H vs ds R Q S r h k
  rw [hK]
  unfold reprF at h
  split at h
  · obtain ⟨⟨h1, h2, h3, h4, h5⟩, h⟩ := h
    cases r with
    | cons r1 r2 =>
      cases r2
      have hp := py_of S.sub r1 h1
      have fin := k _ _ _ _ h (Same.refl _) S (.str _)
      cases r1 with
      | tup hs ra => exact ⟨_, _, rfl, hp, h2, h3, h4, sz_ok h5, fin⟩
  · obtain ⟨⟨h1, h2, h3, h4, h5⟩, h⟩ := h
    cases r with
    | cons r1 r2 =>
      cases r2
      have hp := py_of S.sub r1 h1
      have fin := k _ _ _ _ h (Same.refl _) S (.str _)
      cases r1 with
      | lst hs ra => exact ⟨_, _, rfl, hp, h2, h3, h4, sz_ok h5, fin⟩
  · exact h.elim
end
end EL
namespace EL
open PySem PySem.Spec PyProof.Rows L2
/-! ### isinstance of a built-in class -/
def isiB (T : String) : FC := fun ds R => ∃ d, ds = [d, .opq (.ty T)] ∧ isiF T [d, .non] R
theorem ok_isi {X : Cx} {B : Bs} {T : String} (hK : X.K = B.K) (hk : ∀ n ∈ ["NoneType", "bool", "int", "str", "tuple", "list", "dict"], kitB n T = some (tyIs T n)) : OkRC B (rIsiB X.K T) (isiB T) := by
  intro G γ σ H vs ds R Q S r ⟨d, e, h⟩ k
  subst e
  cases r with
  | cons r1 r2 =>
    cases r2 with
    | cons r2 r3 =>
      cases r3
      cases r2
      exact ok_isiB (vs := []) (ds := []) hK hk G γ σ H S r1 h k
theorem kt_str : ∀ n ∈ ["NoneType", "bool", "int", "str", "tuple", "list", "dict"], kitB n "str" = some (tyIs "str" n) := by decide +kernel
theorem kt_int : ∀ n ∈ ["NoneType", "bool", "int", "str", "tuple", "list", "dict"], kitB n "int" = some (tyIs "int" n) := by decide +kernel
theorem kt_bool : ∀ n ∈ ["NoneType", "bool", "int", "str", "tuple", "list", "dict"], kitB n "bool" = some (tyIs "bool" n) := by decide +kernel
theorem kt_tuple : ∀ n ∈ ["NoneType", "bool", "int", "str", "tuple", "list", "dict"], kitB n "tuple" = some (tyIs "tuple" n) := by decide +kernel
theorem kt_list : ∀ n ∈ ["NoneType", "bool", "int", "str", "tuple", "list", "dict"], kitB n "list" = some (tyIs "list" n) := by decide +kernel
theorem kt_dict : ∀ n ∈ ["NoneType", "bool", "int", "str", "tuple", "list", "dict"], kitB n "dict" = some (tyIs "dict" n) := by decide +kernel
/-! ### loops -/
theorem for_inv {b : BdT} {s : DS} {E : DEnds} (Inv : Gm → Prop) (fin : ∀ γ, Inv γ → E.nx γ)
    (step : ∀ d ds γ, Inv γ → (∀ γ', Inv γ' → forD b s E ds γ') → b d γ fun γ1 => s { nx := forD b s E ds, ct := forD b s E ds, bk := E.nx, rt := E.rt } γ1) : ∀ ds γ, Inv γ → forD b s E ds γ
  | [], γ, h => fin γ h
  | d :: ds, γ, h => step d ds γ h fun γ' h' => for_inv Inv fin step ds γ' h'
/-- the invariant speaks of what is left -/
theorem for_invL {b : BdT} {s : DS} {E : DEnds} (Inv : List D → Gm → Prop) (fin : ∀ γ, Inv [] γ → E.nx γ)
    (step : ∀ d ds γ, Inv (d :: ds) γ → (∀ γ', Inv ds γ' → forD b s E ds γ') → b d γ fun γ1 => s { nx := forD b s E ds, ct := forD b s E ds, bk := E.nx, rt := E.rt } γ1) : ∀ ds γ, Inv ds γ → forD b s E ds γ
  | [], γ, h => fin γ h
  | d :: ds, γ, h => step d ds γ h fun γ' h' => for_invL Inv fin step ds γ' h'
/-- over the numbers lo, lo + 1, .. -/
theorem for_rng {b : BdT} {s : DS} {E : DEnds} {lo : Int} {n : Nat} (Inv : Nat → Gm → Prop) (fin : ∀ γ, Inv n γ → E.nx γ)
    (step : ∀ i ds γ, i < n → Inv i γ → (∀ γ', Inv (i + 1) γ' → forD b s E ds γ') → b (.int (lo + (i : Nat))) γ fun γ1 => s { nx := forD b s E ds, ct := forD b s E ds, bk := E.nx, rt := E.rt } γ1) : ∀ γ, Inv 0 γ → forD b s E (rngD lo n) γ := by
  have go : ∀ k i γ, i + k = n → Inv i γ → forD b s E (((List.range n).drop i).map fun k : Nat => .int (lo + k)) γ := by
    intro k
    induction k with
    | zero =>
      intro i γ h hI
      have e : i = n := by omega
      subst e
      rw [List.drop_eq_nil_of_le (by simp)]
      exact fin γ hI
    | succ k ih =>
      intro i γ h hI
      have hi : i < n := by omega
      have e : (List.range n).drop i = i :: (List.range n).drop (i + 1) := by simp [List.drop_eq_getElem_cons, hi]
      rw [e]
      exact step i _ γ hi hI fun γ' h' => ih (i + 1) γ' (by omega) h'
  intro γ h
  have := go n 0 γ (by omega) h
  exact this
/-- over the items of a mapped list, with what is done and what is left -/
theorem for_at {α : Type} (F : α → D) {b : BdT} {s : DS} {E : DEnds} (L : List α) (Inv : Nat → Gm → Prop) (fin : ∀ γ, Inv L.length γ → E.nx γ)
    (step : ∀ i x ds γ, L[i]? = some x → Inv i γ → (∀ γ', Inv (i + 1) γ' → forD b s E ds γ') → b (F x) γ fun γ1 => s { nx := forD b s E ds, ct := forD b s E ds, bk := E.nx, rt := E.rt } γ1) : ∀ γ, Inv 0 γ → forD b s E (L.map F) γ := by
  have go : ∀ k i γ, i + k = L.length → Inv i γ → forD b s E ((L.drop i).map F) γ := by
    intro k
    induction k with
    | zero =>
      intro i γ h hI
      have e : i = L.length := by omega
      subst e
      rw [List.drop_length]
      exact fin γ hI
    | succ k ih =>
      intro i γ h hI
      have hi : i < L.length := by omega
      rw [List.drop_eq_getElem_cons hi]
      exact step i _ _ γ (List.getElem?_eq_getElem hi) hI fun γ' h' => ih (i + 1) γ' (by omega) h'
  intro γ h
  exact go L.length 0 γ (by omega) h
/-- a comprehension whose every item comes to one thing, the slots being the same at every turn -/
theorem lc_map {α : Type} {bd : BdT} {tt : DB} {te : DT} {vs : List Nat} {γ0 : Gm} (F : α → D) (g : α → D) (hw : wipeS γ0 vs = γ0) (L0 : List α)
    (step : ∀ x ∈ L0, ∀ R : D → Gm → Prop, (∀ γ', wipeS γ' vs = γ0 → R (g x) γ') → bd (F x) γ0 fun γ2 => tt γ2 fun p γ3 => (p → te γ3 R) ∧ (¬p → False)) :
    (∀ d γ R R', (∀ γ', R γ' → R' γ') → bd d γ R → bd d γ R') → (∀ γ R R', (∀ p γ', R p γ' → R' p γ') → tt γ R → tt γ R') →
    ∀ (L : List α) (acc : List D) (R : List D → Gm → Prop), (∀ x ∈ L, x ∈ L0) → R (acc ++ L.map g) γ0 → lcD bd tt te vs (L.map F) acc γ0 R := by
  intro mb mt L
  induction L with
  | nil =>
    intro acc R _ h
    show R acc (wipeS γ0 vs)
    rw [hw]
    simpa using h
  | cons x L ih =>
    intro acc R hL h
    have := step x (hL x List.mem_cons_self) (fun c γ4 => lcD bd tt te vs (L.map F) (acc ++ [c]) (wipeS γ4 vs) R) fun γ' e => by
      rw [e]
      exact ih (acc ++ [g x]) R (fun y hy => hL y (List.mem_cons_of_mem _ hy)) (by simpa using h)
    exact mb _ _ _ _ (fun γ2 h2 => mt _ _ _ (fun p γ3 h3 => ⟨h3.1, fun n => (h3.2 n).elim⟩) h2) this
/-- with what is known of the elements alone -/
theorem lc_inv {bd : BdT} {tt : DB} {te : DT} {vs : List Nat} (Inv : List D → List D → Gm → Prop) {R : List D → Gm → Prop} (fin : ∀ acc γ, Inv [] acc γ → R acc (wipeS γ vs))
    (step : ∀ d ds acc γ, Inv (d :: ds) acc γ → (∀ acc' γ', Inv ds acc' γ' → lcD bd tt te vs ds acc' γ' R) →
      bd d γ fun γ2 => tt γ2 fun p γ3 => (p → te γ3 fun c γ4 => lcD bd tt te vs ds (acc ++ [c]) (wipeS γ4 vs) R) ∧ (¬p → lcD bd tt te vs ds acc (wipeS γ3 vs) R)) :
    ∀ ds acc γ, Inv ds acc γ → lcD bd tt te vs ds acc γ R
  | [], acc, γ, h => fin acc γ h
  | d :: ds, acc, γ, h => step d ds acc γ h fun acc' γ' h' => lc_inv Inv fin step ds acc' γ' h'
/-! ### from some point of a def on -/
def tDSx (K : PySem.W.Frag) (cl : Nat → Option (Addr × List Str)) (DkF : Nat → Hp → Addr → Addr → Prop) (s : DS) : TS := fun De σ H => (∀ m, DkLaw (DkF m)) ∧ (∀ m m' H d c, m ≤ m' → DkF m H d c → DkF m' H d c) ∧ ∃ dk H0 G0, tDS ⟨⟨dk, cl, K⟩, DkF, H0, G0, noX, fun _ _ _ => True, 2 ^ 50⟩ s De σ H
theorem ss_x {X : Cx} {K : PySem.W.Frag} {cl : Nat → Option (Addr × List Str)} {DkF : Nat → Hp → Addr → Addr → Prop} {st : List Stmt} {s : DS} (h : ∀ dk H0 G0, DkK ⟨⟨dk, cl, K⟩, DkF, H0, G0, noX, fun _ _ _ => True, 2 ^ 50⟩ DkF → PSs X st (tDS ⟨⟨dk, cl, K⟩, DkF, H0, G0, noX, fun _ _ _ => True, 2 ^ 50⟩ s)) : PSs X st (tDSx K cl DkF s) :=
  ⟨fun pins s σ H De I ⟨L, up, dk, H0, G0, q⟩ => (h dk H0 G0 ⟨⟨0, by simp, by simp⟩, L, up⟩).run pins s σ H De I q⟩
/-- all that is tracked but the deck's two objects -/
def noDk (H : Hp) (d c : Addr) : Hp := fun b => if b = d ∨ b = c then none else H b
theorem deck_in {K : PySem.W.Frag} {cl : Nat → Option (Addr × List Str)} {DkAt : Nat → Hp → Addr → Addr → Prop} {m : Nat} {H : Hp} {d c : Addr} {γ : GL} {σ : L2.St} {xc : Nat → List D → Prop} {E : XK} {cost : Nat} (L : ∀ m, DkLaw (DkAt m)) (up : ∀ m m' H d c, m ≤ m' → DkAt m H d c → DkAt m' H d c) (hk : DkAt m H d c) (hm : m ≤ cost) (hl : σ.length = γ.length)
    (hs : ∀ (i : Nat) s, γ[i]? = some s → s = .un ∨ (s = .fz .dk ∧ σ[i]? = some (some (.ref d)))) : Dst ⟨⟨some (d, c), cl, K⟩, DkAt, H, noDk H d c, xc, E, cost⟩ m (noDk H d c) γ σ H where
  law := L
  le := hm
  up := up
  sub := fun b o e => by
    unfold noDk at e
    split at e
    · cases e
    · exact e
  sub0 := Same.refl _
  kept := Kp.refl
  fresh := fun _ _ h => h
  tups := fun p xs e => by
    unfold noDk
    obtain ⟨h1, h2⟩ := (L _).tup _ _ _ hk
    rw [if_neg]
    · exact e
    · rintro (z | z)
      · exact h1 xs (z ▸ e)
      · exact h2 xs (z ▸ e)
  dkok := fun d' c' e => by
    cases e
    obtain ⟨t1, t2⟩ := (L _).there _ _ _ hk
    exact ⟨hk, t1, t2, if_pos (.inl rfl), if_pos (.inr rfl)⟩
  len := hl
  slot := fun i s e => by
    have l : i < σ.length := by rw [hl]; exact (List.getElem?_eq_some_iff.mp e).1
    rcases hs i s e with rfl | ⟨rfl, h⟩
    · exact ⟨σ[i], List.getElem?_eq_getElem l, trivial⟩
    · exact ⟨_, h, _, rfl, .dk rfl⟩
  off := fun i s p e hp => by
    rcases hs i s e with z | ⟨z, _⟩ <;> (subst z; cases hp)
  nd := fun i j p s t e _ hp _ => by
    rcases hs i s e with z | ⟨z, _⟩ <;> (subst z; cases hp)
/-! ### a promise by addresses that tells a single value, of a deck and ints -/
structure Cv (K : PySem.W.Frag) (cl : Nat → Option (Addr × List Str)) (DkF : Nat → Hp → Addr → Addr → Prop) (m c : Nat) (dk : Option (Addr × Addr)) (G H : Hp) (R : D → Prop) (Q : VK) : Prop where
  hm : m + c ≤ 2 ^ 50
  L : ∀ m, DkLaw (DkF m)
  up : ∀ m m' H d c, m ≤ m' → DkF m H d c → DkF m' H d c
  hd : ∀ d c, dk = some (d, c) → DkF m H d c ∧ G d = none ∧ G c = none
  sm : Same G H
  tu : ∀ p xs, H p = some (.tup xs) → G p = some (.tup xs)
  k : ∀ d v G' H', R d → Same G G' → Same G' H' → (∀ p xs, H' p = some (.tup xs) → G' p = some (.tup xs)) → (∀ p, H p ≠ none → G p = none → G' p = none) → Kp ⟨dk, cl, K⟩ H H' → (∀ d e, dk = some (d, e) → DkF (m + c) H' d e) → Rp ⟨dk, cl, K⟩ G' v d → Q v H'
theorem spD_cv {K : PySem.W.Frag} {cl : Nat → Option (Addr × List Str)} {DkF : Nat → Hp → Addr → Addr → Prop} {c n : Nat} {F : FD} {vs : List V} {H : Hp} {Q : VK} {E : XK} (h : spD K cl DkF c n F vs H Q E) : ∃ m dk G ds R xc, Cv K cl DkF m c dk G H R Q ∧ RpAll ⟨dk, cl, K⟩ G vs ds ∧ ds.length = n ∧ F ds R xc := by
  obtain ⟨m, dk, G, ds, R, xc, hm, L, up, hd, sm, tu, r, hl, hF, k, _⟩ := h
  exact ⟨m, dk, G, ds, R, xc, ⟨hm, L, up, hd, sm, tu, k⟩, r, hl, hF⟩
/-- with all the tuples of a greater heap -/
def upT (G H : Hp) : Hp := fun b => match H b with
  | some (.tup xs) => some (.tup xs)
  | _ => G b
theorem upT_tup {G H : Hp} {q : Addr} {xs : List V} (h : H q = some (.tup xs)) : upT G H q = some (.tup xs) := by unfold upT; rw [h]
theorem upT_other {G H : Hp} {q : Addr} (h : ∀ xs, H q ≠ some (.tup xs)) : upT G H q = G q := by
  unfold upT
  cases e : H q with
  | none => rfl
  | some o => cases o <;> first | rfl | exact absurd e (h _)
/-- the answer is a single value; but the deck all is as it was -/
theorem Cv.valD {K : PySem.W.Frag} {cl : Nat → Option (Addr × List Str)} {DkAt : Nat → Hp → Addr → Addr → Prop} {m n : Nat} {dk : Option (Addr × Addr)} {G H H' : Hp} {R : D → Prop} {Q : VK} {d : D} {v : V} (c : Cv K cl DkAt m n dk G H R Q) (hR : R d) (r : Rp ⟨dk, cl, K⟩ G v d) (s : Kp ⟨dk, cl, K⟩ H H') (hd : ∀ d e, dk = some (d, e) → DkAt (m + n) H' d e) : Q v H' := by
  have nd : ∀ b, G b ≠ none → ∀ d c, dk = some (d, c) → b ≠ d ∧ b ≠ c := fun b hb d' c' e => by
    obtain ⟨_, h1, h2⟩ := c.hd d' c' e
    exact ⟨fun z => hb (by rw [z]; exact h1), fun z => hb (by rw [z]; exact h2)⟩
  have gh : Same G H' := fun b o e => s b o (c.sm b o e) (nd b (by rw [e]; exact fun z => nomatch z))
  have sg : Same G (upT G H') := fun b o e => by
    by_cases z : ∃ xs, H' b = some (.tup xs)
    · obtain ⟨xs, z⟩ := z
      rw [upT_tup z]
      have := gh b o e
      rw [z] at this
      exact this
    · rw [upT_other fun xs q => z ⟨xs, q⟩]
      exact e
  refine c.k d v (upT G H') H' hR sg (fun b o e => ?_) (fun p xs e => upT_tup e) (fun p h0 h1 => ?_) s hd (r.mono sg)
  · by_cases z : ∃ xs, H' b = some (.tup xs)
    · obtain ⟨xs, z⟩ := z
      rw [upT_tup z] at e
      rw [z]; exact e
    · rw [upT_other fun xs q => z ⟨xs, q⟩] at e
      exact gh b o e
  · by_cases z : ∃ xs, H' p = some (.tup xs)
    · obtain ⟨xs, z⟩ := z
      exfalso
      cases q : H p with
      | none => exact h0 q
      | some o =>
        by_cases w : ∀ d c, dk = some (d, c) → p ≠ d ∧ p ≠ c
        · have := s p o q w
          rw [z] at this
          cases this
          rw [c.tu p xs q] at h1
          cases h1
        · apply w
          intro d' c' e
          obtain ⟨h2, h3⟩ := (c.L _).tup _ _ _ (hd d' c' e)
          exact ⟨fun q => h2 xs (by rw [← q]; exact z), fun q => h3 xs (by rw [← q]; exact z)⟩
    · rw [upT_other fun xs q => z ⟨xs, q⟩]
      exact h1
end EL
namespace EL
open PySem PySem.Spec PyProof.Rows L2
/-! ### displays of dicts, for a script that writes them -/
structure PPd (X : Cx) (B : Bs) (pos : Pos) (keys : List (Option Expr)) (values : List Expr) (ts : List (DT × DT)) : Prop where
  h : PPs X pos keys values (tDP B ts)
theorem dp_nil {X : Cx} {B : Bs} {pos : Pos} : PPd X B pos [] [] [] := ⟨pps_nil⟩
theorem dp_cons {X : Cx} {B : Bs} {pos : Pos} {k v : Expr} {ks : List (Option Expr)} {vs : List Expr} {tk tv : DT} {ts : List (DT × DT)} (hk : ∀ H0, PE X k (tD (withH B H0) tk)) (hv : ∀ H0, PE X v (tD (withH B H0) tv)) (hr : PPd X B pos ks vs ts) : PPd X B pos (some k :: ks) (v :: vs) ((tk, tv) :: ts) :=
  ⟨pps_cons (dx hk) (dx hv) hr.h⟩
theorem f_dispP {X : Cx} {B : Bs} {pos : Pos} {keys : List (Option Expr)} {values : List Expr} {ts : List (DT × DT)} (h : PPd X B pos keys values ts) (h15 : ts.length ≤ 15 := by decide) (hall : keys.all (·.isSome) = true := by rfl) (hl : keys.length = values.length := by rfl) (h0 : keys ≠ [] := by exact fun z => by cases z)
    (h15' : keys.length ≤ 15 := by decide) : PE X (.Dict keys values pos) (tDFd B (fDisp ts)) := f_disp h15 (pe_disp h.h hall hl h0 h15')
section
variable {X : Cx} {k : Nat} {f : Addr} {fd : FuncData} {ps : List Str} {sp : Sp} {x : Str} {p pos : Pos}
theorem pe_callG0 (F : PH.FnG X.prog X.w X.K X.mg X.base CX0 k f fd ps sp) (hgu : X.A.guards = some []) (hr : Room k X.A) (hg : Gl X x) (hm : X.mg x = some (.ref f))
    (hk : PySem.W.keepIn X.K (.ref f) = true) (hb : Binds X.K fd ps []) (hdb : (x == ("__debug__" : Str)) = false := by decide) :
    PE X (.Call (.Name x p) [] [] pos) (tCall sp [] E0 tNil) := by
  constructor
  intro pins s σ H Q I h
  refine wpAny_Call_Name_kw (ld_glob I hg hm (PySem.W.callWith_K0 I.kIn hk ?_) hdb)
  have q : sp [] H Q E0 := h
  have hl := F.len _ _ _ _ q
  have hb' := hb s [] I.kIn (by simpa using hl)
  rw [List.append_nil] at hb'
  refine wpAny_call (codeAny_mono (F.run X.A X.stack s H ⟨[], []⟩ [] [] Q E0 hgu hr I.env0 hb' .nil q) ?_)
  intro r' s' hq
  match r', hq with
  | .error _, hq => exact hq.elim
  | .ok (.ret _), hq => exact I.after hq
  | .ok .next, hq => exact hq.elim
  | .ok .brk, hq => exact hq.elim
  | .ok .cont, hq => exact hq.elim
end
end EL
namespace EL
open PySem PySem.Spec PyProof.Rows L2
/-- a comprehension that draws nothing: each thing is kept or left out, by a truth, and comes to g -/
theorem lc_filt {α : Type} {bd : BdT} {tt : DB} {te : DT} {vs : List Nat} {γ0 : Gm} (F : α → D) (g : α → D) (kp : α → Bool) (L0 : List α)
    (step : ∀ x ∈ L0, ∀ (R : D → Gm → Prop) (R' : Gm → Prop), (kp x = true → ∀ γ', wipeS γ' vs = γ0 → R (g x) γ') → (kp x = false → ∀ γ', wipeS γ' vs = γ0 → R' γ') →
      bd (F x) γ0 fun γ2 => tt γ2 fun p γ3 => (p → te γ3 R) ∧ (¬p → R' γ3)) :
    ∀ (L : List α) (acc : List D) (R : List D → Gm → Prop), (∀ x ∈ L, x ∈ L0) → R (acc ++ (L.filter kp).map g) (wipeS γ0 vs) → lcD bd tt te vs (L.map F) acc γ0 R := by
  intro L
  induction L with
  | nil =>
    intro acc R _ h
    show R acc (wipeS γ0 vs)
    rw [List.filter_nil, List.map_nil, List.append_nil] at h
    exact h
  | cons x L ih =>
    intro acc R hL h
    refine step x (hL x List.mem_cons_self) _ _ (fun hk γ' hw => ?_) (fun hk γ' hw => ?_)
    · show lcD bd tt te vs (L.map F) (acc ++ [g x]) (wipeS γ' vs) R
      rw [hw]
      refine ih _ _ (fun y hy => hL y (List.mem_cons_of_mem _ hy)) ?_
      rw [List.filter_cons_of_pos hk, List.map_cons] at h
      rw [List.append_assoc]
      exact h
    · show lcD bd tt te vs (L.map F) acc (wipeS γ' vs) R
      rw [hw]
      refine ih _ _ (fun y hy => hL y (List.mem_cons_of_mem _ hy)) ?_
      rw [List.filter_cons_of_neg (by simp [hk])] at h
      exact h
theorem sIx_nat (n : Nat) (d : Nat) (k : Nat) : HT.sIx n d (some (k : Int)) = min k n := by
  unfold HT.sIx
  dsimp only
  rw [if_neg (by omega), Int.toNat_natCast]
theorem cutD_from {ds : List D} (k : Nat) : cutD ds (some (k : Int)) none = ds.drop k := by
  unfold cutD
  rw [sIx_nat]
  show List.take (ds.length - min k ds.length) (ds.drop (min k ds.length)) = _
  rw [List.take_of_length_le (by rw [List.length_drop]; exact Nat.le_refl _)]
  by_cases h : k ≤ ds.length
  · rw [Nat.min_eq_left h]
  · rw [Nat.min_eq_right (by omega), List.drop_length, List.drop_of_length_le (by omega)]
theorem cutD_to {ds : List D} (k : Nat) : cutD ds none (some (k : Int)) = ds.take k := by
  unfold cutD
  rw [sIx_nat]
  show List.take (min k ds.length - 0) ds = _
  rw [Nat.sub_zero]
  by_cases h : k ≤ ds.length
  · rw [Nat.min_eq_left h]
  · rw [Nat.min_eq_right (by omega), List.take_length, List.take_of_length_le (by omega)]
theorem cutD_2 {a b : D} {ps : List D} : cutD (a :: b :: ps) (some 2) none = ps := cutD_from 2
theorem cutD_at {ds : List D} (a b : Nat) : cutD ds (some (a : Int)) (some (b : Int)) = (ds.drop a).take (b - a) := by
  unfold cutD
  rw [sIx_nat, sIx_nat]
  by_cases h : a ≤ ds.length
  · rw [Nat.min_eq_left h]
    by_cases h2 : b ≤ ds.length
    · rw [Nat.min_eq_left h2]
    · rw [Nat.min_eq_right (by omega), List.take_of_length_le (by rw [List.length_drop]; omega), List.take_of_length_le (by rw [List.length_drop]; omega)]
  · rw [Nat.min_eq_right (show ds.length ≤ a by omega), List.drop_length, List.drop_of_length_le (by omega), List.take_nil, List.take_nil]
theorem at_nat {α : Type} (ds : List α) (k : Nat) (c : α) (h : ds[k]? = some c) : atI ds (k : Int) = some c := by
  have hk := (List.getElem?_eq_some_iff.mp h).1
  unfold atI ixN
  rw [if_pos (by omega), if_pos (by omega), Int.toNat_natCast]
  exact h
theorem at_0 {α : Type} {a : α} {ps : List α} : atI (a :: ps) 0 = some a := at_nat _ 0 _ rfl
theorem at_1 {α : Type} {a b : α} {ps : List α} : atI (a :: b :: ps) 1 = some b := at_nat _ 1 _ rfl
theorem at_int {α : Type} (ds : List α) (i : Int) (c : α) (h0 : 0 ≤ i) (h : ds[i.toNat]? = some c) : atI ds i = some c := by
  have := at_nat ds i.toNat c h
  rwa [Int.toNat_of_nonneg h0] at this
theorem rngC_down (n : Nat) : rngC (((n + 1 : Nat) : Int) - 1) (-1) (n + 1) = .int (n : Int) :: rngC ((n : Int) - 1) (-1) n := by
  unfold rngC
  rw [List.range_succ_eq_map, List.map_cons, List.map_map]
  congr 1
  · congr 1; omega
  · refine List.map_congr_left fun k _ => ?_
    show D.int _ = D.int _
    congr 1
    rw [Nat.succ_eq_add_one]
    omega
end EL
namespace EL
open PySem PySem.Spec PyProof.Rows L2 HT
section
variable {pr : Program} {wd : World} {Ar : Around} {Ex : Value → Shared → Prop} {sh : Shared}
theorem back_adjust (n : Nat) : Builtin.Slice.sliceAdjust none none (-1) (n : Int) = ((n : Int) - 1, -1) := by
  unfold Builtin.Slice.sliceAdjust
  have h1 : ((-1 : Int) < 0) := by decide
  simp only [h1, if_true]
theorem back_places (n : Nat) : Builtin.Slice.slicePlaces ((n : Int) - 1) (-1) (-1) = n := by
  unfold Builtin.Slice.slicePlaces
  have h1 : ¬ ((-1 : Int) > 0) := by decide
  simp only [h1, if_false]
  rw [show (- -1 : Int) = 1 by decide, Int.ediv_one]
  split <;> omega
theorem back_pick (xs : Array Value) : ((List.range xs.size).filterMap fun (m : Nat) => xs[(((xs.size : Int) - 1) + (m : Int) * (-1)).toNat]?).toArray = xs.toList.reverse.toArray := by
  have e : (fun (m : Nat) => xs[(((xs.size : Int) - 1) + (m : Int) * (-1)).toNat]?) = fun m => xs[xs.size - 1 - m]? := by
    funext m
    congr 1
    omega
  rw [e]
  have h := PySem.W.krv_range xs.size
  have h2 := PySem.W.krv_all xs
  have : (List.range xs.size).filterMap (fun m => xs[xs.size - 1 - m]?) = ((List.range xs.size).map (fun k => xs.size - 1 - k)).filterMap (xs[·]?) := by rw [List.filterMap_map]; rfl
  rw [this, h, List.filterMap_reverse, h2]
theorem back_applied {b : Addr} {x : Value} {n : Nat} {Q : Int × Int × Nat → Shared → Prop} (hs : sh.heap.IsSliceOf b .none .none x) (px : IsPart x (some (-1)))
    (h : Q ((n : Int) - 1, -1, n) sh) : wpAny (model pr wd) Ar (Builtin.Slice.sliceApplied (.ref b) (pure (n : Int))) Q Ex sh := by
  obtain ⟨ob, h1, h2, h3⟩ := id hs
  unfold Builtin.Slice.sliceApplied Builtin.Slice.sliceFields
  refine wpAny_bind (wpAny_bind (wpAny_field h1 h3 (x := .none) rfl (wpAny_bind (wpAny_field h1 h3 (x := .none) rfl (wpAny_bind (wpAny_field h1 h3 (x := x) rfl (wpAny_pure ?_)))))))
  refine wpAny_bind (slicePart_ px ?_)
  show wpAny _ _ (if ((-1 : Int) == 0) = true then _ else _) _ _ sh
  rw [if_neg (by decide)]
  refine wpAny_bind (slicePart_none (wpAny_bind (slicePart_none (wpAny_bind (wpAny_pure ?_)))))
  show wpAny _ _ (match Builtin.Slice.sliceAdjust none none (-1) (n : Int) with | (lo, hi) => pure (lo, (-1 : Int), Builtin.Slice.slicePlaces lo hi (-1))) _ _ sh
  rw [back_adjust]
  show wpAny _ _ (pure ((n : Int) - 1, (-1 : Int), Builtin.Slice.slicePlaces ((n : Int) - 1) (-1) (-1))) _ _ sh
  rw [back_places]
  exact wpAny_pure h
theorem back_item {t b : Addr} {items : Array Value} {x : Value} {Q : Value → Shared → Prop} (ht : IsTup sh.heap t items) (hs : sh.heap.IsSliceOf b .none .none x) (px : IsPart x (some (-1)))
    (h : Q (.ref sh.heap.objs.size) { sh with heap := sh.heap.push { cls := .type "tuple", data := .seq items.toList.reverse.toArray } }) (hz : items.size ≤ sizeLine) : wpAny (model pr wd) Ar (getItem (.ref t) (.ref b)) Q Ex sh := by
  have hfit : sizeOk (.seq items.toList.reverse.toArray) := by
    show items.toList.reverse.toArray.size ≤ sizeLine
    simpa using hz
  obtain ⟨ob, h1, h2, h3⟩ := id hs
  have hT : sh.TypeIs (.ref b) "slice" := ⟨ob, h1, h2⟩
  unfold getItem
  (try with_reducible refine wpAny_holding ?_); (first | refine wpAny_bind (wpAny_pure ?_) | skip); refine wpAny_bind (wpAny_sequenceKey ht.typeIs (by decide) ?_)
  refine wpAny_bind (wpAny_callSpecial?_slot (name := Str.ofString "__getitem__") ht.typeIs slot_tuple_getitem (wpAny_call_entry slot_tuple_getitem ht.typeIs entry_tuple_getitem ?_ (args_tuple_getitem _ _)))
  show wpAny _ _ (Builtin.Tuple.tupleItemsOf (.ref t) >>= _) _ _ sh
  refine wpAny_bind (tupleItemsOf_ ht ?_)
  refine wpAny_bind (wpAny_typeOf hT ?_)
  rw [if_pos (by decide)]
  refine wpAny_bind (back_applied hs px ?_)
  show wpAny _ _ (if (((items.size : Int) - 1) == 0 && (-1 : Int) == 1 && items.size == items.size) = true then _ else _) _ _ sh
  rw [if_neg (by simp), back_pick]
  first
    | exact wpAny_bind (m := Builtin.Tuple.tupleExact _) (wpAny_newObj_type (wpAny_pure ⟨_, rfl, wpAny_pure h⟩) hfit)
    | exact wpAny_bind (m := Builtin.Tuple.tupleExact _) (wpAny_newObj_type (wpAny_bind (wpAny_pure (wpAny_pure ⟨_, rfl, wpAny_pure h⟩))) hfit)
    | exact wpAny_bind (wpAny_bind (m := Builtin.Tuple.tupleExact _) (wpAny_newObj_type (wpAny_pure (wpAny_pure ⟨_, rfl, wpAny_pure h⟩)) hfit))
    | exact wpAny_bind (wpAny_bind (m := Builtin.Tuple.tupleExact _) (wpAny_newObj_type (wpAny_pure ⟨_, rfl, wpAny_pure h⟩) hfit))
end
section
variable {X : Cx} {B : Bs} {G : Hp} {γ : Gm} {σ : L2.St} {H : Hp} {e : Expr} {t : DT}
/-- t[::-1] of a tuple -/
def tRevT (K : PySem.W.Frag) (te : TE) : TE := fun σ H Q => te σ H fun x H1 => ∃ a xs, x = .ref a ∧ SqT K H1 a xs ∧ ∀ p, H1 p = none → Q (.ref p) (upd H1 p (.tup xs.reverse))
theorem pe_revT {te : TE} {k : Nat} {p1 p2 p3 pos : Pos} (he : PE X e te) : PE X (.Subscript e (.Slice none none (some (.UnaryOp .USub (.Constant (.int 1) k p1) p2)) p3) pos) (tRevT X.K te) := by
  refine ⟨fun pins s σ H Q I h => ?_⟩
  refine Subscript_ (thn (he.run pins s σ H _ I h) fun v s1 ⟨x, H1, I1, r1, a, xs, ex, hx, q⟩ => ?_)
  subst ex
  cases r1
  have hst : PO X (some (.UnaryOp .USub (.Constant (.int 1) k p1) p2)) (tPart (tUn (rU fun i => .int (-i)) (tC (.int 1)))) := po_some (pe_un un_neg pe_int)
  refine wpAny_Slice (thn (po_none.run pins s1 σ H1 (fun o H2 => o = none ∧ H2 = H1) I1 ⟨rfl, rfl⟩) fun ul s2 ⟨l, H2, I2, pl, el, e2⟩ => ?_)
  subst el e2
  refine thn (po_none.run pins s2 σ H2 (fun o H3 => o = none ∧ H3 = H2) I2 ⟨rfl, rfl⟩) fun uu s3 ⟨u, H3, I3, pu, eu, e3⟩ => ?_
  subst eu e3
  refine thn (hst.run pins s3 σ H3 (fun o H4 => o = some (-1) ∧ H4 = H3) I3 ⟨1, rfl, -1, rfl, rfl, rfl⟩) fun us s4 ⟨o, H4, I4, ps, eo, e4⟩ => ?_
  subst eo e4
  have I5 : Inv X pins σ H4 { s4 with heap := s4.heap.push { cls := .type "slice", data := .fields #[ul, uu, us] } } := I4.kept (t' := s4.toks) fun b ob q => Heap.get?_push_of_some _ q
  obtain ⟨its, r, ht, hz⟩ := I5.tuple hx
  have hlen := r.length
  cases pl
  cases pu
  show wpAny (model X.prog X.w) X.A (subscriptTail e (.Slice none none (some (.UnaryOp .USub (.Constant (.int 1) k p1) p2)) p3) (.ref a) (.ref s4.heap.objs.size)) (EP X pins σ Q) X.xe { s4 with heap := s4.heap.push { cls := .type "slice", data := .fields #[.none, .none, us] } }
  refine tail_any (ops := [.ref a, .ref s4.heap.objs.size]) ht.typeIs slot_tuple_getitem.lookup ?_ (by with_unfolding_all rfl)
  refine back_item ht (Heap.IsSliceOf.new _ .none .none us) ps ?_ (by rw [List.size_toArray]; omega)
  refine ⟨.ref _, _, I5.laid (t' := s4.toks) (o := .tup xs.reverse) (fun b ob q => Heap.get?_push_of_some _ q) (Nat.le_refl _) ?_, rfl, q _ (I5.hok.fresh (Nat.le_refl _))⟩
  exact ⟨by rw [List.length_reverse]; exact hz, _, r.reverse, IsTup.new _ _⟩
def dRevT (t : DT) : DT := fun γ R => t γ fun d γ1 => match d with
  | .tup xs => R (.tup xs.reverse) γ1
  | _ => False
theorem d_revT (h : PE X e (tRevT B.K (tD B t))) : PE X e (tD B (dRevT t)) := pe_imp h fun σ H Q ⟨G, γ, R, S, h, k⟩ => ⟨G, γ, _, S, h, fun d γ1 G1 v H1 q sm S1 r => by
  split at q
  · cases r with
    | tup hs ra =>
      refine ⟨_, _, rfl, hs.sq S1.sub, fun p hp => ?_⟩
      obtain ⟨G2, s2, S2, r2⟩ := S1.newTup ra.rev hp
      exact k _ _ _ _ _ q (sm.trans s2) S2 r2
  · exact q.elim⟩
end
end EL
namespace EL
open PySem PySem.Spec PyProof.Rows L2
/-! ### data of small parts: what == and repr want -/
def gd (z : Str) : Bool := z.cps.toList.all (fun c => decide (c < 128)) && decide (z.length ≤ 40)
mutual
def tm : D → Bool
  | .non => true
  | .bl _ => true
  | .int i => decide (0 ≤ i ∧ i < 1000)
  | .str z => gd z
  | .tup ds => tms ds
  | .lst ds => tms ds
  | _ => false
def tms : List D → Bool
  | [] => true
  | d :: ds => tm d && tms ds
end
mutual
def wt : D → Nat
  | .str z => z.length
  | .int _ => 40
  | .tup ds => wts ds
  | .lst ds => wts ds
  | _ => 0
def wts : List D → Nat
  | [] => 0
  | d :: ds => wt d + 1 + wts ds
end
mutual
def dep : D → Nat
  | .tup ds => deps ds + 1
  | .lst ds => deps ds + 1
  | _ => 0
def deps : List D → Nat
  | [] => 0
  | d :: ds => max (dep d) (deps ds)
end
theorem gd_ok {z : Str} (h : gd z = true) : PyData.strOk z = true ∧ (z.cps.toList.all fun c => decide (c < 16 ^ 8)) = true := by
  unfold gd at h
  rw [Bool.and_eq_true] at h
  have h1 := List.all_eq_true.mp h.1
  constructor
  · unfold PyData.strOk
    rw [← Array.all_toList, List.all_eq_true]
    intro c hc
    have := of_decide_eq_true (h1 c hc)
    exact decide_eq_true (by omega)
  · rw [List.all_eq_true]
    intro c hc
    have := of_decide_eq_true (h1 c hc)
    exact decide_eq_true (by omega)
theorem small_shown : ∀ n : Nat, n < 1000 → (PyData.int (n : Int)).shown.length ≤ 8 ∧ (PyData.int (n : Int)).weight ≤ 40 := by
  have h : ∀ n : _root_.Fin 1000, (PyData.int ((n : Nat) : Int)).shown.length ≤ 8 ∧ (PyData.int ((n : Nat) : Int)).weight ≤ 40 := by decide +kernel
  exact fun n hn => h ⟨n, hn⟩
structure Tm (q : PyData) (w d : Nat) : Prop where
  lay : q.canLay0 = true
  sh : q.showable = true
  di : q.hasDict = false
  lv : PyData.leavesShort 8 q = true
  w : q.weight ≤ w
  d : q.depth = d
structure Tms (q : List PyData) (w d : Nat) : Prop where
  lay : PyData.canLayAll0 q = true
  sh : PyData.showableAll q = true
  di : PyData.hasDictAll q = false
  lv : PyData.leavesShortAll 8 q = true
  w : PyData.weightAll q ≤ w
  d : PyData.depthAll q = d
theorem tm_int {i : Int} (h : 0 ≤ i ∧ i < 1000) : Tm (.int i) 40 0 := by
  obtain ⟨n, rfl⟩ := Int.eq_ofNat_of_zero_le h.1
  have hn : n < 1000 := by omega
  refine ⟨rfl, ?_, rfl, ?_, (small_shown n hn).2, rfl⟩
  · unfold PyData.showable
    refine decide_eq_true ?_
    rw [Int.natAbs_natCast]
    refine Nat.lt_of_le_of_lt (Nat.log2_le_self n) (by omega)
  · unfold PyData.leavesShort
    exact decide_eq_true (small_shown n hn).1
mutual
theorem tm_ok : ∀ d : D, tm d = true → isPy d = true ∧ Tm (py d) (wt d) (dep d)
  | .non, _ => by show true = true ∧ Tm PyData.none 0 0; exact ⟨rfl, rfl, rfl, rfl, rfl, by decide, rfl⟩
  | .bl b, _ => by show true = true ∧ Tm (PyData.bool b) 0 0; exact ⟨rfl, rfl, rfl, rfl, by cases b <;> decide, by cases b <;> decide, rfl⟩
  | .int i, h => by
    show true = true ∧ Tm (.int i) 40 0
    exact ⟨rfl, tm_int (of_decide_eq_true h)⟩
  | .str z, h => by
    show true = true ∧ Tm (.str z) z.length 0
    have h : gd z = true := h
    refine ⟨rfl, (gd_ok h).1, rfl, rfl, ?_, Nat.le_refl _, rfl⟩
    unfold PyData.leavesShort
    exact (gd_ok h).2
  | .tup ds, h => by
    rw [tm] at h
    obtain ⟨h0, h1⟩ := tms_ok ds h
    rw [py, isPy, wt, dep]
    refine ⟨h0, h1.lay, h1.sh, h1.di, h1.lv, h1.w, ?_⟩
    show PyData.depthAll (pys ds) + 1 = _
    rw [h1.d]
  | .lst ds, h => by
    rw [tm] at h
    obtain ⟨h0, h1⟩ := tms_ok ds h
    rw [py, isPy, wt, dep]
    refine ⟨h0, h1.lay, h1.sh, h1.di, h1.lv, h1.w, ?_⟩
    show PyData.depthAll (pys ds) + 1 = _
    rw [h1.d]
  | .dct _, h => nomatch h
  | .obj _ _, h => nomatch h
  | .dk, h => nomatch h
  | .opq _, h => nomatch h
theorem tms_ok : ∀ ds : List D, tms ds = true → isPys ds = true ∧ Tms (pys ds) (wts ds) (deps ds)
  | [], _ => by rw [pys, isPys]; exact ⟨rfl, rfl, rfl, rfl, rfl, Nat.le_refl _, rfl⟩
  | d :: ds, h => by
    rw [tms, Bool.and_eq_true] at h
    obtain ⟨a0, a⟩ := tm_ok d h.1
    obtain ⟨b0, b⟩ := tms_ok ds h.2
    rw [pys, isPys, wts, deps, a0, b0]
    refine ⟨rfl, ?_, ?_, ?_, ?_, ?_, ?_⟩
    · show ((py d).canLay0 && PyData.canLayAll0 (pys ds)) = true
      rw [a.lay, b.lay]; rfl
    · show ((py d).showable && PyData.showableAll (pys ds)) = true
      rw [a.sh, b.sh]; rfl
    · show ((py d).hasDict || PyData.hasDictAll (pys ds)) = false
      rw [a.di, b.di]; rfl
    · show (PyData.leavesShort 8 (py d) && PyData.leavesShortAll 8 (pys ds)) = true
      rw [a.lv, b.lv]; rfl
    · show (py d).weight + 1 + PyData.weightAll (pys ds) ≤ _
      have := a.w
      have := b.w
      omega
    · show max (py d).depth (PyData.depthAll (pys ds)) = _
      rw [a.d, b.d]
end
theorem okD_tm {d : D} (h : tm d = true) (hd : dep d ≤ 60) : okD d := by
  obtain ⟨a, b⟩ := tm_ok d h
  refine ⟨a, ?_⟩
  unfold SeqAt.shaped
  rw [Bool.and_eq_true]
  exact ⟨b.lay, decide_eq_true (by rw [b.d]; omega)⟩
theorem showOk_tm {d : D} (h : tm d = true) (hd : dep d ≤ 60) (hw : wt d ≤ 90000) : showOk d := by
  obtain ⟨a, b⟩ := tm_ok d h
  refine ⟨a, b.sh, b.di, by rw [b.d]; exact hd, ?_⟩
  have := PyData.shown_le 8 (Nat.le_refl _) (py d) b.lv
  have := b.w
  omega
theorem tms_all : ∀ {ds : List D}, (∀ d ∈ ds, tm d = true) → tms ds = true
  | [], _ => rfl
  | d :: ds, h => by
    rw [tms, h d List.mem_cons_self, tms_all fun c hc => h c (List.mem_cons_of_mem _ hc)]
    rfl
theorem deps_le {n : Nat} : ∀ {ds : List D}, (∀ d ∈ ds, dep d ≤ n) → deps ds ≤ n
  | [], _ => Nat.zero_le _
  | d :: ds, h => by
    rw [deps]
    exact Nat.max_le.mpr ⟨h d List.mem_cons_self, deps_le fun c hc => h c (List.mem_cons_of_mem _ hc)⟩
theorem wts_le {n : Nat} : ∀ {ds : List D}, (∀ d ∈ ds, wt d ≤ n) → wts ds ≤ (n + 1) * ds.length
  | [], _ => Nat.zero_le _
  | d :: ds, h => by
    have h1 := h d List.mem_cons_self
    have h2 := wts_le (n := n) fun c hc => h c (List.mem_cons_of_mem _ hc)
    rw [wts, List.length_cons, Nat.mul_succ]
    omega
theorem eqD_nilL {d : D} {ds : List D} : eqD (.lst (d :: ds)) (.lst []) = false := by
  unfold eqD
  simp only [py, pys, PyData.eqv, PyData.eqvAll]
theorem eqD_nil0 : eqD (.lst []) (.lst []) = true := by decide
theorem eqD_nil {ds : List D} : eqD (.lst ds) (.lst []) = true ↔ ds = [] := by
  cases ds with
  | nil => simp [eqD_nil0]
  | cons d ds => simp [eqD_nilL]
end EL
namespace EL
open PySem PySem.Spec PyProof.Rows L2
/-! ### texts by their signs -/
def Sg (P : Nat → Prop) (n : Nat) (z : Str) : Prop := (∀ c ∈ z.cps.toList, P c) ∧ z.length ≤ n
section
variable {P : Nat → Prop} {n m : Nat} {z y : Str}
theorem sl_len (z : Str) : z.cps.toList.length = z.length := by simp [Str.length]
theorem Sg.mono (h : Sg P n z) (l : n ≤ m) : Sg P m z := ⟨h.1, Nat.le_trans h.2 l⟩
theorem cutS_list (z : Str) (lo hi : Option Int) : (cutS z lo hi).cps.toList = (z.cps.toList.drop (HT.sIx z.length 0 lo)).take (HT.sIx z.length z.length hi - HT.sIx z.length 0 lo) := by
  unfold cutS
  simp
theorem Sg.cut (h : Sg P n z) (lo hi : Option Int) : Sg P n (cutS z lo hi) := by
  refine ⟨fun c hc => ?_, ?_⟩
  · rw [cutS_list] at hc
    exact h.1 c (List.mem_of_mem_drop (List.mem_of_mem_take hc))
  · rw [← sl_len, cutS_list, List.length_take, List.length_drop, sl_len]
    have := h.2
    omega
theorem app_list (z y : Str) : (z ++ y).cps.toList = z.cps.toList ++ y.cps.toList := Array.toList_append
theorem app_len (z y : Str) : (z ++ y).length = z.length + y.length := by rw [← sl_len, app_list, List.length_append, sl_len, sl_len]
theorem Sg.app (h : Sg P n z) (k : Sg P m y) : Sg P (n + m) (z ++ y) := by
  refine ⟨fun c hc => ?_, by rw [app_len]; exact Nat.add_le_add h.2 k.2⟩
  rw [app_list] at hc
  rcases List.mem_append.mp hc with q | q
  · exact h.1 c q
  · exact k.1 c q
theorem fold_mem (z : Str) : ∀ (r : List Str) (acc : Array Nat) (c : Nat), c ∈ (r.foldl (fun acc p => acc ++ z.cps ++ p.cps) acc).toList → c ∈ acc.toList ∨ c ∈ z.cps.toList ∨ ∃ p ∈ r, c ∈ p.cps.toList
  | [], acc, c, h => .inl h
  | p :: r, acc, c, h => by
    rw [List.foldl_cons] at h
    rcases fold_mem z r _ c h with q | q | ⟨p', h1, h2⟩
    · rw [Array.toList_append, Array.toList_append] at q
      rcases List.mem_append.mp q with q | q
      · rcases List.mem_append.mp q with q | q
        · exact .inl q
        · exact .inr (.inl q)
      · exact .inr (.inr ⟨p, List.mem_cons_self, q⟩)
    · exact .inr (.inl q)
    · exact .inr (.inr ⟨p', List.mem_cons_of_mem _ h1, h2⟩)
theorem join_mem (z : Str) (ys : List Str) (c : Nat) (h : c ∈ (Txt.join z ys).cps.toList) : c ∈ z.cps.toList ∨ ∃ p ∈ ys, c ∈ p.cps.toList := by
  cases ys with
  | nil => cases h
  | cons p r =>
    rcases fold_mem z r p.cps c h with q | q | ⟨p', h1, h2⟩
    · exact .inr ⟨p, List.mem_cons_self, q⟩
    · exact .inl q
    · exact .inr ⟨p', List.mem_cons_of_mem _ h1, h2⟩
theorem join_len (z : Str) (ys : List Str) : (Txt.join z ys).length = (ys.map (·.length)).sum + (ys.length - 1) * z.length := size_glued z ys
theorem sg_one {c : Nat} (h : P c) : Sg P 1 ⟨#[c]⟩ := ⟨fun x hx => by simp at hx; subst hx; exact h, Nat.le_refl _⟩
theorem Sg.gd (h : Sg P n z) (hP : ∀ c, P c → c < 128) (hn : n ≤ 40) : gd z = true := by
  unfold EL.gd
  rw [Bool.and_eq_true]
  exact ⟨List.all_eq_true.mpr fun c hc => decide_eq_true (hP c (h.1 c hc)), decide_eq_true (Nat.le_trans h.2 hn)⟩
end
/-- a to z -/
def AZ (c : Nat) : Prop := 97 ≤ c ∧ c ≤ 122
theorem AZ.lt {c : Nat} (h : AZ c) : c < 128 := by unfold AZ at h; omega
abbrev letters : Str := "abcdefghijklmnopqrstuvwxyz"
theorem letter_at (i : Int) (h0 : 0 ≤ i) (h1 : i < 26) : ∃ c, atI letters.cps.toList i = some c ∧ AZ c := by
  obtain ⟨n, rfl⟩ := Int.eq_ofNat_of_zero_le h0
  have hn : n < 26 := by omega
  have h : ∀ n : _root_.Fin 26, letters.cps.toList[n.1]? = some (97 + n.1) := by decide +kernel
  exact ⟨97 + n, at_nat _ n _ (h ⟨n, hn⟩), by unfold AZ; omega⟩
theorem letter_at2 (i : Int) (h0 : 0 ≤ i) (h1 : i < 26) : atI letters.cps.toList i = some (97 + i.toNat) ∧ AZ (97 + i.toNat) := by
  obtain ⟨n, rfl⟩ := Int.eq_ofNat_of_zero_le h0
  have hn : n < 26 := by omega
  have h : ∀ n : _root_.Fin 26, letters.cps.toList[n.1]? = some (97 + n.1) := by decide +kernel
  rw [Int.toNat_natCast]
  exact ⟨at_nat _ n _ (h ⟨n, hn⟩), by unfold AZ; omega⟩
theorem letter_ix (c : Nat) (h : AZ c) : ∃ (i : Nat) (rest : List Nat), Builtin.Str.occurrences letters ⟨#[c]⟩ 0 letters.length 1 = i :: rest ∧ i < 26 := by
  have k : ∀ n : _root_.Fin 26, Builtin.Str.occurrences letters ⟨#[97 + n.1]⟩ 0 letters.length 1 = [n.1] := by decide +kernel
  unfold AZ at h
  refine ⟨c - 97, [], ?_, by omega⟩
  have := k ⟨c - 97, by omega⟩
  dsimp only at this
  rwa [show 97 + (c - 97) = c by omega] at this
theorem letters_len : letters.length = 26 := by decide +kernel
theorem join_az (ys : List Str) (h : ∀ y ∈ ys, Sg AZ 1 y ∧ y.length = 1) : Sg AZ ys.length (Txt.join "" ys) ∧ (Txt.join "" ys).length = ys.length := by
  have e : (Txt.join "" ys).length = ys.length := by
    rw [join_len]
    have : ∀ l : List Str, (∀ y ∈ l, Sg AZ 1 y ∧ y.length = 1) → (l.map (·.length)).sum = l.length := by
      intro l
      induction l with
      | nil => intro _; rfl
      | cons a l ih =>
        intro h
        rw [List.map_cons, List.sum_cons, ih fun y hy => h y (List.mem_cons_of_mem _ hy), (h a List.mem_cons_self).2, List.length_cons]
        omega
    rw [this ys h]
    show ys.length + (ys.length - 1) * 0 = _
    omega
  refine ⟨⟨fun c hc => ?_, by omega⟩, e⟩
  rcases join_mem _ _ c hc with q | ⟨p, hp, q⟩
  · cases q
  · exact (h p hp).1.1 c q
section
variable {X : Cx} {B : Bs} {e : Expr}
theorem d_callCc {cc : Nat} (hcc : B.cost = cc) {DkF : Nat → Hp → Addr → Addr → Prop} (hB : DkK B DkF) {c n : Nat} {F : FD} {ta : DA} {E : XK} (h : PE X e (tCall (spD B.K B.W.cl DkF c n F) [] E (tDA B ta))) : PE X e (tD B (dCallC c n F cc noX ta)) := by
  subst hcc
  exact d_callC hB h
end
end EL
namespace EL
open PySem PySem.Spec PyProof.Rows L2
/-! ### dicts of the module's own, with texts for keys -/
structure KTab (K : PySem.W.Frag) (w : World) (cl : Nat → Option (Addr × List Str)) (d : Addr) (tab : Str → Option D) : Prop where
  dict : ∃ es n, KDict K w d es n
  yes : ∀ z c, tab z = some c → ∃ u v, PySem.W.nsIn K d z = some (some u) ∧ RelV v u ∧ ∀ dk G, Rp ⟨dk, cl, K⟩ G v c
  no : ∀ z, tab z = none → PySem.W.nsIn K d z = some none
section
variable {X : Cx} {B : Bs} {G : Hp} {γ : Gm} {σ : L2.St} {H : Hp} {e o f : Expr} {t : DT} {d : Addr} {tab : Str → Option D}
def kIxF (d : Addr) (tab : Str → Option D) : F2 := fun x y R => match y with
  | .str z => x = .opq (.ref d) ∧ ∃ c, tab z = some c ∧ R c
  | _ => False
theorem ok_kix (T : KTab B.K X.w B.W.cl d tab) (hK : X.K = B.K) : OkR2 B (rIxD X.K X.w) (kIxF d tab) := by
  intro G γ σ H x y dx dy R Q S rx ry h k
  unfold kIxF at h
  split at h
  · obtain ⟨rfl, c, h1, h2⟩ := h
    cases rx
    cases rpStr ry
    obtain ⟨u, v, a1, a2, a3⟩ := T.yes _ _ h1
    obtain ⟨es, n, D⟩ := T.dict
    rw [hK]
    exact ⟨d, _, v, rfl, rfl, ⟨es, n, u, D.at_, D.lit, a1, a2⟩, k _ _ _ _ h2 (Same.refl _) S (a3 B.W.dk G)⟩
  · exact h.elim
/-- is it a key -/
def kInP (d : Addr) (tab : Str → Option D) (neg : Bool) : FP := fun x y R => match x with
  | .str z => y = .opq (.ref d) ∧ R ((tab z).isSome = true ↔ neg = false)
  | _ => False
def rKIn (K : PySem.W.Frag) (d : Addr) : R2 := fun x y H Q => ∃ (z : Str) (r : Option Value), x = .str z ∧ y = .ref d ∧ PySem.W.nsIn K d z = some r ∧ Q (.bl r.isSome) H
def rKNi (K : PySem.W.Frag) (d : Addr) : R2 := fun x y H Q => ∃ (z : Str) (r : Option Value), x = .str z ∧ y = .ref d ∧ PySem.W.nsIn K d z = some r ∧ Q (.bl (!r.isSome)) H
theorem kt_ns {K : PySem.W.Frag} {w : World} {cl : Nat → Option (Addr × List Str)} (T : KTab K w cl d tab) (z : Str) : ∃ r : Option Value, PySem.W.nsIn K d z = some r ∧ r.isSome = (tab z).isSome := by
  cases q : tab z with
  | none => exact ⟨none, T.no z q, rfl⟩
  | some c =>
    obtain ⟨u, v, a1, _⟩ := T.yes z c q
    exact ⟨some u, a1, rfl⟩
theorem op_kin (T : KTab X.K X.w B.W.cl d tab) : OpR X (compareOp .In) (rKIn X.K d) := by
  obtain ⟨es, n, D⟩ := T.dict
  exact op_in_kd D
theorem op_kni (T : KTab X.K X.w B.W.cl d tab) : OpR X (compareOp .NotIn) (rKNi X.K d) := by
  obtain ⟨es, n, D⟩ := T.dict
  exact op_notIn_kd D
theorem ok_kin (T : KTab B.K X.w B.W.cl d tab) (hK : X.K = B.K) : OkRP B (rKIn X.K d) (kInP d tab false) := by
  intro G γ σ H x y dx dy R Q S rx ry h k
  unfold kInP at h
  split at h
  · obtain ⟨rfl, h⟩ := h
    cases ry
    cases rpStr rx
    obtain ⟨r, a1, a2⟩ := kt_ns T _
    rw [hK]
    exact ⟨_, r, rfl, rfl, a1, k _ _ _ _ h (by rw [a2]; simp) (Same.refl _) S⟩
  · exact h.elim
theorem ok_kni (T : KTab B.K X.w B.W.cl d tab) (hK : X.K = B.K) : OkRP B (rKNi X.K d) (kInP d tab true) := by
  intro G γ σ H x y dx dy R Q S rx ry h k
  unfold kInP at h
  split at h
  · obtain ⟨rfl, h⟩ := h
    cases ry
    cases rpStr rx
    obtain ⟨r, a1, a2⟩ := kt_ns T _
    rw [hK]
    exact ⟨_, r, rfl, rfl, a1, k _ _ _ _ h (by rw [a2]; simp) (Same.refl _) S⟩
  · exact h.elim
/-- TABLE.get(key, else) -/
def tGetK (K : PySem.W.Frag) (w : World) (td ty tx : TE) : TE := fun σ H Q => td σ H fun x H1 => ∃ d, x = .ref d ∧ (∃ es n, KDict K w d es n) ∧ ty σ H1 fun y H2 => tx σ H2 fun z H3 =>
  ∃ (k : Str) (ov : Option Value), y = .str k ∧ PySem.W.nsIn K d k = some ov ∧ (∀ u, ov = some u → ∃ v, RelV v u ∧ Q v H3) ∧ (ov = none → Q z H3)
theorem pe_getK {apos cpos : Pos} {td ty tx : TE} (ho : PE X o td) (he : PE X e ty) (hf : PE X f tx) (m : M2 X o "get" apos e f cpos) : PE X (.Call (.Attribute o "get" apos) [e, f] [] cpos) (tGetK X.K X.w td ty tx) := by
  refine ⟨fun pins s σ H Q I h => ?_⟩
  refine wpAny_Call_method m.base m.few m.line PySem.F.plainAttrs_dict PySem.F.slot_dict_get PySem.F.type_dict_get (thn (ho.run pins s σ H _ I h) fun u s1 ⟨x, H1, I1, rx, d, ex, ⟨es, n, D⟩, q1⟩ => ?_)
  subst ex
  obtain rfl : u = Value.ref d := rx
  refine ⟨kd_type D I1, fun b hb => ?_, ?_⟩
  · cases hb
    exact ⟨_, I1.kIn _ _ D.at_, rfl⟩
  rw [m.trees]
  refine Calls.callWith_builtin rfl (Calls.evalArgs_plain (Calls.spliced_cons (thn (he.run pins s1 σ H1 _ I1 q1) fun iv s2 ⟨y, H2, I2, ry, q2⟩ =>
    Calls.spliced_cons (thn (hf.run pins s2 σ H2 _ I2 q2) fun fv s3 ⟨z, H3, I3, rz, k, ov, ey, en, q4, q5⟩ => Calls.spliced_nil ?_))))
  subst ey
  obtain ⟨tk, rfl⟩ := ry
  have hm := PySem.W.mapOf_K (prog := X.prog) (w := X.w) I3.kIn D.at_ D.lit
  refine call_meetsIn PySem.F.slot_dict_get hm.typeIs PySem.F.entry_dict_get (PySem.F.args_dict_get_3 _ _ _) (meets_dict_get_default (strKind X.prog X.w) d (strKind_is X.prog X.w k tk) D.low fv) ⟨_, hm, ?_⟩
  rw [PySem.W.find_K D.at_ en]
  cases ov with
  | none => exact ⟨z, H3, I3.tok _, rz, q5 rfl⟩
  | some u =>
    obtain ⟨v, rv, q⟩ := q4 u rfl
    exact ⟨v, H3, I3.tok _, rv, q⟩
def dGetK (d : Addr) (tab : Str → Option D) (td ty tx : DT) : DT := fun γ R => td γ fun x γ1 => x = .opq (.ref d) ∧ ty γ1 fun y γ2 => tx γ2 fun z γ3 => match y with
  | .str k => R ((tab k).getD z) γ3
  | _ => False
theorem d_getK {td ty tx : DT} (T : KTab B.K X.w B.W.cl d tab) (h : PE X e (tGetK B.K X.w (tD B td) (tD B ty) (tD B tx))) : PE X e (tD B (dGetK d tab td ty tx)) := pe_imp h fun σ H Q ⟨G, γ, R, S, h, k⟩ =>
  ⟨G, γ, _, S, h, fun x γ1 G1 v H1 ⟨ex, q1⟩ s1 S1 r1 => by
    subst ex
    cases r1
    refine ⟨d, rfl, T.dict, G1, γ1, _, S1, q1, fun y γ2 G2 u H2 q2 s2 S2 r2 => ⟨G2, γ2, _, S2, q2, fun z γ3 G3 v3 H3 q3 s3 S3 r3 => ?_⟩⟩
    split at q3
    · cases rpStr r2
      rename_i kk
      cases q : tab kk with
      | none =>
        rw [q] at q3
        exact ⟨_, none, rfl, T.no _ q, fun u h => (by cases h), fun _ => k _ _ _ _ _ q3 (s1.trans (s2.trans s3)) S3 r3⟩
      | some c =>
        rw [q] at q3
        obtain ⟨u, v, a1, a2, a3⟩ := T.yes _ _ q
        exact ⟨_, some u, rfl, a1, fun u' h => (by cases h; exact ⟨v, a2, k _ _ _ _ _ q3 (s1.trans (s2.trans s3)) S3 (a3 B.W.dk G3)⟩), fun h => (by cases h)⟩
    · exact q3.elim⟩
end
/-! ### such a table, made of the facts of what is written down -/
theorem ba2 {x y : Bool} (h : (x && y) = true) : x = true ∧ y = true := by rw [Bool.and_eq_true] at h; exact h
theorem keys_no {P : Params} {z : Str} : ∀ {l : List DictEntry} {ks : List Str}, l.map He.keyOf = He.keysIn P ks → z ∉ ks → l.find? (·.key.isStr z) = none ∧ l.any (·.refKey) = false
  | [], _, _, _ => ⟨rfl, rfl⟩
  | e :: r, [], h, _ => by cases h
  | e :: r, k :: ks, h, hz => by
    have h1 : He.keyOf e :: r.map He.keyOf = some (k, PyData.keyHash P k) :: He.keysIn P ks := h
    injection h1 with h2 h3
    obtain ⟨i1, i2⟩ := keys_no h3 fun q => hz (List.mem_cons_of_mem _ q)
    unfold He.keyOf at h2
    split at h2
    · rename_i x t q
      have hx : x = k := (Prod.mk.inj (Option.some.inj h2)).1
      have hn : e.key.isStr z = false := by
        rw [q]
        show (x == z) = false
        rw [beq_eq_false_iff_ne]
        exact fun e => hz (by rw [← e, hx]; exact List.mem_cons_self)
      have hr : e.refKey = false := by unfold DictEntry.refKey; rw [q]
      exact ⟨by rw [List.find?_cons, hn]; exact i1, by rw [List.any_cons, hr, i2]; rfl⟩
    · cases h2
theorem dic_no {K : PySem.W.Frag} {w : World} {d : Addr} {ks : List Str} {z : Str} (h : He.dicW K d = some (He.keysIn w.params ks)) (hz : z ∉ ks) : PySem.W.nsIn K d z = some none := by
  unfold He.dicW at h
  cases q : K.lookup d with
  | none => rw [q] at h; cases h
  | some o =>
    obtain ⟨oc, od, dt, osl⟩ := o
    rw [q] at h
    cases oc with
    | type c =>
      cases od with
      | none =>
        cases dt with
        | dict es n =>
          have h1 : (match decide (c = "dict") && (osl.isEmpty && !(d == sysModules)) with
            | true => some (es.toList.map He.keyOf)
            | false => none) = some (He.keysIn w.params ks) := h
          cases z2 : decide (c = "dict") && (osl.isEmpty && !(d == sysModules)) with
          | false => rw [z2] at h1; cases h1
          | true =>
            rw [z2] at h1
            obtain ⟨i1, i2⟩ := keys_no (Option.some.inj h1) hz
            unfold PySem.W.nsIn
            rw [q]
            dsimp only
            rw [i1, i2]
            rfl
        | _ => cases h
      | some b => cases dt <;> cases h
    | _ => cases od <;> cases dt <;> cases h
theorem getK_none {k : Str} : ∀ {kvs : List (Key × D)} {ks : List Str}, kvs.map (·.1) = ks.map Sum.inr → getK (.inr k) kvs = none → k ∉ ks
  | [], [], _, _ => fun h => by cases h
  | [], _ :: _, h, _ => by cases h
  | _ :: _, [], h, _ => by cases h
  | kv :: r, a :: ks, h, hn => by
    have h1 : kv.1 :: r.map (·.1) = Sum.inr a :: ks.map Sum.inr := h
    injection h1 with h2 h3
    unfold getK at hn
    split at hn
    · cases hn
    · rename_i q
      intro hm
      rcases List.mem_cons.mp hm with e | e
      · subst e
        exact q (by rw [h2, keyEq_iff])
      · exact getK_none h3 hn e
theorem getK_some {k : Key} {c : D} : ∀ {kvs : List (Key × D)}, getK k kvs = some c → (k, c) ∈ kvs
  | [], h => by cases h
  | kv :: r, h => by
    unfold getK at h
    split at h
    · rename_i q
      cases h
      have := keyEq_iff.mp q
      subst this
      exact List.mem_cons_self
    · exact List.mem_cons_of_mem _ (getK_some h)
theorem ktab_mk {K : PySem.W.Frag} {w : World} {cl : Nat → Option (Addr × List Str)} {d : Addr} {ks : List Str} {kvs : List (Key × D)} (hk : He.dicW K d = some (He.keysIn w.params ks)) (he : kvs.map (·.1) = ks.map Sum.inr)
    (hv : ∀ z c, (Sum.inr z, c) ∈ kvs → ∃ u v, PySem.W.nsIn K d z = some (some u) ∧ RelV v u ∧ ∀ dk G, Rp ⟨dk, cl, K⟩ G v c) : KTab K w cl d (fun z => getK (.inr z) kvs) where
  dict := He.dicW_ok hk
  yes := fun z c h => hv z c (getK_some h)
  no := fun z h => dic_no hk (getK_none he h)
/-- the values of such a table -/
theorem kv_int {K : PySem.W.Frag} {cl : Nat → Option (Addr × List Str)} {d : Addr} {z : Str} {i : Int} {t : Tok} (h : PySem.W.nsIn K d z = some (some (.int i t))) : ∃ u v, PySem.W.nsIn K d z = some (some u) ∧ RelV v u ∧ ∀ dk G, Rp ⟨dk, cl, K⟩ G v (.int i) := ⟨_, .int i, h, ⟨t, rfl⟩, fun _ _ => .int i⟩
theorem kv_str {K : PySem.W.Frag} {cl : Nat → Option (Addr × List Str)} {d : Addr} {z i : Str} {t : Tok} (h : PySem.W.nsIn K d z = some (some (.str i t))) : ∃ u v, PySem.W.nsIn K d z = some (some u) ∧ RelV v u ∧ ∀ dk G, Rp ⟨dk, cl, K⟩ G v (.str i) := ⟨_, .str i, h, ⟨t, rfl⟩, fun _ _ => .str i⟩
theorem kv_tup {K : PySem.W.Frag} {cl : Nat → Option (Addr × List Str)} {d a : Addr} {z : Str} {od : Option Addr} {its : Array Value} {n : Nat} {sl : Array (Option Value)} {vs : List V} {ds : List D} (h : PySem.W.nsIn K d z = some (some (.ref a)))
    (l : K.lookup a = some ⟨.type "tuple", od, .seq its n, sl⟩) (hz : its.size ≤ sizeLine) (r : Vals vs its.toList) (q : ∀ dk G, RpAll ⟨dk, cl, K⟩ G vs ds) : ∃ u v, PySem.W.nsIn K d z = some (some u) ∧ RelV v u ∧ ∀ dk G, Rp ⟨dk, cl, K⟩ G v (.tup ds) :=
  ⟨_, .ref a, h, rfl, fun dk G => .tup (.inr ⟨_, its, n, l, rfl, rfl, hz, r⟩) (q dk G)⟩
end EL
namespace EL
open PySem PySem.Spec PyProof.Rows L2
section
variable {X : Cx} {B : Bs} {G : Hp} {γ : Gm} {σ : L2.St} {H : Hp} {e a b : Expr} {ta tb : DT} {pos : Pos}
/-! ### in, not in, of a dict -/
def dictIn (neg : Bool) : FP := fun x y R => match y, keyD x with
  | .dct kvs, some key => R ((getK key kvs).isSome = true ↔ neg = false)
  | _, _ => False
theorem val_some {W : Cw} {key : Key} {vs : List (Key × V)} {ds : List (Key × D)} (r : RpKv W G vs ds) : (valV vs key).isSome = (getK key ds).isSome := by
  obtain ⟨h1, h2⟩ := valV_get (key := key) r
  cases q : getK key ds with
  | none =>
    rw [h2 q]
    rfl
  | some c =>
    obtain ⟨v, e, _⟩ := h1 c q
    rw [e]
    rfl
theorem din_core {neg : Bool} {f : Option V → V} (hf : ∀ o : Option V, f o = .bl (if neg then !o.isSome else o.isSome)) {σ : L2.St} {H : Hp} {Q : VK} {R : Prop → Gm → Prop} {G : Hp} {γ : Gm} (S : DstG B G γ σ H) (h : bCmp (dictIn neg) ta tb γ R)
    (k : ∀ p (b : Bool) γ' G' H', R p γ' → (b = true ↔ p) → Same G G' → DstG B G' γ' σ H' → Q (.bl b) H') :
    tD B ta σ H fun y H1 => tD B tb σ H1 fun x H2 => ∃ a o, x = .ref a ∧ DGet H2 a y o ∧ Q (f o) H2 :=
  ⟨G, γ, _, S, h, fun d γ1 G1 v H1 h1 s1 S1 r1 => ⟨G1, γ1, _, S1, h1, fun e γ2 G2 u H2 h2 s2 S2 r2 => by
    unfold dictIn at h2
    split at h2
    · rename_i kvs key hk
      have hv := rp_key (r1.mono s2) hk
      subst hv
      cases r2 with
      | @dct a vs _ hs ra =>
        refine ⟨a, valV vs key, rfl, DGet.k (S2.sub _ _ hs), ?_⟩
        rw [hf, val_some ra]
        exact k _ _ _ _ _ h2 (by cases neg <;> simp) (s1.trans s2) S2
    · exact h2.elim⟩⟩
theorem b_din (hu : X.A.units + 1 < cLine) (ha : PE X a (tD B ta)) (hb : PE X b (tD B tb)) (hm : behindInMarks .In b = false := by rfl) : PT X (.Compare a [.In] [b] pos) (tDB B (bCmp (dictIn false) ta tb)) :=
  pt_imp (pt_cmp (pc_din hu ha hb) hm) fun σ H Q ⟨G, γ, R, S, h, k⟩ => din_core (neg := false) (f := fun o => .bl o.isSome) (fun o => rfl) (Q := fun x H1 => ∃ d, x = .bl d ∧ Q d H1) S h fun p b γ' G' H' hR hp s S => ⟨b, rfl, k _ _ _ _ _ hR hp s S⟩
theorem b_dni (hu : X.A.units + 1 < cLine) (ha : PE X a (tD B ta)) (hb : PE X b (tD B tb)) (hm : behindInMarks .NotIn b = false := by rfl) : PT X (.Compare a [.NotIn] [b] pos) (tDB B (bCmp (dictIn true) ta tb)) :=
  pt_imp (pt_cmp (pc_dnotin hu ha hb) hm) fun σ H Q ⟨G, γ, R, S, h, k⟩ => din_core (neg := true) (f := fun o => .bl (!o.isSome)) (fun o => rfl) (Q := fun x H1 => ∃ d, x = .bl d ∧ Q d H1) S h fun p b γ' G' H' hR hp s S => ⟨b, rfl, k _ _ _ _ _ hR hp s S⟩
theorem d_din (hu : X.A.units + 1 < cLine) (ha : PE X a (tD B ta)) (hb : PE X b (tD B tb)) (hm : behindInMarks .In b = false := by rfl) : PE X (.Compare a [.In] [b] pos) (tD B (dPr (bCmp (dictIn false) ta tb))) :=
  pe_imp (pe_cmp (pc_din hu ha hb) hm) fun σ H Q ⟨G, γ, R, S, h, k⟩ => din_core (neg := false) (f := fun o => .bl o.isSome) (fun o => rfl) (R := fun p γ' => ∀ b : Bool, (b = true ↔ p) → R (.bl b) γ') S h fun p b γ' G' H' hR hp s S => k _ _ _ _ _ (hR b hp) s S (.bl _)
theorem d_dni (hu : X.A.units + 1 < cLine) (ha : PE X a (tD B ta)) (hb : PE X b (tD B tb)) (hm : behindInMarks .NotIn b = false := by rfl) : PE X (.Compare a [.NotIn] [b] pos) (tD B (dPr (bCmp (dictIn true) ta tb))) :=
  pe_imp (pe_cmp (pc_dnotin hu ha hb) hm) fun σ H Q ⟨G, γ, R, S, h, k⟩ => din_core (neg := true) (f := fun o => .bl (!o.isSome)) (fun o => rfl) (R := fun p γ' => ∀ b : Bool, (b = true ↔ p) → R (.bl b) γ') S h fun p b γ' G' H' hR hp s S => k _ _ _ _ _ (hR b hp) s S (.bl _)
/-! ### xs.insert(i, x) -/
def insM : FM := fun ds es R => match es with
  | [.int i, d] => (0 ≤ i ∧ i < 2 ^ 63 ∧ ds.length < 1000000) ∧ R .non (ds.take i.toNat ++ [d] ++ ds.drop i.toNat)
  | _ => False
def rIns : V → List V → Hp → VK → Prop := fun x vs H Q => ∃ (l : Addr) (xs : List V) (i : Int) (y : V), x = .ref l ∧ vs = [.int i, y] ∧ H l = some (.lst xs) ∧ xs.length < sizeLine ∧ 0 ≤ i ∧ i < 2 ^ 63 ∧ Q .non (upd H l (.lst (xs.take i.toNat ++ [y] ++ xs.drop i.toNat)))
theorem mt_ins : MtR X "list.insert" rIns := mt_insert
theorem ok_insM : OkM rIns insM := by
  intro W G H p us xs ds es R Q sm hp hg ru rx h k
  unfold insM at h
  split at h
  · obtain ⟨⟨h0, h1, h2⟩, h⟩ := h
    cases rx with
    | cons r1 r2 =>
      cases rpInt r1
      cases r2 with
      | cons r2 r3 =>
        cases r3
        exact ⟨p, us, _, _, rfl, rfl, hp, by rw [ru.len]; exact Nat.lt_of_lt_of_le h2 (by decide), h0, h1, k _ _ _ _ h .non (((ru.take _).app (.cons r2 .nil)).app (ru.drop _))⟩
  · exact h.elim
end
end EL
namespace EL
open PySem PySem.Spec PyProof.Rows L2
/-! ### zip of a tuple and a list -/
abbrev mzA (h : Heap) (p : Addr) : Heap := h.push { cls := .type "tuple_iterator", data := .fields #[.ref p, .int 0 0] }
abbrev mzB (h : Heap) (p q : Addr) : Heap := (mzA h p).push { cls := .type "list_iterator", data := .fields #[.ref q, .int 0 0] }
abbrev mzC (h : Heap) (p q : Addr) : Heap := (mzB h p q).push { cls := .type "tuple", data := .seq #[.ref h.objs.size, .ref (mzA h p).objs.size] }
abbrev mzD (h : Heap) (p q : Addr) : Heap := (mzC h p q).push { cls := .type "tuple", data := .seq #[.none, .none] }
abbrev mzE (h : Heap) (p q : Addr) : Heap := (mzD h p q).push { cls := .type "zip", data := .fields #[.none, .bool false, .bool false, .ref (mzB h p q).objs.size, .ref (mzC h p q).objs.size] }
theorem meets_mz (p q : Addr) (xs ys : Array Value) :
    Meets (Builtin.«zip.__new__» ⟨[.type "zip", .ref p, .ref q], []⟩) (fun _ R s => s.heap.IsTuple p xs ∧ s.heap.IsList q ys ∧
      R (.ok (.ret (.ref (mzD s.heap p q).objs.size))) { s with heap := mzE s.heap p q }) :=
  .of_wp fun prog w A R s h => by
    obtain ⟨hp, gn, dr, tk, os⟩ := s
    obtain ⟨k1, k2, h⟩ := h
    have hsub := sub_zip
    have m1 : Heap.IsTuple (Shared.heap ⟨hp, gn, dr, tk, os⟩) p xs := k1
    have m2 : Heap.IsList (Shared.heap ⟨hp.push { cls := .type "tuple_iterator", data := .fields #[.ref p, .int 0 0] }, gn, dr, tk, os⟩) q ys := Heap.IsList.push k2 _
    wp_walk using wpAny_pyIter_tuple m1, wpAny_pyIter_list m2
    exact ⟨_, rfl, h⟩
section
variable {prog : Program} {w : World} {A : Around} {E : Value → Shared → Prop} {s : Shared}
theorem call_mz {p q : Addr} {xs ys : Array Value} {Q : Value → Shared → Prop} (k1 : s.heap.IsTuple p xs) (k2 : s.heap.IsList q ys)
    (h : ∀ h', IsZip h' (s.heap.objs.size + 4) (s.heap.objs.size + 2) (s.heap.objs.size + 3) .none → PySem.IsTupOf2 h' (s.heap.objs.size + 2) (.ref s.heap.objs.size) (.ref (s.heap.objs.size + 1)) →
      PySem.IsTupOf2 h' (s.heap.objs.size + 3) .none .none → h'.IsTupleIter s.heap.objs.size p 0 → h'.IsListIter (s.heap.objs.size + 1) q 0 →
      (∀ c o, s.heap.get? c = some o → h'.get? c = some o) → Q (.ref (s.heap.objs.size + 4)) { s with heap := h' }) :
    wpAny (model prog w) A (call (.type "zip") [.ref p, .ref q]) Q E s := by
  refine callType_new F.called_zip (by decide) (F.typeCall_zip_2 _ _) (F.newCall_zip_2 _ _) (fun obj => F.args_object_init_3 obj _ _) F.entry_zip_new (meets_mz p q xs ys) ⟨k1, k2, ?_⟩
  have n1 : (mzA s.heap p).objs.size = s.heap.objs.size + 1 := Heap.size_push ..
  have n2 : (mzB s.heap p q).objs.size = s.heap.objs.size + 2 := by rw [Heap.size_push, n1]
  have n3 : (mzC s.heap p q).objs.size = s.heap.objs.size + 3 := by rw [Heap.size_push, n2]
  have n4 : (mzD s.heap p q).objs.size = s.heap.objs.size + 4 := by rw [Heap.size_push, n3]
  have e5 : (mzE s.heap p q).get? (mzD s.heap p q).objs.size = some _ := Heap.get?_push_size _ rfl
  have e4 : (mzE s.heap p q).get? (mzC s.heap p q).objs.size = some _ := Heap.get?_push_of_some _ (Heap.get?_push_size _ rfl)
  have e3 : (mzE s.heap p q).get? (mzB s.heap p q).objs.size = some _ := Heap.get?_push_of_some _ (Heap.get?_push_of_some _ (Heap.get?_push_size _ rfl))
  have e2 : (mzE s.heap p q).get? (mzA s.heap p).objs.size = some _ := Heap.get?_push_of_some _ (Heap.get?_push_of_some _ (Heap.get?_push_of_some _ (Heap.get?_push_size _ rfl)))
  have e1 : (mzE s.heap p q).get? s.heap.objs.size = some _ := Heap.get?_push_of_some _ (Heap.get?_push_of_some _ (Heap.get?_push_of_some _ (Heap.get?_push_of_some _ (Heap.get?_push_size _ rfl))))
  show _ ∧ _
  rw [n2, n3, n4] at e5
  rw [n1, n2] at e3
  rw [n3] at e4
  rw [n1] at e2
  rw [n4]
  exact ⟨⟨_, e5, rfl⟩, h _ e5 e3 e4 ⟨_, e1, rfl, rfl⟩ ⟨_, e2, rfl, rfl⟩ fun c o x => Heap.get?_push_of_some _ (Heap.get?_push_of_some _ (Heap.get?_push_of_some _ (Heap.get?_push_of_some _ (Heap.get?_push_of_some _ x))))⟩
end
/-- the tuple at a and the list at b as they stand at each turn -/
def ItzM (K : PySem.W.Frag) (a b : Addr) : It :=
  ⟨fun i H => ∃ (xs ys : List V) (x y : V), SqT K H a xs ∧ SqL K H b ys ∧ xs[i]? = some x ∧ ys[i]? = some y,
    fun i H v H' => ∃ T x y, v = .ref T ∧ H T = none ∧ H' = upd H T (.tup [x, y]) ∧ (∀ xs, SqT K H a xs → xs[i]? = some x) ∧ ∀ ys, SqL K H b ys → ys[i]? = some y,
    fun i H => ∃ xs ys : List V, SqT K H a xs ∧ SqL K H b ys ∧ i ≤ xs.length ∧ i ≤ ys.length ∧ (i = xs.length ∨ i = ys.length)⟩
theorem mz_nin (x p q : Nat) (h1 : x ≠ p) (h2 : x ≠ q) : (x : Addr) ∉ ([p, q] : List Addr) := fun e => by
  rcases List.mem_cons.mp e with e | e
  · exact h1 e
  · exact h2 (List.mem_singleton.mp e)
theorem mz_sep (I a b : Nat) (h1 : a < I) (h2 : b < I) : ZipSep2 (I + 4) (I + 2) (I + 3) I (I + 1) [I, a] [I + 1, b] where
  TIz := (by omega : ¬ (I + 2 = I + 4))
  TOz := (by omega : ¬ (I + 3 = I + 4))
  TITO := (by omega : ¬ (I + 2 = I + 3))
  TIi1 := (by omega : ¬ (I + 2 = I))
  mem1 := List.mem_cons_self
  zf1 := mz_nin _ _ _ (by omega) (by omega)
  Tf1 := mz_nin _ _ _ (by omega) (by omega)
  TIi2 := (by omega : ¬ (I + 2 = I + 1))
  mem2 := List.mem_cons_self
  zf2 := mz_nin _ _ _ (by omega) (by omega)
  Tf2 := mz_nin _ _ _ (by omega) (by omega)
  sep1_2 := mz_nin _ _ _ (by omega) (by omega)
  sep2_1 := mz_nin _ _ _ (by omega) (by omega)
theorem turn_mz {P : Program} {w : World} {K : PySem.W.Frag} {elts : List Expr} {kk : Nat} {tpos : Pos} {a b z TI TO i1 i2 : Addr} (D : ZipSep2 z TI TO i1 i2 [i1, a] [i2, b]) (na : a ≠ i1) (nb : b ≠ i2) (n12 : i1 ≠ i2) :
    Turn P w K (.Tuple elts kk tpos) (ItzM K a b) [z, TI, TO, i1, i2] z (fun i h => IsZip h z TI TO .none ∧ IsTupOf2 h TI (.ref i1) (.ref i2) ∧ (∃ x y, IsTupOf2 h TO x y) ∧ h.IsTupleIter i1 a i ∧ h.IsListIter i2 b i) where
  mem := by simp
  obj := fun i h st c hc => by
    obtain ⟨s1, s2, ⟨x, y, s3⟩, ⟨o1, e1, _, d1⟩, ⟨o2, e2, _, d2⟩⟩ := st
    have e' : c = z ∨ c = TI ∨ c = TO ∨ c = i1 ∨ c = i2 := by simpa using hc
    rcases e' with q | q | q | q | q <;> rw [q]
    · exact ⟨_, s1, fun v q => nomatch q⟩
    · exact ⟨_, s2, fun v q => nomatch q⟩
    · exact ⟨_, s3, fun v q => nomatch q⟩
    · exact ⟨o1, e1, fun v q => by rw [d1] at q; cases q⟩
    · exact ⟨o2, e2, fun v q => by rw [d2] at q; cases q⟩
  keep := fun i h h' st k => by
    obtain ⟨s1, s2, ⟨x, y, s3⟩, s4, s5⟩ := st
    exact ⟨k z (by simp) _ s1, k TI (by simp) _ s2, ⟨x, y, k TO (by simp) _ s3⟩, s4.at fun o q => k i1 (by simp) o q, s5.at fun o q => k i2 (by simp) o q⟩
  item := by
    intro X hP hw hK hc i pins s σ H E I hf st hg
    subst hP hw hK
    obtain ⟨t1, t2, ⟨x0, y0, t3⟩, t4, t5⟩ := st
    obtain ⟨xs, ys, x, y, qx, qy, gx, gy⟩ := hg
    obtain ⟨us, ru, pu, _⟩ := I.tuple qx
    obtain ⟨vs, rv, pv, _⟩ := I.list qy
    obtain ⟨u, hu, r1⟩ := ru.get gx
    obtain ⟨v, hv, r2⟩ := rv.get gy
    have hh : X.A.in1.handled = none := I.ok.hd hc
    have b1 : i < us.toArray.size := by have := (List.getElem?_eq_some_iff.mp hu).1; simpa using this
    have b2 : i < vs.toArray.size := by have := (List.getElem?_eq_some_iff.mp hv).1; simpa using this
    have zl : z < s.heap.objs.size := Heap.lt_size t1
    refine wpAny_pyNext_zipD2_item D (Draws.tuple hh i1 a na us.toArray) (Draws.list hh i2 b nb vs.toArray) t1 t2 t3 ⟨t4, pu⟩ ⟨t5, pv.isList⟩ b1 b2 fun x1 x2 h' tk p1 p2 z' o' s4 s5 nw sz hk => ?_
    have e1 : u = x1 := by have : us.toArray[i]? = some x1 := p1; rw [List.getElem?_toArray, hu] at this; exact Option.some.inj this
    have e2 : v = x2 := by have : vs.toArray[i]? = some x2 := p2; rw [List.getElem?_toArray, hv] at this; exact Option.some.inj this
    subst e1 e2
    refine ⟨_, rfl, wpAny_letOwnedTupleGo_zip (s := { s with heap := h', toks := tk }) z' fun h'' z'' sb => ?_⟩
    have nw2 : h''.get? s.heap.objs.size = some { cls := .type "tuple", data := .seq #[u, v] } := (sb.2 _ (Nat.ne_of_gt zl)).trans nw
    have new : ObjOk X.prog X.w (upd H s.heap.objs.size (.tup [x, y])) h'' s.heap.objs.size (.tup [x, y]) :=
      ⟨by show 2 ≤ sizeLine; decide, [u, v], .cons r1 (.cons r2 .nil), ⟨_, nw2, rfl, _, rfl⟩⟩
    have I1 : Inv X pins σ (upd H s.heap.objs.size (.tup [x, y])) { s with heap := h'', toks := tk } :=
      I.turnedNew (t' := tk) (ch := [z, TI, TO, i1, i2]) (fun c o hb q => (sb.2 c (fun q' => hb (by simp [q']))).trans (hk c o (fun q' => hb (by simp [q'])) (fun q' => hb (by simp [q'])) (fun q' => hb (by simp [q'])) (fun q' => hb (by simp [q'])) q)) hf (Nat.le_refl _) new
    refine ⟨.ref s.heap.objs.size, _, I1, rfl, ⟨_, x, y, rfl, I.hok.fresh (Nat.le_refl _), rfl, fun l hl => by rw [I.tuple_inj hl qx]; exact gx, fun l hl => by rw [I.list_inj hl qy]; exact gy⟩, ⟨z'', ?_, ⟨u, v, ?_⟩, ?_, ?_⟩, fun c hcm => ?_⟩
    · exact (sb.2 _ D.TIz).trans (hk _ _ D.TIz D.TITO D.TIi1 D.TIi2 t2)
    · exact (sb.2 _ D.TOz).trans o'
    · exact s4.1.at fun o q => (sb.2 _ D.zi1.symm).trans q
    · exact s5.1.at fun o q => (sb.2 _ D.zi2.symm).trans q
    · obtain ⟨_, e4, _⟩ := t4
      obtain ⟨_, e5, _⟩ := t5
      have hlt : c < s.heap.objs.size := by
        have e' : c = z ∨ c = TI ∨ c = TO ∨ c = i1 ∨ c = i2 := by simpa using hcm
        rcases e' with q | q | q | q | q <;> rw [q]
        · exact zl
        · exact Heap.lt_size t2
        · exact Heap.lt_size t3
        · exact Heap.lt_size e4
        · exact Heap.lt_size e5
      rw [upd_ne (Nat.ne_of_lt hlt)]
      exact (hf c hcm).1
  done := by
    intro X hP hw hK hc i pins s σ H E I hf st hg
    subst hP hw hK
    obtain ⟨t1, t2, ⟨x0, y0, t3⟩, t4, t5⟩ := st
    obtain ⟨xs, ys, qx, qy, l1, l2, hend⟩ := hg
    obtain ⟨us, ru, pu, _⟩ := I.tuple qx
    obtain ⟨vs, rv, pv, _⟩ := I.list qy
    have k1 := ru.length
    have k2 := rv.length
    have hh : X.A.in1.handled = none := I.ok.hd hc
    have z1 : us.toArray.size = xs.length := by rw [List.size_toArray]; exact k1.symm
    have z2 : vs.toArray.size = ys.length := by rw [List.size_toArray]; exact k2.symm
    exact wpAny_pyNext_zipD2_end D (Draws.tuple hh i1 a na us.toArray) (Draws.list hh i2 b nb vs.toArray) t1 t2 t3 ⟨t4, pu⟩ ⟨t5, pv.isList⟩ (by rw [z1]; exact l1) (by rw [z2]; exact l2) (by rw [z1, z2]; exact hend) fun h' tk hk =>
      ⟨rfl, I.turnedL (t' := tk) (ch := [z, TI, TO, i1, i2]) (fun c o hb q => hk c o (fun q' => hb (by simp [q'])) (fun q' => hb (by simp [q'])) (fun q' => hb (by simp [q'])) (fun q' => hb (by simp [q'])) q) hf⟩
  self := fun A i s Q E st h => wpAny_pyIter_zip st.1 h
/-- zip of two lists, of two tuples, of a tuple and a list -/
def iZip3 (K : PySem.W.Frag) (ta : TA) : TI := fun σ H R => ta σ H fun vs H1 => ∃ a b xs ys, vs = [.ref a, .ref b] ∧ ((SqL K H1 a xs ∧ SqL K H1 b ys ∧ R (Itz K a b) H1) ∨ (SqT K H1 a xs ∧ SqT K H1 b ys ∧ R (RZ.ItzT K a b) H1) ∨ (SqT K H1 a xs ∧ SqL K H1 b ys ∧ R (ItzM K a b) H1))
theorem pi_zip3 {X : Cx} {e e2 : Expr} {ta : TA} {p pos tpos : Pos} {elts : List Expr} {kk : Nat} (hg : Gl X "zip") (hm : X.mg "zip" = none) (ha : PA X [e, e2] ta)
    (hs : starEach [e, e2] X.env = (false, eval e X.env) :: starEach [e2] X.env := by rfl) (hpl : (backTo pos (starEach [e2] X.env)).any (·.1) = false := by rfl) : PI X (.Tuple elts kk tpos) (.Call (.Name "zip" p) [e, e2] [] pos) (iZip3 X.K ta) := by
  refine ⟨fun pins s σ H R I h => Call_ (ld_blt I hg hm PyProof.Rows.boot_zip (PyProof.Rows.callWith_type1 (thn (ha.run pos pins s σ H _ I h) fun us s1 ⟨vs, H1, I1, r1, a, b, xs, ys, ex, q1⟩ => ?_) hs hpl))⟩
  subst ex
  cases r1 with
  | cons ra rr =>
  cases rr with
  | cons rb rr =>
  cases rr
  cases ra
  cases rb
  let n := s1.heap.objs.size
  have fp : ∀ c, c ∈ [n + 4, n + 2, n + 3, n, n + 1] → FpOk X pins H1 c := fun c hc => by
    have hle : n ≤ c := by
      have e' : c = n + 4 ∨ c = n + 2 ∨ c = n + 3 ∨ c = n ∨ c = n + 1 := by simpa using hc
      rcases e' with z | z | z | z | z <;> rw [z]
      · exact Nat.le_add_right _ _
      · exact Nat.le_add_right _ _
      · exact Nat.le_add_right _ _
      · exact Nat.le_refl _
      · exact Nat.le_add_right _ _
    exact I1.fpOk hle (I1.hok.fresh hle)
  rcases q1 with ⟨qx, qy, q⟩ | ⟨qx, qy, q⟩ | ⟨qx, qy, q⟩
  · obtain ⟨l1, v1, p1, _⟩ := I1.list qx
    obtain ⟨l2, v2, p2, _⟩ := I1.list qy
    exact call_zip_2 p1.isList p2.isList fun h' hz hTI hTO h1 h2 hsz hk => wpAny_pyIter_zip hz
      ⟨n + 4, [n + 4, n + 2, n + 3, n, n + 1], _, _, H1, rfl, I1.kept (t' := s1.toks) hk, turn_zip (PySem.W.ktu_apart n a b p1.lt p2.lt), ⟨hz, hTI, ⟨_, _, hTO⟩, h1, h2⟩, fp, q⟩
  · obtain ⟨l1, v1, p1, _⟩ := I1.tuple qx
    obtain ⟨l2, v2, p2, _⟩ := I1.tuple qy
    obtain ⟨o1, w1, _⟩ := id p1
    obtain ⟨o2, w2, _⟩ := id p2
    exact RZ.call_zipT (show s1.heap.IsTuple a l1.toArray from p1) (show s1.heap.IsTuple b l2.toArray from p2) fun h' hz hTI hTO h1 h2 hsz hk => wpAny_pyIter_zip hz
      ⟨n + 4, [n + 4, n + 2, n + 3, n, n + 1], _, _, H1, rfl, I1.kept (t' := s1.toks) hk, RZ.turn_zipT (PySem.W.ktu_apart n a b (Heap.lt_size w1) (Heap.lt_size w2)), ⟨hz, hTI, ⟨_, _, hTO⟩, h1, h2⟩, fp, q⟩
  · obtain ⟨l1, v1, p1, _⟩ := I1.tuple qx
    obtain ⟨l2, v2, p2, _⟩ := I1.list qy
    obtain ⟨o1, w1, _⟩ := id p1
    have la : a < n := Heap.lt_size w1
    have lb : b < n := p2.lt
    exact call_mz (show s1.heap.IsTuple a l1.toArray from p1) p2.isList fun h' hz hTI hTO h1 h2 hk => wpAny_pyIter_zip hz
      ⟨n + 4, [n + 4, n + 2, n + 3, n, n + 1], _, _, H1, rfl, I1.kept (t' := s1.toks) hk, turn_mz (mz_sep n a b la lb) (Nat.ne_of_lt la) (Nat.ne_of_lt (Nat.lt_succ_of_lt lb)) (Nat.ne_of_lt (Nat.lt_succ_self n)), ⟨hz, hTI, ⟨_, _, hTO⟩, h1, h2⟩, fp, q⟩
section
variable {B : Bs} {G1 : Hp}
theorem walkD_mz {a b : Addr} {vs us : List V} {ds es : List D} (h : SqT B.K G1 a vs) (r : RpAll B.W G1 vs ds) (h' : SqL B.K G1 b us) (r' : RpAll B.W G1 us es) : WalkD B (ItzM B.K a b) G1 (zipD ds es) := fun H0 G γ σ H sm S => by
  have hs : SqT B.K H a vs := sqT_mono S.sub (sqT_mono sm h)
  have hs' : SqL B.K H b us := S.sub.seq (sm.seq h')
  refine ⟨⟨vs, us, hs, hs', ?_⟩, fun i c hc => ?_⟩
  · rw [zipD_len, r.len, r'.len]
    omega
  obtain ⟨d, e, hd, he, rfl⟩ := zipD_get hc
  obtain ⟨v, hv, rv⟩ := r.get hd
  obtain ⟨u, hu, ru⟩ := r'.get he
  refine ⟨⟨vs, us, v, u, hs, hs', hv, hu⟩, fun x H' ⟨T, x', y', g1, g2, g3, g4, g5⟩ => ?_⟩
  have e1 := g4 vs hs
  have e2 := g5 us hs'
  rw [hv] at e1
  rw [hu] at e2
  cases e1
  cases e2
  subst g1 g3
  exact pair_step (B := withH B H0) S (rv.mono sm) (ru.mono sm) g2
def iZipE (t : DA) : DA := fun γ R => t γ fun ds γ1 => match ds with
  | [.lst xs, .lst ys] => R (zipD xs ys) γ1
  | [.tup xs, .tup ys] => R (zipD xs ys) γ1
  | [.tup xs, .lst ys] => R (zipD xs ys) γ1
  | _ => False
theorem i_zip3 {tg it : Expr} {X : Cx} {t : DA} (h : PI X tg it (iZip3 B.K (tDA B t))) : PI X tg it (tDI B (iZipE t)) := pi_imp h fun σ H R' ⟨G, γ, R, S, h, k⟩ => ⟨G, γ, _, S, h, fun ds γ1 G1 vs H1 q sm S1 r => by
  split at q
  · cases r with
    | cons r1 r2 =>
    cases r2 with
    | cons r2 r3 =>
    cases r3
    cases r1 with
    | lst hs ra =>
    cases r2 with
    | lst hs' ra' => exact ⟨_, _, _, _, rfl, .inl ⟨SqL.of (S1.sub _ _ hs), SqL.of (S1.sub _ _ hs'), k _ _ _ _ _ q sm S1 (walkD_zip (SqL.of hs) ra (SqL.of hs') ra')⟩⟩
  · cases r with
    | cons r1 r2 =>
    cases r2 with
    | cons r2 r3 =>
    cases r3
    cases r1 with
    | tup hs ra =>
    cases r2 with
    | tup hs' ra' => exact ⟨_, _, _, _, rfl, .inr (.inl ⟨hs.sq S1.sub, hs'.sq S1.sub, k _ _ _ _ _ q sm S1 (walkD_zipT hs.sq0 ra hs'.sq0 ra')⟩)⟩
  · cases r with
    | cons r1 r2 =>
    cases r2 with
    | cons r2 r3 =>
    cases r3
    cases r1 with
    | tup hs ra =>
    cases r2 with
    | lst hs' ra' => exact ⟨_, _, _, _, rfl, .inr (.inr ⟨hs.sq S1.sub, SqL.of (S1.sub _ _ hs'), k _ _ _ _ _ q sm S1 (walkD_mz hs.sq0 ra (SqL.of hs') ra')⟩)⟩
  · exact q.elim⟩
end
end EL
namespace EL
open PySem PySem.Spec PyProof.Rows L2
section
variable {X : Cx} {B : Bs} {G G' G1 : Hp} {γ γ' : Gm} {σ σ' : L2.St} {H H' : Hp} {e a b : Expr} {ta tb t : DT} {pos : Pos} {st : Stmt} {p : Addr}
/-! ### {} -/
def fDnew : DKv := fun γ R => R [] γ
theorem f_dnew (h : PE X e tDNewK) : PE X e (tDFd B fDnew) := pe_imp h fun σ H Q ⟨G, γ, R, S, h, k⟩ p hp =>
  k _ _ _ _ _ _ h (Same.refl _) (S.laid (fun _ z => nomatch z) hp) upd_same .nil (S.free0 hp) (S.sub.free hp) (S.noslot hp)
/-! ### dict of a list of pairs -/
def pairsOf : List D → Option (List (Key × D))
  | [] => some []
  | .tup [k, v] :: r => match keyD k, pairsOf r with
    | some key, some kvs => some ((key, v) :: kvs)
    | _, _ => none
  | _ :: _ => none
def fDictP (t : DA) : DKv := fun γ R => t γ fun ds γ1 => match ds with
  | [.lst xs] => match pairsOf xs with
    | some kvs => R (mergeD [] kvs) γ1
    | none => False
  | _ => False
def rDictP (X : Cx) : List V → Hp → VK → Prop := fun xs H Q => ∃ (a : Addr) (ps : List Addr) (kvs : List (Key × V)), xs = [.ref a] ∧ SqL X.K H a (ps.map V.ref) ∧ Paired (fun p kv => SqT X.K H p [kV kv.1, kv.2]) ps kvs ∧ ∀ p, H p = none → Q (.ref p) (upd H p (.dK (mergeK [] kvs)))
theorem pairs_rp {W : Cw} : ∀ {xs : List D} {vs : List V} {kvs : List (Key × D)}, RpAll W G vs xs → pairsOf xs = some kvs → ∃ (ps : List Addr) (us : List (Key × V)), vs = ps.map V.ref ∧ Paired (fun p kv => TupAt W G p [kV kv.1, kv.2]) ps us ∧ RpKv W G us kvs
  | [], _, kvs, .nil, h => by cases h; exact ⟨[], [], rfl, .nil, .nil⟩
  | x :: xs, _, kvs, .cons r t, h => by
    unfold pairsOf at h
    split at h
    · rename_i h0
      cases h0
    · rename_i k v r' e
      cases e
      split at h
      · rename_i key kvs' h1 h2
        cases h
        obtain ⟨ps, us, e1, e2, e3⟩ := pairs_rp t h2
        cases r with
        | @tup a vs' _ hs ra =>
          cases ra with
          | cons ra rb =>
            cases rb with
            | cons rb rc =>
              cases rc
              rename_i va vb
              refine ⟨a :: ps, (key, vb) :: us, by rw [e1]; rfl, .cons ?_ e2, .cons rb e3⟩
              have := rp_key ra h1
              subst this
              exact hs
      · cases h
    · cases h
theorem paired_imp {α β : Type} {P P' : α → β → Prop} (h : ∀ x y, P x y → P' x y) : ∀ {xs : List α} {ys : List β}, Paired P xs ys → Paired P' xs ys
  | _, _, .nil => .nil
  | _, _, .cons a b => .cons (h _ _ a) (paired_imp h b)
theorem f_dictP {ta : DA} (hK : X.K = B.K) (h : PE X e (tCB (rDictP X) (tDA B ta))) : PE X e (tDFd B (fDictP ta)) := pe_imp h fun σ H Q ⟨G, γ, R, S, h, k⟩ =>
  ⟨G, γ, _, S, h, fun ds γ1 G1 vs H1 q sm S1 r => by
    split at q
    · rename_i xs
      cases qe : pairsOf xs with
      | none => rw [qe] at q; exact q.elim
      | some kvs =>
        rw [qe] at q
        cases r with
        | cons r1 r2 =>
          cases r2
          cases r1 with
          | @lst a vs _ hs ra =>
            obtain ⟨ps, us, e1, e2, e3⟩ := pairs_rp ra qe
            subst e1
            refine ⟨a, ps, us, rfl, by rw [hK]; exact SqL.of (S1.sub _ _ hs), paired_imp (fun x y z => by rw [hK]; exact z.sq S1.sub) e2, fun p hp => ?_⟩
            exact k _ _ _ _ _ _ q sm (S1.laid (fun _ z => nomatch z) hp) upd_same (rp_merge e3 .nil) (S1.free0 hp) (S1.sub.free hp) (S1.noslot hp)
    · exact q.elim⟩
/-! ### two new dicts and one thing more, stored at once -/
def sPar3D (i j l : Nat) (t : DT) : DS := fun E γ => t γ fun d γ1 => ∀ p q, E.nx (putS (putS (putS γ1 i (.ownD p [])) j (.ownD q [])) l (.fz d))
theorem s_par3D {i j l : Nat} (hij : i ≠ j) (h : PS X st (tPar3 i j l (tCons tDNewK (tCons tDNewK (tCons (tDx B t) tNil))))) : PS X st (tDS B (sPar3D i j l t)) := ps_imp h fun De σ H ⟨G, γ, E, S, h, F⟩ => by
  intro p hp q hq
  have hdk : ∀ d c, B.W.dk = some (d, c) → B.H0 d ≠ none ∧ B.H0 c ≠ none := fun d c e => ⟨(S.dkok d c e).2.1, (S.dkok d c e).2.2.1⟩
  have hpq : p ≠ q := fun z => by rw [z, upd_same] at hq; cases hq
  have S1 := (S.laid (o := .dK []) (fun _ z => nomatch z) hp).hide upd_same (S.sub.free hp) (S.free0 hp) (S.noslot hp)
  have S2 := (S1.laid (o := .dK []) (fun _ z => nomatch z) hq).hide upd_same (S1.sub.free hq) (S1.free0 hq) (S1.noslot hq)
  have hdk1 : ∀ d c, B.W.dk = some (d, c) → upd B.H0 p (.dK []) d ≠ none ∧ upd B.H0 p (.dK []) c ≠ none := fun d c e => ⟨(S1.dkok d c e).2.1, (S1.dkok d c e).2.2.1⟩
  refine ⟨_, G, γ, _, S2, h, fun d γ1 G1 v H1 q1 sm S3 r => ?_⟩
  obtain ⟨S4, hq2, gq2, nq2⟩ := Dst.unhide (B := withH B (upd B.H0 p (.dK []))) S3 (S1.free0 hq) (S.sub0.free (S1.sub.free hq)) hdk1
  obtain ⟨S5, hp2, gp2, np2⟩ := Dst.unhide (B := B) S4 (S.free0 hp) (S.sub0.free (S.sub.free hp)) hdk
  have q0 : B.H0 q = none := by
    have := S1.free0 hq
    have e : upd B.H0 p (.dK []) q = none := this
    rwa [upd_ne (fun z => hpq z.symm)] at e
  refine ⟨_, _, _, rfl, ?_⟩
  have q2 := q1 p q
  rw [putS_eq, putS_eq, putS_eq] at q2
  have S6 := slot_set S5 (i := i) (v := .ref p) (s := .ownD p []) ⟨rfl, _, hp2, .nil⟩ (fun p' hp' => by
    cases List.mem_singleton.mp hp'
    exact ⟨S.free0 hp, gp2, fun j t _ e => np2 j t e⟩)
  have S7 := slot_set S6 (i := j) (v := .ref q) (s := .ownD q []) ⟨rfl, _, hq2, .nil⟩ (fun p' hp' => by
    cases List.mem_singleton.mp hp'
    refine ⟨q0, gq2, fun j' t hj e => ?_⟩
    by_cases z : i = j'
    · subst z
      by_cases li : i < γ1.sl.length
      · rw [List.getElem?_set_self li] at e
        cases e
        exact fun z => hpq (List.mem_singleton.mp z).symm
      · rw [List.getElem?_eq_none (by rw [List.length_set]; omega)] at e
        cases e
    · rw [List.getElem?_set_ne z] at e
      exact nq2 j' t e)
  exact F.nx _ _ _ _ q2 sm (S7.set r)
end
section
variable {X : Cx} {B : Bs} {t : DT} {st : Stmt}
/-- the same by a tuple, where a name is a cell -/
theorem s_asg3D {i j l : Nat} (hij : i ≠ j) (h : PS X st (tAsg (tTup (tCons tDNewK (tCons tDNewK (tCons (tDx B t) tNil)))) (gTup X.K 3 (gCons (gName i) (gCons (gName j) (gCons (gName l) gNil)))))) : PS X st (tDS B (sPar3D i j l t)) := ps_imp h fun De σ H ⟨G, γ, E, S, h, F⟩ => by
  intro p hp q hq
  have hdk : ∀ d c, B.W.dk = some (d, c) → B.H0 d ≠ none ∧ B.H0 c ≠ none := fun d c e => ⟨(S.dkok d c e).2.1, (S.dkok d c e).2.2.1⟩
  have hpq : p ≠ q := fun z => by rw [z, upd_same] at hq; cases hq
  have S1 := (S.laid (o := .dK []) (fun _ z => nomatch z) hp).hide upd_same (S.sub.free hp) (S.free0 hp) (S.noslot hp)
  have S2 := (S1.laid (o := .dK []) (fun _ z => nomatch z) hq).hide upd_same (S1.sub.free hq) (S1.free0 hq) (S1.noslot hq)
  have hdk1 : ∀ d c, B.W.dk = some (d, c) → upd B.H0 p (.dK []) d ≠ none ∧ upd B.H0 p (.dK []) c ≠ none := fun d c e => ⟨(S1.dkok d c e).2.1, (S1.dkok d c e).2.2.1⟩
  refine ⟨_, G, γ, _, S2, h, fun d γ1 G1 v H1 q1 sm S3 r => ?_⟩
  obtain ⟨S4, hq2, gq2, nq2⟩ := Dst.unhide (B := withH B (upd B.H0 p (.dK []))) S3 (S1.free0 hq) (S.sub0.free (S1.sub.free hq)) hdk1
  obtain ⟨S5, hp2, gp2, np2⟩ := Dst.unhide (B := B) S4 (S.free0 hp) (S.sub0.free (S.sub.free hp)) hdk
  have q0 : B.H0 q = none := by
    have := S1.free0 hq
    have e : upd B.H0 p (.dK []) q = none := this
    rwa [upd_ne (fun z => hpq z.symm)] at e
  refine ⟨by show 3 ≤ sizeLine; decide, fun T hT => ?_⟩
  obtain ⟨S8, sm8⟩ := S5.new (o := .tup [.ref p, .ref q, v]) hT
  have nTp : p ≠ T := fun z => by rw [z, hT] at hp2; cases hp2
  have nTq : q ≠ T := fun z => by rw [z, hT] at hq2; cases hq2
  refine ⟨T, _, rfl, SqT.of upd_same, rfl, _, _, rfl, _, _, rfl, _, _, rfl, rfl, ?_⟩
  have q2 := q1 p q
  rw [putS_eq, putS_eq, putS_eq] at q2
  have S6 := slot_set S8 (i := i) (v := .ref p) (s := .ownD p []) ⟨rfl, _, (upd_ne nTp).trans hp2, .nil⟩ (fun p' hp' => by
    cases List.mem_singleton.mp hp'
    exact ⟨S.free0 hp, (upd_ne nTp).trans gp2, fun j t _ e => np2 j t e⟩)
  have S7 := slot_set S6 (i := j) (v := .ref q) (s := .ownD q []) ⟨rfl, _, (upd_ne nTq).trans hq2, .nil⟩ (fun p' hp' => by
    cases List.mem_singleton.mp hp'
    refine ⟨q0, (upd_ne nTq).trans gq2, fun j' t hj e => ?_⟩
    by_cases z : i = j'
    · subst z
      by_cases li : i < γ1.sl.length
      · rw [List.getElem?_set_self li] at e
        cases e
        exact fun z => hpq (List.mem_singleton.mp z).symm
      · rw [List.getElem?_eq_none (by rw [List.length_set]; omega)] at e
        cases e
    · rw [List.getElem?_set_ne z] at e
      exact nq2 j' t e)
  exact F.nx _ _ _ _ q2 (sm.trans sm8) (S7.set (r.mono sm8))
end
/-! ### what stands in a dict behind a store -/
section
variable {α : Type}
theorem getK_setA {key key' : Key} {v : α} (h : key' ≠ key) : ∀ kvs : List (Key × α), getK key' (setK.setA key v kvs) = getK key' kvs
  | [] => rfl
  | (k, x) :: r => by
    have ih := getK_setA (v := v) h r
    unfold setK.setA getK
    dsimp only
    by_cases e : keyEq k key = true
    · rw [if_pos e]
      have e2 := keyEq_iff.mp e
      subst e2
      have n : ¬ keyEq k key' = true := fun z => h (keyEq_iff.mp z).symm
      dsimp only
      rw [if_neg n, if_neg n, ih]
    · rw [if_neg e]
      dsimp only
      rw [ih]
theorem getK_setK {key key' : Key} {v : α} (h : key' ≠ key) : ∀ kvs : List (Key × α), getK key' (setK key v kvs) = getK key' kvs
  | [] => by
    unfold setK getK
    dsimp only
    rw [if_neg (fun z => h (keyEq_iff.mp z).symm)]
    rfl
  | (k, x) :: r => by
    have ih := getK_setK (v := v) h r
    unfold setK
    dsimp only
    by_cases e : keyEq k key = true
    · rw [if_pos e]
      have e2 := keyEq_iff.mp e
      subst e2
      have n : ¬ keyEq k key' = true := fun z => h (keyEq_iff.mp z).symm
      unfold getK
      dsimp only
      rw [if_neg n, if_neg n, getK_setA h]
    · rw [if_neg e]
      unfold getK
      dsimp only
      rw [ih]
theorem getK_setK0 {key : Key} {v : α} : ∀ kvs : List (Key × α), getK key (setK key v kvs) = some v
  | [] => by
    unfold setK getK
    dsimp only
    rw [if_pos (keyEq_iff.mpr rfl)]
  | (k, x) :: r => by
    have ih := getK_setK0 (key := key) (v := v) r
    unfold setK
    dsimp only
    by_cases e : keyEq k key = true
    · rw [if_pos e]
      unfold getK
      dsimp only
      rw [if_pos e]
    · rw [if_neg e]
      unfold getK
      dsimp only
      rw [if_neg e, ih]
theorem setA_len {key : Key} {v : α} : ∀ kvs : List (Key × α), (setK.setA key v kvs).length = kvs.length
  | [] => rfl
  | kv :: r => by
    unfold setK.setA
    rw [List.length_cons, List.length_cons, setA_len r]
theorem setK_len {key : Key} {v : α} : ∀ kvs : List (Key × α), (setK key v kvs).length ≤ kvs.length + 1
  | [] => Nat.le_refl _
  | (k, x) :: r => by
    have ih := setK_len (key := key) (v := v) r
    unfold setK
    dsimp only
    split
    · rw [List.length_cons, List.length_cons, setA_len]; omega
    · rw [List.length_cons, List.length_cons]; omega
theorem getK_ne {kvs : List (Key × α)} {k : Key} (h : ∀ p ∈ kvs, p.1 ≠ k) : getK k kvs = none := by
  induction kvs with
  | nil => rfl
  | cons p r ih =>
    unfold getK
    rw [if_neg (fun z => h p List.mem_cons_self (keyEq_iff.mp z)), ih fun q hq => h q (List.mem_cons_of_mem _ hq)]
end
/-! ### repr of data, leaves too -/
def rReprA (K : PySem.W.Frag) : List V → Hp → VK → Prop := fun xs H Q =>
  (xs = [.non] ∧ Q (.str (PyData.none).shown) H) ∨ (∃ i : Int, xs = [.int i] ∧ i.natAbs.log2 < 1920 ∧ Q (.str (PyData.int i).shown) H) ∨ PH.rRepr K xs H Q
theorem cr_reprA {X : Cx} {k : Nat} (hg : X.A.guards = some []) (hr : Room k X.A) : CallR X (.builtin "repr") (rReprA X.K) := by
  intro pins s σ H xs us Q I r h
  rcases h with ⟨rfl, q⟩ | ⟨i, rfl, hi, q⟩ | h
  · obtain ⟨u, rfl, ru⟩ := vals1 r
    cases ru
    exact PySem.P.repr_of_none ⟨.str _, H, I.tok _, ⟨_, rfl⟩, q⟩
  · obtain ⟨u, rfl, ru⟩ := vals1 r
    obtain ⟨t, rfl⟩ := ru
    exact PySem.P.repr_of_int hi ⟨.str _, H, I.tok _, ⟨_, rfl⟩, q⟩
  · exact PH.cr_repr hg hr pins s σ H xs us Q I r h
def reprA : FC := fun ds R => match ds with
  | [.tup xs] => showOk (.tup xs) ∧ R (.str (shownD (.tup xs)))
  | [.lst xs] => showOk (.lst xs) ∧ R (.str (shownD (.lst xs)))
  | [.non] => R (.str (shownD .non))
  | [.int i] => i.natAbs.log2 < 1920 ∧ R (.str (shownD (.int i)))
  | _ => False
theorem ok_reprA {X : Cx} {B : Bs} (hK : X.K = B.K) : OkRC B (rReprA X.K) reprA := by
  intro G γ σ H vs ds R Q S r h k
  unfold reprA at h
  split at h
  · exact .inr (.inr (ok_repr hK G γ σ H vs _ R Q S r h k))
  · exact .inr (.inr (ok_repr hK G γ σ H vs _ R Q S r h k))
  · cases r with
    | cons r1 r2 =>
      cases r2
      cases r1
      exact .inl ⟨rfl, k _ _ _ _ h (Same.refl _) S (.str _)⟩
  · cases r with
    | cons r1 r2 =>
      cases r2
      cases rpInt r1
      exact .inr (.inl ⟨_, rfl, h.1, k _ _ _ _ h.2 (Same.refl _) S (.str _)⟩)
  · exact h.elim
/-! ### defs called with keywords -/
def dCallK (c n : Nat) (F : FD) (cost : Nat) (g : List D → List D → List D) (ta tk : DA) : DT := fun γ R => ta γ fun ds γ1 => tk γ1 fun es γ2 => (g ds es).length = n ∧ γ2.ct + c ≤ cost ∧ F (g ds es) (fun d => R d (plusC γ2 c)) noX
/-- how keywords are put in their places: by values, by data, alike -/
structure Puts (gV : List V → List V → List V) (gD : List D → List D → List D) : Prop where
  to : ∀ {W : Cw} {G : Hp} {vs zs : List V} {ds es : List D}, RpAll W G vs ds → RpAll W G zs es → RpAll W G (gV vs zs) (gD ds es)
section
variable {X : Cx} {B : Bs} {e : Expr} {E : XK} {ta tk : DA} {c n : Nat} {F : FD} {gV : List V → List V → List V} {gD : List D → List D → List D} {DkF : Nat → Hp → Addr → Addr → Prop}
theorem d_callK (hB : DkK B DkF) (P : Puts gV gD) (h : PE X e (tCallK (spD B.K B.W.cl DkF c n F) gV E (tDA B ta) (tDA B tk))) : PE X e (tD B (dCallK c n F B.cost gD ta tk)) := pe_imp h fun σ H Q ⟨G, γ, R, S, h, k⟩ =>
  ⟨G, γ, _, S, h, fun ds γ1 G1 vs H1 h1 sm S1 r => ⟨G1, γ1, _, S1, h1, fun es γ2 G2 zs H2 ⟨hl, hc, hF⟩ sm2 S2 r2 => by
    exact sp_run hB.is hB.law hB.up S2 hc (P.to (r.mono sm2) r2) hl hF (fun d G' v H' hR s' S' r' => k _ _ _ _ _ hR (sm.trans (sm2.trans s')) S' r') fun _ _ _ _ _ _ z => z.elim⟩⟩
/-- no place, keywords alone -/
theorem pe_callKw {f : Addr} {fd : FuncData} {ps ks : List Str} {sp : Sp} {CX : CXT} {kk : Nat} {x : Str} {p pos : Pos} {kws : List Keyword} {tq : TA} {g : List Value → List Value → List Value}
    (Fn : FnOk X.prog X.w X.K X.mg X.base CX kk f fd ps sp) (hr : Room kk X.A) (hg : Gl X x) (hm : X.mg x = some (.ref f)) (hk : PySem.W.keepIn X.K (.ref f) = true) (hb : KBinds X.K fd ps ks g gV) (hx : Passes CX X E) (hkw : PK X kws tq)
    (hall : (backToKw pos (keywordEach kws X.env)).all (·.1.isSome) = true := by rfl) (hks : (backToKw pos (keywordEach kws X.env)).filterMap (·.1) = ks := by rfl)
    (hdb : (x == ("__debug__" : Str)) = false := by decide)
    (hpl : ((backTo pos (starEach [] X.env)).any (·.1) || (backToKw pos (keywordEach kws X.env)).any (·.1.isNone)) = false := by rfl) :
    PE X (.Call (.Name x p) [] kws pos) (tCallK sp gV E tNil tq) := by
  refine ⟨fun pins s σ H Q I h => ?_⟩
  refine wpAny_Call_Name_kw (ld_glob I hg hm ?_ hdb)
  refine PySem.W.callWith_KW0 (first := []) (h₀ := X.base) I.ok.mod.kin hk hall (thn (hkw.run pos pins s σ H _ I h) fun ws s2 ⟨zs, H2, I2, rz, q2⟩ => ⟨I2.kIn, ?_⟩) hpl
  rw [hks]
  have r2 : Vals (gV [] zs) (g [] ws) := hb.rel .nil rz
  have hl := Fn.len _ _ _ _ q2
  have hl2 : (g [] ws).length = ps.length := by rw [← r2.length]; exact hl
  refine wpAny_call (codeAny_mono (Fn.run X.A X.stack s2 H2 ⟨[], ks.zip ws⟩ (g [] ws) (gV [] zs) Q E hr I2.env0 (hb.to s2 [] ws I2.kIn hl2) r2 q2) fun r s' hq => ?_)
  cases r with
  | error e => exact hx pins σ H2 s2 e s' I2 hq
  | ok fl =>
    cases fl with
    | ret u => exact I2.after hq
    | next => exact False.elim hq
    | brk => exact False.elim hq
    | cont => exact False.elim hq
theorem d_callKw (hB : DkK B DkF) (P : Puts gV gD) (h : PE X e (tCallK (spD B.K B.W.cl DkF c n F) gV E tNil (tDA B tk))) : PE X e (tD B (dCallK c n F B.cost gD aNil tk)) := pe_imp h fun σ H Q ⟨G, γ, R, S, h, k⟩ =>
  ⟨G, γ, _, S, h, fun es γ2 G2 zs H2 ⟨hl, hc, hF⟩ sm2 S2 r2 => by
    exact sp_run hB.is hB.law hB.up S2 hc (P.to .nil r2) hl hF (fun d G' v H' hR s' S' r' => k _ _ _ _ _ hR (sm2.trans s') S' r') fun _ _ _ _ _ _ z => z.elim⟩
end
/-- the keywords' values as they stand, behind the placed ones -/
theorem puts_cat : Puts (fun vs zs => vs ++ zs) (fun ds es => ds ++ es) := ⟨fun r1 r2 => r1.app r2⟩
/-- two keywords, turned about -/
theorem puts_rev : Puts (fun vs zs => vs ++ zs.reverse) (fun ds es => ds ++ es.reverse) := ⟨fun r1 r2 => r1.app r2.rev⟩
/-! ### keywords bound -/
section
variable {X : Cx} {B : Bs} {e : Expr} {t : DT}
theorem k_nil : PK X [] (tDA B aNil) := ⟨fun pos pins s σ H Q I ⟨_, _, _, S, h, k⟩ => pk_nil.run pos pins s σ H Q I (k _ _ _ _ _ h (Same.refl _) S .nil)⟩
theorem k_cons {kws : List Keyword} {nm : Option Str} {kpos : Pos} {tr : DA} (ha : PE X e (tD B t)) (hr : PK X kws (tDA B tr)) : PK X (⟨nm, e, kpos⟩ :: kws) (tDA B (aCons t tr)) :=
  ⟨fun pos pins s σ H Q I q => (pk_cons (nm := nm) (kpos := kpos) ha hr).run pos pins s σ H Q I (acons_core σ H Q q)⟩
theorem vals_app : ∀ {vs : List V} {us : List Value} {ws : List V} {xs : List Value}, Vals vs us → Vals ws xs → Vals (vs ++ ws) (us ++ xs)
  | _, _, _, _, .nil, h => h
  | _, _, _, _, .cons a r, h => .cons a (vals_app r h)
theorem vals_rev : ∀ {vs : List V} {us : List Value}, Vals vs us → Vals vs.reverse us.reverse
  | _, _, .nil => .nil
  | _, _, .cons a r => by
    rw [List.reverse_cons, List.reverse_cons]
    exact vals_app (vals_rev r) (.cons a .nil)
theorem kb_rev {K : PySem.W.Frag} {x qual : Str} {st : Stmt} {f : Addr} {fd : FuncData} {ps ks : List Str} (F : Fun K x qual st f fd)
    (h : ∀ (kV doc pm : Value) (an : Option Addr) (cdv ct : Value) (us ws : List Value), (us ++ ws.reverse).length = ps.length → bindArgs (PySem.W.fnOf x qual (defArgs st) (defBody st) (defScope st) .none kV doc pm an cdv ct) ⟨us, ks.zip ws⟩ = pure (ps.zip (us ++ ws.reverse))) :
    KBinds K fd ps ks (fun us ws => us ++ ws.reverse) (fun vs zs => vs ++ zs.reverse) := by
  obtain ⟨oc, od, kV, doc, pm, an, cdv, ct, osl, rfl, lk, hcd⟩ := F.ex
  exact ⟨fun s us ws _ hl => .of_eq (h kV doc pm an cdv ct us ws hl), fun a b => vals_app a (vals_rev b)⟩
theorem kb_cat {K : PySem.W.Frag} {x qual : Str} {st : Stmt} {f : Addr} {fd : FuncData} {ps ks : List Str} (F : Fun K x qual st f fd)
    (h : ∀ (kV doc pm : Value) (an : Option Addr) (cdv ct : Value) (us ws : List Value), (us ++ ws).length = ps.length → bindArgs (PySem.W.fnOf x qual (defArgs st) (defBody st) (defScope st) .none kV doc pm an cdv ct) ⟨us, ks.zip ws⟩ = pure (ps.zip (us ++ ws))) :
    KBinds K fd ps ks (fun us ws => us ++ ws) (fun vs zs => vs ++ zs) := by
  obtain ⟨oc, od, kV, doc, pm, an, cdv, ct, osl, rfl, lk, hcd⟩ := F.ex
  exact ⟨fun s us ws _ hl => .of_eq (h kV doc pm an cdv ct us ws hl), fun a b => vals_app a b⟩
end
section
variable {X : Cx} {B : Bs} {e : Expr} {E : XK} {ta tk : DA} {c n : Nat} {F : FD} {gV : List V → List V → List V} {gD : List D → List D → List D} {DkF : Nat → Hp → Addr → Addr → Prop}
theorem d_callKwc {cc : Nat} (hcc : B.cost = cc) (hB : DkK B DkF) (P : Puts gV gD) (h : PE X e (tCallK (spD B.K B.W.cl DkF c n F) gV E tNil (tDA B tk))) : PE X e (tD B (dCallK c n F cc gD aNil tk)) := by
  subst hcc
  exact d_callKw hB P h
theorem d_callKc {cc : Nat} (hcc : B.cost = cc) (hB : DkK B DkF) (P : Puts gV gD) (h : PE X e (tCallK (spD B.K B.W.cl DkF c n F) gV E (tDA B ta) (tDA B tk))) : PE X e (tD B (dCallK c n F cc gD ta tk)) := by
  subst hcc
  exact d_callK hB P h
end
/-! ### a list taken apart -/
section
variable {X : Cx} {B : Bs}
def bL (bs : List D → Gm → (Gm → Prop) → Prop) : BdT := fun d γ R => match d with
  | .lst ds => bs ds γ R
  | _ => False
theorem g_lst {tg : Expr} {n : Nat} {vs : List Nat} {bs} (hl : BLen bs n) (h : PG X tg (gLst B.K n (tDGs B vs bs))) : PG X tg (tDG B vs (bL bs)) := pg_imp h fun v σ H Q ⟨G, γ, d, R, S, r, q, k⟩ => by
  unfold bL at q
  split at q
  · cases r with
    | lst hs ra => exact ⟨_, _, rfl, SqL.of (S.sub _ _ hs), by rw [ra.len]; exact hl _ _ _ q, G, γ, _, R, S, ra, q, k⟩
  · exact q.elim
end
end EL
namespace EL
open PySem PySem.Spec PyProof.Rows L2
/-! ### tuple(d.values()) -/
section
variable {X : Cx} {B : Bs} {G : Hp} {γ : Gm} {σ : L2.St} {H : Hp} {e : Expr} {t : DT}
theorem mt_dvals : MtR X "dict.values" (fun x xs H Q => ∃ d kvs, x = .ref d ∧ xs = [] ∧ H d = some (.dK kvs) ∧ ∀ p, H p = none → Q (.ref p) (upd H p (viewO "dict_values" p d))) := by
  rintro pins s σ H x xs v us Q I rx rxs ⟨d, kvs, rfl, rfl, hd, q⟩
  cases rxs
  obtain rfl : v = Value.ref d := rx
  obtain ⟨hl, ns, vs, kv, hm⟩ := I.hok d _ hd
  refine call_meetsIn PySem.F.slot_dict_values hm.typeIs PySem.F.entry_dict_values (PySem.F.args_dict_values_1 _) (meets_dict_values (mixKind X.prog X.w) d ns) ⟨⟨vs, hm⟩, ?_⟩
  refine ⟨.ref _, _, I.laid (t' := s.toks) (o := viewO "dict_values" s.heap.objs.size d) (fun b o q => Heap.get?_push_of_some _ q) (Nat.le_refl _) ?_, rfl, q _ (I.hok.fresh (Nat.le_refl _))⟩
  refine ⟨Heap.get?_push_size _ rfl, ⟨_, Heap.get?_push_size _ rfl⟩, fun h1 h2 a1 a2 => a2 _ a1⟩
theorem meets_tuple_view {prog : Program} {w : World} {T : String} {r d : Addr} {n : Nat} {P : Nat → Value → Prop} {OK : Heap → Prop} (K : PySem.W.KdlSrc prog w T r d n P OK) :
    MeetsIn prog w (Builtin.«tuple.__new__» ⟨[.type "tuple", .ref r], []⟩) (fun A R s => A.handled = none ∧ OK s.heap ∧ n ≤ sizeLine ∧ ∀ (h' : Heap) (tk : Nat) (acc : Array Value), (∀ b o, s.heap.get? b = some o → h'.get? b = some o) → ItemsOf P acc n →
      R (.ok (.ret (.ref h'.objs.size))) { s with heap := h'.push { cls := .type "tuple", data := .seq acc }, toks := tk }) := by
  rintro A R s ⟨hA, hok, hn, h⟩
  have hA1 : A.in1.handled = none := hA
  have hsub := PySem.F.sub_tuple_tuple
  have hmade := PySem.madeHere_tuple
  have hinit : typeLookup (.type "tuple") (Str.ofString "__init__") = pure (some (.builtin "object.__init__")) := by rfl
  have hT := K.type s hok
  have hx : ∀ {Q : Bool → Shared → Prop} {E : Value → Shared → Prop}, Q false s → wpAny (model prog w) A.in1 (Builtin.Tuple.tupleIsExact (.ref r)) Q E s := fun {Q E} q => by
    unfold Builtin.Tuple.tupleIsExact
    refine wpAny_bind (wpAny_typeOf hT ?_)
    rw [K.notTuple]
    exact wpAny_pure q
  wp_walk using hx, PySem.W.kdu_collect K hA1 hok hn
  intro h' tk acc k a
  have hfit : sizeOk (.seq acc.toList.toArray) := by
    show acc.toList.toArray.size ≤ sizeLine
    have := a.1
    simp
    omega
  refine wpAny_bind (wpAny_pure ?_)
  refine wpAny_bind (m := Builtin.Tuple.tupleExact _) (wpAny_newObj_type (wpAny_pure ?_) hfit)
  have := h h' tk acc k a
  simpa using this
theorem call_tuple_view {prog : Program} {w : World} {A : Around} {E : Value → Shared → Prop} {s : Shared} {T : String} {r d : Addr} {n : Nat} {P : Nat → Value → Prop} {OK : Heap → Prop} {Q : Value → Shared → Prop} (K : PySem.W.KdlSrc prog w T r d n P OK)
    (hA : A.handled = none) (hok : OK s.heap) (hn : n ≤ sizeLine) (h : ∀ (h' : Heap) (tk : Nat) (acc : Array Value), (∀ b o, s.heap.get? b = some o → h'.get? b = some o) → ItemsOf P acc n →
      Q (.ref h'.objs.size) { s with heap := h'.push { cls := .type "tuple", data := .seq acc }, toks := tk }) : wpAny (model prog w) A (call (.type "tuple") [.ref r]) Q E s := by
  refine callType_meetsIn (Q₁ := fun obj s₁ => s₁.TypeIs obj "tuple" ∧ Q obj s₁) PySem.F.called_tuple (PySem.F.typeCall_tuple_1 _) (PySem.F.newCall_tuple_1 _) PySem.F.entry_tuple_new PySem.F.entry_object_init (meets_tuple_view K) ⟨hA, hok, hn, fun h' tk acc k a => ?_⟩ ?_
  · exact ⟨⟨_, Heap.get?_push_size _ rfl, rfl⟩, h h' tk acc k a⟩
  · rintro obj s₁ ⟨ht, hq⟩
    exact ⟨ht, PySem.F.args_object_init_2 _ _, _, object_init_meets (newId := "tuple.__new__") PySem.init_tuple_lookup PySem.F.called_tuple.made (by decide), ht, rfl, hq⟩
theorem kv_vals {kvs : List (Key × V)} {vs : List (Key × Value)} (h : KV kvs vs) : Vals (kvs.map (·.2)) (vs.map (·.2)) := by
  unfold KV at h
  induction h with
  | nil => exact .nil
  | cons a _ ih => exact .cons a.2 ih
/-- tuple(d.values()) -/
theorem cr_tupVals (hc : X.calm = true) : CallR X (.type "tuple") (fun xs H Q => ∃ p d kvs, xs = [.ref p] ∧ H p = some (viewO "dict_values" p d) ∧ H d = some (.dK kvs) ∧ ∀ l, H l = none → Q (.ref l) (upd H l (.tup (kvs.map (·.2))))) := by
  rintro pins s σ H xs us Q I rx ⟨p, d, kvs, rfl, hp, hd, q⟩
  obtain ⟨u, rfl, ru⟩ := vals1 rx
  obtain rfl : u = Value.ref p := ru
  obtain ⟨hl, ns, vs, kv, ob, es, ep, hm⟩ := I.hok d _ hd
  obtain ⟨hv, _⟩ := I.hok p _ hp
  have hh : X.A.handled = none := I.ok.hd hc
  have lv : kvs.length = vs.length := kv.length
  refine call_tuple_view (PySem.W.kdl_values (knd := mixKind X.prog X.w) (d := d) (r := p) (kvs := vs) (ep := ep)) hh ⟨⟨_, hv, rfl, rfl⟩, ob, es, hm⟩ (by omega) fun h' tk acc k a => ?_
  have ea : acc.toList = vs.map (·.2) := by
    refine List.ext_getElem? fun i => ?_
    rw [List.getElem?_map]
    cases e : acc[i]? with
    | none =>
      have h1 : acc.toList[i]? = none := by rw [Array.getElem?_toList]; exact e
      have h2 : vs[i]? = none := by
        rw [List.getElem?_eq_none_iff, ← a.1]
        exact Array.getElem?_eq_none_iff.mp e
      rw [h1, h2]
      rfl
    | some v =>
      obtain ⟨ky, h2⟩ := a.2 i v e
      rw [Array.getElem?_toList, e, h2]
      rfl
  have hV : Vals (kvs.map (·.2)) acc.toList := by
    rw [ea]
    exact kv_vals kv
  have I1 : Inv X pins σ H { s with heap := h', toks := tk } := I.kept (t' := tk) k
  refine ⟨.ref _, _, I1.laid (t' := tk) (o := .tup (kvs.map (·.2))) (fun b o q => Heap.get?_push_of_some _ q) (Nat.le_refl _) ?_, rfl, q _ (I1.hok.fresh (Nat.le_refl _))⟩
  exact ⟨by rw [List.length_map]; exact hl, acc.toList, hV, ⟨_, Heap.get?_push_size _ rfl, rfl, _, rfl⟩⟩
end
end EL
namespace EL
open PySem PySem.Spec PyProof.Rows L2
/-! ### sets of texts: how many there are -/
/-- c of these, all of them where they are unlike -/
structure SzOk (xs : List Str) (c : Nat) : Prop where
  le : c ≤ xs.length
  nd : c = xs.length ↔ xs.Nodup
theorem szOk_nil : SzOk [] 0 := ⟨Nat.le_refl _, by simp⟩
theorem szOk_snoc {xs : List Str} {c : Nat} (h : SzOk xs c) (x : Str) : SzOk (xs ++ [x]) (if decide (x ∈ xs) = true then c else c + 1) := by
  have e : (xs ++ [x]).Nodup ↔ xs.Nodup ∧ x ∉ xs := by
    rw [List.nodup_append]
    simp
    intro _
    constructor
    · intro h hx; exact h x hx rfl
    · intro h a ha e; subst e; exact h ha
  have := h.le
  by_cases m : x ∈ xs
  · rw [if_pos (decide_eq_true m)]
    refine ⟨by rw [List.length_append]; simp; omega, ?_⟩
    rw [e, List.length_append]
    constructor
    · intro q; simp at q; omega
    · rintro ⟨_, n⟩; exact absurd m n
  · rw [if_neg (by simpa using m)]
    refine ⟨by rw [List.length_append]; simp; omega, ?_⟩
    rw [e, List.length_append]
    constructor
    · intro q; exact ⟨h.nd.mp (by simpa using q), m⟩
    · rintro ⟨n, _⟩; have := h.nd.mpr n; simp; omega
section
variable {prog : Program} {w : World} {A : Around}
theorem setOf_keep {K : Type} [DecidableEq K] {knd : KeyKind prog w K} {h h' : Heap} {a : Addr} {S : K → Bool} {n : Nat} (x : Heap.SetOf knd h a S n) (k : ∀ o, h.get? a = some o → h'.get? a = some o) : Heap.SetOf knd h' a S n := by
  obtain ⟨o, es, ep, t, ho, r⟩ := x
  exact ⟨o, es, ep, t, k _ ho, r⟩
theorem strs_at {vs : List Value} {xs : List Str} (h : StrsAre vs xs) : ∀ {i : Nat} {v : Value}, vs[i]? = some v → ∃ x t, v = .str x t ∧ xs[i]? = some x := by
  induction h with
  | nil => intro i v e; cases e
  | cons x t r ih =>
    intro i v e
    cases i with
    | zero => cases e; exact ⟨x, t, rfl, rfl⟩
    | succ i => exact ih e
theorem upd_loop {I l S : Addr} {items : Array Value} {xs : List Str} {R : Result → Shared → Prop} (hA : A.handled = none) (hI : l ≠ I) (hS : S ≠ I) (hSl : S ≠ l) (hx : StrsAre items.toList xs) (hb : xs.length + 1 < scanBound) :
    ∀ (k i : Nat) (s : Shared), items.size - i = k → i ≤ items.size → s.heap.IsListIter I l i → s.heap.IsList l items → (∃ c, SzOk (xs.take i) c ∧ Heap.SetOf (strKind prog w) s.heap S (fun z => decide (z ∈ xs.take i)) c) →
      (∀ (s' : Shared) (c : Nat), (∀ b o, b ≠ S → b ≠ I → s.heap.get? b = some o → s'.heap.get? b = some o) → s'.gens = s.gens → s'.drawn = s.drawn → s'.os = s.os → SzOk xs c → Heap.SetOf (strKind prog w) s'.heap S (fun z => decide (z ∈ xs)) c → R (.ok (.ret .none)) s') →
      codeAny (model prog w) A (Code.builtin "set.update.loop" ⟨[.ref S, .ref I], []⟩) R s := by
  intro k
  induction k with
  | zero =>
    intro i s hk hi h1 h2 ⟨c, h3, h4⟩ h
    refine codeAny_builtin F.entry_set_update_loop ?_
    unfold Builtin.«set.update.loop»
    dsimp only
    have hA' : (A.under (Code.builtin "set.update.loop" ⟨[.ref S, .ref I], []⟩)).handled = none := hA
    have e : i = items.size := by omega
    subst e
    refine wpAny_bind ((Walks.list hA' I l hI items).done s _ _ ⟨h1, h2⟩ fun h' tk kp => ?_)
    refine wpAny_pure ?_
    have el : xs.take items.size = xs := List.take_of_length_le (by rw [← hx.length]; simp)
    rw [el] at h3 h4
    refine h _ c (fun b o _ n q => kp b o (by simpa using n) q) rfl rfl rfl h3 (setOf_keep h4 fun o q => kp S o (by simpa using hS) q)
  | succ k ih =>
    intro i s hk hi h1 h2 ⟨c, h3, h4⟩ h
    refine codeAny_builtin F.entry_set_update_loop ?_
    unfold Builtin.«set.update.loop»
    dsimp only
    have hA' : (A.under (Code.builtin "set.update.loop" ⟨[.ref S, .ref I], []⟩)).handled = none := hA
    have hlt : i < items.size := by omega
    refine wpAny_bind ((Walks.list hA' I l hI items).item i s _ _ hlt ⟨h1, h2⟩ fun v h' tk pv st kp => ?_)
    dsimp only
    have pv' : items.toList[i]? = some v := by rw [Array.getElem?_toList]; exact pv
    obtain ⟨x, t, rfl, hxi⟩ := strs_at hx pv'
    have et : xs.take (i + 1) = xs.take i ++ [x] := by rw [List.take_succ, hxi]; rfl
    have h4' : Heap.SetOf (strKind prog w) h' S (fun z => decide (z ∈ xs.take i)) c := setOf_keep h4 fun o q => kp S o (by simpa using hS) q
    refine wpAny_bind (wpAny_holding ?_)
    unfold setAdd
    refine wpAny_holding (wpAny_bind (wpAny_pyHash_str ?_))
    have hsz := h3.le
    refine wpAny_setAddHashed_of (knd := strKind prog w) (k := x) (strKind_is prog w x t) rfl h4' (by rw [List.length_take] at hsz; omega) fun h2' sb so => ?_
    refine wpAny_pure ?_
    refine ⟨plainId_quiet PyProof.Rows.F.plain_set_update_loop _, ih (i + 1) _ (by omega) (by omega) ?_ ?_ ⟨if decide (x ∈ xs.take i) = true then c else c + 1, ?_, ?_⟩ fun s' c' a1 a2 a3 a4 a5 a6 => h s' c' (fun b o n1 n2 q => a1 b o n1 n2 ?_) a2 a3 a4 a5 a6⟩
    · refine Heap.IsListIter.at st.1 fun o q => ?_
      rw [sb.2 _ (by simpa using hS.symm)]
      exact q
    · refine Heap.IsList.at st.2 fun o q => ?_
      rw [sb.2 _ (by simpa using hSl.symm)]
      exact q
    · rw [et]
      exact szOk_snoc h3 x
    · rw [et]
      have e : (fun z => decide (z ∈ xs.take i ++ [x])) = fun z => decide (z ∈ xs.take i) || decide (z = x) := by
        funext z
        rw [Bool.eq_iff_iff]
        simp
      rw [e]
      exact so
    · rw [sb.2 _ n1]
      exact kp b o (by simpa using n2) q
theorem init_strs {l S : Addr} {items : Array Value} {xs : List Str} {R : Result → Shared → Prop} {s : Shared} (hA : A.handled = none) (hSl : S ≠ l) (hx : StrsAre items.toList xs) (hb : xs.length + 1 < scanBound) (hl : s.heap.IsList l items) (led : Bool)
    (h0 : s.heap.get? S = some { cls := .type "set", data := Data.set #[] 0 (SetTable.fresh 0 0 led) })
    (h : ∀ (s' : Shared) (c : Nat), (∀ b o, b ≠ S → s.heap.get? b = some o → s'.heap.get? b = some o) → s'.gens = s.gens → s'.drawn = s.drawn → s'.os = s.os → SzOk xs c → Heap.SetOf (strKind prog w) s'.heap S (fun z => decide (z ∈ xs)) c → R (.ok (.ret .none)) s') :
    wpAny (model prog w) A.in1 (Builtin.«set.__init__» ⟨[.ref S, .ref l], []⟩) (fun fin s' => match fin with
        | Fin.done f => R (Except.ok f) s'
        | Fin.again c' => c'.quiet = true ∧ codeAny (model prog w) A c' R s') (fun e s' => R (Except.error e) s') s := by
  have hT : s.TypeIs (.ref S) "set" := ⟨_, h0, rfl⟩
  have hTl : s.TypeIs (.ref l) "list" := hl.typeIs
  have s1 := PySem.F.sub_list_set
  have s2 := PySem.F.sub_list_frozenset
  have hlS : S < s.heap.objs.size := Heap.lt_size h0
  have hll : l < s.heap.objs.size := by
    obtain ⟨o, e, _⟩ := id hl
    exact Heap.lt_size e
  wp_walk using wpAny_pyIter_list hl
  refine upd_loop (A := A.in1) (l := l) (items := items) (xs := xs) hA (Nat.ne_of_lt hll) (Nat.ne_of_lt hlS) hSl hx hb _ 0 { s with heap := s.heap.push { cls := .type "list_iterator", data := .fields #[.ref l, .int 0 0] } } rfl (Nat.zero_le _) ⟨_, Heap.get?_push_size _ rfl, rfl, rfl⟩ (Heap.IsList.push hl _) ⟨0, by rw [List.take_zero]; exact szOk_nil, ?_⟩ fun s' c a1 a2 a3 a4 a5 a6 => ?_
  · refine ⟨_, #[], 0, SetTable.fresh 0 0 led, Heap.get?_push_of_some _ h0, ⟨rfl, rfl, rfl⟩, rfl, ?_, fun k => ?_, by decide, ?_, rfl⟩
    · exact fun e he => by simp at he
    · simp
    · cases led <;> decide
  · refine wpAny_pure (wpAny_pure ?_)
    exact h s' c (fun b o n q => a1 b o n (Nat.ne_of_lt (Heap.lt_size q)) (Heap.get?_push_of_some _ q)) a2 a3 a4 a5 a6
/-- set(list of texts) -/
theorem call_set_strs {E : Value → Shared → Prop} {s : Shared} {l : Addr} {items : Array Value} {xs : List Str} {Q : Value → Shared → Prop} (hA : A.handled = none) (hl : s.heap.IsList l items) (hx : StrsAre items.toList xs) (hb : xs.length + 1 < scanBound)
    (h : ∀ (h' : Heap) (tk : Nat) (c : Nat), SzOk xs c → Heap.SetOf (strKind prog w) h' s.heap.objs.size (fun z => decide (z ∈ xs)) c → (∀ b o, s.heap.get? b = some o → h'.get? b = some o) → Q (.ref s.heap.objs.size) { s with heap := h', toks := tk }) : wpAny (model prog w) A (call (.type "set") [.ref l]) Q E s := by
  obtain ⟨ol, el, _⟩ := id hl
  obtain ⟨c, tl, hmro⟩ := PySem.F.called_set.mro
  have hmade := PySem.F.called_set.made
  have hsub := PySem.F.called_set.sub
  refine wpAny_call (codeAny_of_tree ?_)
  show wpAny _ _ (callAny (.type "set") _) _ _ _
  refine wpAny_pure ⟨Code.quiet_builtin _ (by decide +kernel), codeAny_builtin PySem.F.entry_type_call ?_⟩
  rw [Around.under_plain (weight_type_call_type "set" [.ref l] []) rfl]
  have h1 := PySem.F.called_set.notType
  have h2 := PySem.F.called_set.canCreate
  have hct := PySem.F.typeCall_set_1 (.ref l)
  repeat (any_goals (first | assumption | wp_step))
  refine codeAny_mono (code_set_new_1 (.ref l) (E := E) (Q₁ := fun obj s₁ => ∃ led : Bool, obj = .ref s.heap.objs.size ∧ s₁ = { s with heap := s.heap.push { cls := .type "set", dict := none, data := .set #[] 0 (.fresh 0 0 led) } }) fun led => ⟨led, rfl, rfl⟩) fun r s₁ hr => ?_
  cases r with
  | error e => exact hr
  | ok fl =>
    cases fl with
    | ret obj =>
      obtain ⟨led, rfl, rfl⟩ := hr
      have hS : (s.heap.push { cls := .type "set", dict := none, data := .set #[] 0 (.fresh 0 0 led) }).get? s.heap.objs.size = some { cls := .type "set", dict := none, data := .set #[] 0 (.fresh 0 0 led) } := Heap.get?_push_size _ rfl
      have hT : Shared.TypeIs { s with heap := s.heap.push { cls := .type "set", dict := none, data := .set #[] 0 (.fresh 0 0 led) } } (.ref s.heap.objs.size) "set" := ⟨_, hS, rfl⟩
      have hli := PySem.F.called_set.init.lookup
      have hbi := PySem.F.called_set.init.bind (.ref s.heap.objs.size)
      repeat (any_goals (first | assumption | wp_step))
      refine codeAny_mono (codeAny_call_builtin (R := wants (fun r s₂ => r = .none ∧ Q (.ref s.heap.objs.size) s₂) E) PySem.F.called_set.init.plain PySem.F.entry_set_init (check_set_init_1 hT ?_)) fun r₂ s₂ hr₂ => ?_
      · refine init_strs (led := led) (l := l) (items := items) (xs := xs) (A := A.in1) (R := wants (fun r s₂ => r = Value.none ∧ Q (.ref s.heap.objs.size) s₂) E) hA (Nat.ne_of_gt (Heap.lt_size el)) hx hb (Heap.IsList.push hl _) hS fun s' c a1 a2 a3 a4 a5 a6 => ?_
        refine ⟨rfl, ?_⟩
        have := h s'.heap s'.toks c a5 a6 fun b o q => a1 b o (Nat.ne_of_lt (Heap.lt_size q)) (Heap.get?_push_of_some _ q)
        obtain ⟨hp, g, d, tk, os⟩ := s'
        cases a2
        cases a3
        cases a4
        exact this
      · cases r₂ with
        | error e => exact hr₂
        | ok fl₂ =>
          cases fl₂ with
          | ret r =>
            obtain ⟨rfl, hq⟩ := hr₂
            repeat (any_goals (first | assumption | wp_step))
          | _ => exact hr₂.elim
    | _ => exact hr.elim
end
end EL
namespace EL
open PySem PySem.Spec PyProof.Rows L2
section
variable {X : Cx} {B : Bs} {G : Hp} {γ : Gm} {σ : L2.St} {H : Hp} {e a : Expr} {t ta : DT} {pos : Pos}
/-! ### len(set(texts)) -/
def tLenSetS (K : PySem.W.Frag) (ta : TE) : TE := fun σ H Q => ta σ H fun x H1 => ∃ (l : Addr) (xs : List Str), x = .ref l ∧ SqL K H1 l (xs.map V.str) ∧ xs.length + 1 < scanBound ∧ ∀ c : Nat, SzOk xs c → Q (.int c) H1
theorem pe_lenSetS {ta : TE} {p p2 q pos : Pos} (hc : X.calm = true) (hg : Gl X "len") (hm : X.mg "len" = none) (hg2 : Gl X "set") (hm2 : X.mg "set" = none) (ha : PE X a ta)
    (na : starEach [a] X.env = (false, eval a X.env) :: starEach [] X.env := by rfl) : PE X (.Call (.Name "len" p) [.Call (.Name "set" p2) [a] [] q] [] pos) (tLenSetS X.K ta) := by
  refine ⟨fun pins s σ H Q I h => ?_⟩
  refine Call_ (ld_blt I hg hm boot_len ?_)
  refine PyProof.Rows.callWith_builtin1 (PyProof.Rows.args_cons ?_ rfl) rfl rfl
  refine Call_ (ld_blt I hg2 hm2 boot_set ?_)
  refine PyProof.Rows.callWith_type1 (PyProof.Rows.args_cons (thn (ha.run pins s σ H _ I h) fun v s1 ⟨x, H1, I1, r1, q1⟩ => PyProof.Rows.args_nil ?_) na) na rfl
  obtain ⟨l, xs, rfl, hq, h1, q1⟩ := q1
  cases r1
  obtain ⟨its, r, pl, hz⟩ := I1.list hq
  refine call_set_strs (xs := xs) (I1.ok.hd hc) pl.isList (by simpa using strsAre_of r) h1 fun h' tk c hc2 hS hk => ?_
  refine PyProof.Rows.args_nil ?_
  obtain ⟨o, es, ep, t, ho, hex, hd, _, _, _, hf, hn⟩ := hS
  have I2 : Inv X pins σ H1 { s1 with heap := h', toks := tk } := I1.kept fun b o e => hk b o e
  have hle := hc2.le
  have hsb : scanBound ≤ 2 ^ 40 := by unfold scanBound; decide
  refine call_len_set ho hex hd hf (by rw [hn]; omega) ⟨.int c, H1, I2.tok _, ⟨_, by rw [hn]⟩, q1 c hc2⟩
def dLenSet (t : DT) : DT := fun γ R => t γ fun x γ1 => match x with
  | .lst xs => ∃ ys : List Str, xs = ys.map D.str ∧ ys.length ≤ 1000 ∧ ∀ c : Nat, SzOk ys c → R (.int c) γ1
  | _ => False
theorem d_lenSet {p p2 q : Pos} (hK : X.K = B.K) (hc : X.calm = true) (hg : Gl X "len") (hm : X.mg "len" = none) (hg2 : Gl X "set") (hm2 : X.mg "set" = none) (ha : PE X a (tD B t))
    (na : starEach [a] X.env = (false, eval a X.env) :: starEach [] X.env := by rfl) : PE X (.Call (.Name "len" p) [.Call (.Name "set" p2) [a] [] q] [] pos) (tD B (dLenSet t)) := pe_imp (pe_lenSetS hc hg hm hg2 hm2 ha na) fun σ H Q ⟨G, γ, R, S, h, k⟩ =>
  ⟨G, γ, _, S, h, fun d γ1 G1 v H1 h1 s1 S1 r1 => by
    split at h1
    · obtain ⟨ys, rfl, hl, h1⟩ := h1
      cases r1 with
      | lst hs ra =>
        rw [rp_strs ra] at hs
        refine ⟨_, ys, rfl, by rw [hK]; exact SqL.of (S1.sub _ _ hs), by unfold scanBound; omega, fun c hc => k _ _ _ _ _ (h1 c hc) s1 S1 (.int _)⟩
    · exact h1.elim⟩
/-! ### tuple(d.values()) -/
def dTupVals (t : DT) : DT := fun γ R => t γ fun x γ1 => match x with
  | .dct kvs => R (.tup (kvs.map (·.2))) γ1
  | _ => False
theorem rpKv_vals {W : Cw} : ∀ {us : List (Key × V)} {ds : List (Key × D)}, RpKv W G us ds → RpAll W G (us.map (·.2)) (ds.map (·.2))
  | _, _, .nil => .nil
  | _, _, .cons r t => .cons r (rpKv_vals t)
theorem d_tupVals (hK : X.K = B.K) (h : PE X e (tCB (fun xs H Q => ∃ p d kvs, xs = [.ref p] ∧ H p = some (viewO "dict_values" p d) ∧ H d = some (.dK kvs) ∧ ∀ l, H l = none → Q (.ref l) (upd H l (.tup (kvs.map (·.2)))))
      (tCons (tBM0 X.K "dict" (fun x xs H Q => ∃ d kvs, x = .ref d ∧ xs = [] ∧ H d = some (.dK kvs) ∧ ∀ p, H p = none → Q (.ref p) (upd H p (viewO "dict_values" p d))) (tD B t)) tNil))) : PE X e (tD B (dTupVals t)) := pe_imp h fun σ H Q ⟨G, γ, R, S, h, k⟩ =>
  ⟨G, γ, _, S, h, fun d γ1 G1 v H1 h1 s1 S1 r1 => by
    split at h1
    · rename_i kvs
      cases r1 with
      | dct hs rk =>
        rename_i a us
        have hd : H1 a = some (.dK us) := S1.sub _ _ hs
        refine ⟨.inr (.inr (.inl ⟨rfl, .inl ⟨_, hd⟩⟩)), a, us, rfl, rfl, hd, fun p hp => ?_⟩
        have S2 := S1.laid (o := viewO "dict_values" p a) (fun xs e => by unfold viewO at e; cases e) hp
        have hne : a ≠ p := fun e => by rw [e, hp] at hd; cases hd
        refine ⟨p, a, us, rfl, upd_same, by rw [upd_ne hne]; exact hd, fun l hl => ?_⟩
        obtain ⟨G2, sm, S3, r2⟩ := S2.newTup (rpKv_vals rk) hl
        exact k _ _ _ _ _ h1 (s1.trans sm) S3 r2
    · exact h1.elim⟩
/-! ### texts -/
def splitF : D → D → (D → Prop) → Prop := fun d x R => match d, x with
  | .str a, .str b => (b.length == 0) = false ∧ a.length ≤ 1000000 ∧ R (.lst ((Txt.split a b).map D.str))
  | _, _ => False
theorem ok_split : OkM1 B (fun x xs H Q => ∃ a b, x = .str a ∧ xs = [.str b] ∧ (b.length == 0) = false ∧ a.length + 2 ≤ sizeLine ∧ rNewStrs (Txt.split a b) H Q) splitF := by
  intro G γ σ H z x d R Q S r h k
  unfold splitF at h
  split at h
  · rename_i _ b e1
    cases e1
    cases rpStr r
    obtain ⟨h1, h2, h3⟩ := h
    refine ⟨_, _, rfl, rfl, h1, by unfold sizeLine; omega, fun p hp => ?_⟩
    obtain ⟨G2, sm, S3, r2⟩ := S.newLst (strs_rp _) hp
    exact k _ _ _ _ h3 sm S3 r2
  · exact h.elim
def strF : FC := fun ds R => match ds with
  | [.int i] => i.natAbs < 2 ^ 1900 ∧ R (.str (toString i))
  | [.str z] => R (.str z)
  | _ => False
theorem call_strOf : CallR X (.type "str") (fun xs H Q => (∃ i, xs = [.int i] ∧ i.natAbs.log2 < 1920 ∧ Q (.str (toString i)) H) ∨ ∃ a, xs = [.str a] ∧ Q (.str a) H) := CallR.or call_str_int SkE.call_str_str
theorem ok_strOf : OkRC B (fun xs H Q => (∃ i, xs = [.int i] ∧ i.natAbs.log2 < 1920 ∧ Q (.str (toString i)) H) ∨ ∃ a, xs = [.str a] ∧ Q (.str a) H) strF := by
  intro G γ σ H vs ds R Q S r h k
  unfold strF at h
  split at h
  · cases r with
    | cons r1 r2 =>
      cases r2
      cases rpInt r1
      rename_i i
      refine .inl ⟨_, rfl, ?_, k _ _ _ _ h.2 (Same.refl _) S (.str _)⟩
      by_cases z : i.natAbs = 0
      · rw [z]; decide
      · exact Nat.lt_of_lt_of_le ((Nat.log2_lt z).mpr h.1) (by decide)
  · cases r with
    | cons r1 r2 =>
      cases r2
      cases rpStr r1
      exact .inr ⟨_, rfl, k _ _ _ _ h (Same.refl _) S (.str _)⟩
  · exact h.elim
/-- s.isalpha() and the like -/
def dS0 (f : Str → Bool) (t : DT) : DT := fun γ R => t γ fun x γ1 => match x with
  | .str z => R (.bl (f z)) γ1
  | _ => False
theorem d_s0 {f : Str → Bool} (h : PE X e (tM0 (fun x xs H Q => ∃ a, x = .str a ∧ xs = [] ∧ True ∧ Q (.bl (f a)) H) (tD B t))) : PE X e (tD B (dS0 f t)) := pe_imp h fun σ H Q ⟨G, γ, R, S, h, k⟩ =>
  ⟨G, γ, _, S, h, fun d γ1 G1 v H1 h1 s1 S1 r1 => by
    split at h1
    · cases rpStr r1
      exact ⟨⟨_, rfl⟩, _, rfl, rfl, trivial, k _ _ _ _ _ h1 s1 S1 (.bl _)⟩
    · exact h1.elim⟩
/-- the truth of a text -/
def bStr (ta : DT) : DB := fun γ R => ta γ fun x γ1 => match x with
  | .str z => z.length ≤ 1000000 ∧ R (z.length ≠ 0) γ1
  | _ => False
theorem b_str (ha : PE X a (tD B ta)) (he : ∀ whole, isTrue a X.env whole = (do let v ← whole; standAt a.pos; holding [v] (truthy v)) := by intro _; rfl) : PT X a (tDB B (bStr ta)) := pt_imp (pt_truth ha he) fun σ H Q ⟨G, γ, R, S, h, k⟩ =>
  ⟨G, γ, _, S, h, fun d γ1 G1 v H1 h1 s1 S1 r1 => by
    split at h1
    · cases rpStr r1
      rename_i z
      refine ⟨_, ⟨by unfold sizeLine; omega, rfl⟩, k _ _ _ _ _ h1.2 ?_ s1 S1⟩
      constructor
      · intro e q; rw [q] at e; exact absurd e (by decide)
      · intro e; simpa using e
    · exact h1.elim⟩
/-! ### repr, of texts too -/
def reprB : FC := fun ds R => match ds with
  | [.str z] => (reprText z).length ≤ 1000000 ∧ R (.str (reprText z))
  | ds => reprA ds R
def rReprB (K : PySem.W.Frag) : List V → Hp → VK → Prop := fun xs H Q => (∃ z : Str, xs = [.str z] ∧ (reprText z).length ≤ sizeLine ∧ Q (.str (reprText z)) H) ∨ rReprA K xs H Q
theorem cr_reprB {k : Nat} (hg : X.A.guards = some []) (hr : Room k X.A) : CallR X (.builtin "repr") (rReprB X.K) := by
  intro pins s σ H xs us Q I r h
  rcases h with ⟨z, rfl, hl, q⟩ | h
  · obtain ⟨u, rfl, ru⟩ := vals1 r
    obtain ⟨t, rfl⟩ := ru
    exact PySem.P.repr_of_str (hsz := hl) ⟨.str _, H, I.tok _, ⟨_, rfl⟩, q⟩
  · exact cr_reprA hg hr pins s σ H xs us Q I r h
theorem ok_reprB (hK : X.K = B.K) : OkRC B (rReprB X.K) reprB := by
  intro G γ σ H vs ds R Q S r h k
  unfold reprB at h
  split at h
  · cases r with
    | cons r1 r2 =>
      cases r2
      cases rpStr r1
      exact .inl ⟨_, rfl, by unfold sizeLine; omega, k _ _ _ _ h.2 (Same.refl _) S (.str _)⟩
  · exact .inr (ok_reprA hK G γ σ H vs _ R Q S r h k)
/-! ### in a dict of the module -/
theorem op_kin2 {cl : Nat → Option (Addr × List Str)} {d : Addr} {tab : Str → Option D} (T : KTab X.K X.w cl d tab) : OpR X (compareOp .In) (rKIn X.K d) := by
  obtain ⟨es, n, D⟩ := T.dict
  exact op_in_kd D
theorem op_kni2 {cl : Nat → Option (Addr × List Str)} {d : Addr} {tab : Str → Option D} (T : KTab X.K X.w cl d tab) : OpR X (compareOp .NotIn) (rKNi X.K d) := by
  obtain ⟨es, n, D⟩ := T.dict
  exact op_notIn_kd D
/-! ### numbers of the module -/
theorem pe_gc {n : Str} {i : Int} {q : Pos} (hg : Gl X n) (h : ∃ u, X.mg n = some u ∧ RelV (.int i) u) (hdb : (n == ("__debug__" : Str)) = false := by decide) : PE X (.Name n q) (tC (.int i)) := by
  obtain ⟨u, h1, h2⟩ := h
  exact pe_glob hg h1 h2 hdb
theorem d_gc {i : Int} (h : PE X e (tC (.int i))) : PE X e (tD B (dC (.int i))) := pe_imp h fun σ H Q ⟨_, _, _, S, hr, k⟩ => k _ _ _ _ _ hr (Same.refl _) S (.int i)
end
end EL
namespace EL
open PySem PySem.Spec PyProof.Rows L2
/-! ### repr of data, dicts too -/
def keyP : Key → PyData
  | .inl i => .int i
  | .inr z => .str z
mutual
def pyX : D → PyData
  | .bl b => .bool b
  | .int i => .int i
  | .str z => .str z
  | .tup ds => .tuple (pyXs ds)
  | .lst ds => .list (pyXs ds)
  | .dct kvs => .dict (pyXk kvs)
  | _ => .none
def pyXs : List D → List PyData
  | [] => []
  | d :: ds => pyX d :: pyXs ds
def pyXk : List (Key × D) → List (PyData × PyData)
  | [] => []
  | (k, d) :: r => (keyP k, pyX d) :: pyXk r
end
mutual
def isX : D → Bool
  | .non => true
  | .bl _ => true
  | .int _ => true
  | .str _ => true
  | .tup ds => isXs ds
  | .lst ds => isXs ds
  | .dct kvs => isXk kvs
  | _ => false
def isXs : List D → Bool
  | [] => true
  | d :: ds => isX d && isXs ds
def isXk : List (Key × D) → Bool
  | [] => true
  | (_, d) :: r => isX d && isXk r
end
section
variable {X : Cx} {W : Cw} {pins : List (Addr × Obj)} {σ : L2.St} {G H : Hp} {s : Shared}
theorem key_reads {h : Heap} {k : Key} {u : Value} (hk : keyIs k u = true) : Reads h u (keyP k) [] := by
  rcases keyIs_shape hk with ⟨i, t, rfl, rfl⟩ | ⟨z, t, rfl, rfl⟩
  · exact .int i t
  · exact .str z t
mutual
theorem rdX (I : Inv X pins σ H s) (hK : X.K = W.K) (sm : Same G H) : ∀ (d : D) {v : V} {u : Value}, isX d = true → Rp W G v d → RelV v u → ∃ as, Reads s.heap u (pyX d) as
  | .non, _, _, _, r, q => by
    cases r; cases q
    exact ⟨_, .none⟩
  | .bl b, _, _, _, r, q => by
    cases r; cases q
    exact ⟨_, .bool b⟩
  | .int i, _, _, _, r, q => by
    cases r; obtain ⟨t, rfl⟩ := q
    exact ⟨_, .int i t⟩
  | .str z, _, _, _, r, q => by
    cases r; obtain ⟨t, rfl⟩ := q
    exact ⟨_, .str z t⟩
  | .tup ds, _, _, h, r, q => by
    cases r with
    | tup hs ra =>
      cases q
      obtain ⟨its, rv, ⟨o, e1, e2, n, e3⟩, _⟩ := I.tuple (hK ▸ hs.sq sm)
      obtain ⟨as, e4⟩ := rdXs I hK sm ds h ra rv
      exact ⟨_, .tuple e1 e2 e3 e4⟩
  | .lst ds, _, _, h, r, q => by
    cases r with
    | lst hs ra =>
      cases q
      obtain ⟨its, rv, ⟨o, n, e1, e2, _, e3⟩, _⟩ := I.list (SqL.of (sm _ _ hs))
      obtain ⟨as, e4⟩ := rdXs I hK sm ds h ra rv
      exact ⟨_, .list e1 e2 e3 e4⟩
  | .dct kvs, _, _, h, r, q => by
    cases r with
    | dct hs rk =>
      cases q
      obtain ⟨_, _, ws, kv, o, es, ep, e1, e2, e3, _, e4, _⟩ := I.hok _ _ (sm _ _ hs)
      obtain ⟨⟨as, e5⟩, bs, e6⟩ := rdXk I hK sm kvs h rk kv e4
      exact ⟨_, .dict e1 e2.1 e3 e5 e6⟩
  | .obj _ _, _, _, h, _, _ => nomatch h
  | .dk, _, _, h, _, _ => nomatch h
  | .opq _, _, _, h, _, _ => nomatch h
theorem rdXs (I : Inv X pins σ H s) (hK : X.K = W.K) (sm : Same G H) : ∀ (ds : List D) {vs : List V} {us : List Value}, isXs ds = true → RpAll W G vs ds → Vals vs us → ∃ as, ReadsAll s.heap us (pyXs ds) as
  | [], _, _, _, r, q => by
    cases r; cases q
    exact ⟨_, .nil⟩
  | d :: ds, _, _, h, r, q => by
    have h : (isX d && isXs ds) = true := h
    rw [Bool.and_eq_true] at h
    cases r with
    | cons r1 r2 =>
      cases q with
      | cons q1 q2 =>
        obtain ⟨as, e1⟩ := rdX I hK sm d h.1 r1 q1
        obtain ⟨bs, e2⟩ := rdXs I hK sm ds h.2 r2 q2
        exact ⟨_, .cons e1 e2⟩
theorem rdXk (I : Inv X pins σ H s) (hK : X.K = W.K) (sm : Same G H) : ∀ (kvs : List (Key × D)) {us : List (Key × V)} {ws : List (Key × Value)} {es : List DictEntry}, isXk kvs = true → RpKv W G us kvs → KV us ws → Pairs (mixKind X.prog X.w) es ws →
    (∃ as, ReadsAll s.heap (es.map (·.key)) ((pyXk kvs).map (·.1)) as) ∧ ∃ bs, ReadsAll s.heap (es.map (·.val)) ((pyXk kvs).map (·.2)) bs
  | [], _, _, _, _, r, q, p => by
    cases r
    cases q
    cases p
    exact ⟨⟨_, .nil⟩, _, .nil⟩
  | (k, d) :: kvs, _, _, _, h, r, q, p => by
    have h : (isX d && isXk kvs) = true := h
    rw [Bool.and_eq_true] at h
    cases r with
    | cons r1 r2 =>
      cases q with
      | cons q1 q2 =>
        cases p with
        | cons p1 p2 p3 =>
          obtain ⟨qa, qb⟩ := q1
          obtain ⟨as, e1⟩ := rdX I hK sm d h.1 r1 qb
          obtain ⟨⟨bs, e2⟩, cs, e3⟩ := rdXk I hK sm kvs h.2 r2 q2 p3
          refine ⟨⟨_, .cons (key_reads (by rw [show k = _ from qa]; exact p1)) e2⟩, _, .cons (by dsimp only; rw [p2]; exact e1) e3⟩
end
theorem entries_more {P : Program} {w : World} {h0 : Heap} {as bs : List Addr} {m n : Nat} (hs : ∀ b ∈ as, b ∈ bs) (hd : m ≤ n) : ∀ {es : List DictEntry} {ps : List Str}, ReprEntriesK P w as h0 m es ps → ReprEntriesK P w bs h0 n es ps
  | _, _, .nil => .nil
  | _, _, .cons a b r => .cons ((a.more hs).level_le hd) ((b.more hs).level_le hd) (entries_more hs hd r)
theorem key_repr {P : Program} {w : World} {h0 : Heap} {as : List Addr} {n : Nat} {k : Key} {u : Value} (hk : keyIs k u = true) (hs : (keyP k).showable = true) (hl : (keyP k).shown.length ≤ sizeLine) : ReprK P w as h0 n u (keyP k).shown := by
  rcases keyIs_shape hk with ⟨i, t, rfl, rfl⟩ | ⟨z, t, rfl, rfl⟩
  · exact .of_is (by simp only [keyP, PyData.shown]; exact ReprIs.int t (by simpa [keyP, PyData.showable] using hs)) _ _ _
  · exact .of_is (by simp only [keyP, PyData.shown]; exact ReprIs.str z t (by simpa only [keyP, PyData.shown] using hl)) _ _ _
theorem rel_reads {n : Nat} {bs : List Addr} {m : Nat} (h : ReadAtMost s.heap n bs) (hm : n ≤ m) : ReadAtMost s.heap m bs := h.mono hm
mutual
theorem rkX (I : Inv X pins σ H s) (hK : X.K = W.K) (sm : Same G H) : ∀ (d : D) {v : V} {u : Value}, isX d = true → Rp W G v d → RelV v u → (pyX d).showable = true → (pyX d).shown.length ≤ sizeLine →
    ∃ bs, ReadAtMost s.heap (pyX d).depth bs ∧ ReprK X.prog X.w bs s.heap (pyX d).depth u (pyX d).shown
  | .non, _, _, _, r, q, _, _ => by
    cases r; cases q
    exact ⟨[], (fun _ h => by cases h), by simp only [pyX, PyData.shown]; exact .of_is ReprIs.none _ _ _⟩
  | .bl b, _, _, _, r, q, _, _ => by
    cases r; cases q
    exact ⟨[], (fun _ h => by cases h), by simp only [pyX, PyData.shown]; exact .of_is (ReprIs.bool b) _ _ _⟩
  | .int i, _, _, _, r, q, hs, _ => by
    cases r; obtain ⟨t, rfl⟩ := q
    exact ⟨[], (fun _ h => by cases h), by simp only [pyX, PyData.shown]; exact .of_is (ReprIs.int t (by simpa [pyX, PyData.showable] using hs)) _ _ _⟩
  | .str z, _, _, _, r, q, _, hl => by
    cases r; obtain ⟨t, rfl⟩ := q
    exact ⟨[], (fun _ h => by cases h), by simp only [pyX, PyData.shown]; exact .of_is (ReprIs.str z t (by simpa only [pyX, PyData.shown] using hl)) _ _ _⟩
  | .tup ds, _, _, h, r, q, hs, hl => by
    obtain ⟨as, rr⟩ := rdX I hK sm (.tup ds) h r q
    cases r with
    | tup ht ra =>
      cases q
      obtain ⟨its, rv, ⟨o, e1, e2, n, e3⟩, _⟩ := I.tuple (hK ▸ ht.sq sm)
      have hl' : (tupleText (PyData.shownAll (pyXs ds))).length ≤ sizeLine := by simpa only [pyX, PyData.shown] using hl
      obtain ⟨bs, c1, c2⟩ := rkXs I hK sm ds h ra rv (by simpa [pyX, PyData.showable] using hs) fun t ht => Nat.le_trans (tupleText_mem_le ht) hl'
      have dp : (pyX (.tup ds)).depth = PyData.depthAll (pyXs ds) + 1 := by simp only [pyX, PyData.depth]
      refine ⟨_ :: bs, ReadAtMost.cons (n := PyData.depthAll (pyXs ds)) rr (by omega) c1, ?_⟩
      rw [dp]
      simp only [pyX, PyData.shown]
      exact .tuple e1 e2 e3 (not_mem_of_deeper rr (by omega) c1) c2
  | .lst ds, _, _, h, r, q, hs, hl => by
    obtain ⟨as, rr⟩ := rdX I hK sm (.lst ds) h r q
    cases r with
    | lst ht ra =>
      cases q
      obtain ⟨its, rv, ⟨o, n, e1, e2, _, e3⟩, _⟩ := I.list (SqL.of (sm _ _ ht))
      have hl' : (listText (PyData.shownAll (pyXs ds))).length ≤ sizeLine := by simpa only [pyX, PyData.shown] using hl
      obtain ⟨bs, c1, c2⟩ := rkXs I hK sm ds h ra rv (by simpa [pyX, PyData.showable] using hs) fun t ht => Nat.le_trans (listText_mem_le ht) hl'
      have dp : (pyX (.lst ds)).depth = PyData.depthAll (pyXs ds) + 1 := by simp only [pyX, PyData.depth]
      refine ⟨_ :: bs, ReadAtMost.cons (n := PyData.depthAll (pyXs ds)) rr (by omega) c1, ?_⟩
      rw [dp]
      simp only [pyX, PyData.shown]
      have hn := not_mem_of_deeper rr (by omega) c1
      cases its with
      | nil =>
        generalize PyData.shownAll (pyXs ds) = ts at c2 ⊢
        cases c2
        rw [listText_nil]
        exact .listEmpty e1 e2 e3
      | cons y its => exact .list e1 e2 e3 hn (by simpa using c2.length_eq) fun i z hz => c2.item i z (by simpa using hz)
  | .dct kvs, _, _, h, r, q, hs, hl => by
    obtain ⟨as, rr⟩ := rdX I hK sm (.dct kvs) h r q
    cases r with
    | dct ht rk =>
      cases q
      obtain ⟨_, ns, ws, kv, o, es, ep, e1, e2, e3, _, e4, _⟩ := I.hok _ _ (sm _ _ ht)
      have hl' : (dictText (PyData.shownKv (pyXk kvs))).length ≤ sizeLine := by simpa only [pyX, PyData.shown] using hl
      obtain ⟨bs, c1, c2⟩ := rkXk I hK sm kvs h rk kv e4 (by simpa [pyX, PyData.showable] using hs) fun t ht => Nat.le_trans (dictText_mem_le ht) hl'
      have dp : (pyX (.dct kvs)).depth = PyData.depthKv (pyXk kvs) + 1 := by simp only [pyX, PyData.depth]
      refine ⟨_ :: bs, ReadAtMost.cons (n := PyData.depthKv (pyXk kvs)) rr (by omega) c1, ?_⟩
      rw [dp]
      simp only [pyX, PyData.shown]
      exact .dict e1 e2.1 e3 ns (not_mem_of_deeper rr (by omega) c1) c2
  | .obj _ _, _, _, h, _, _, _, _ => nomatch h
  | .dk, _, _, h, _, _, _, _ => nomatch h
  | .opq _, _, _, h, _, _, _, _ => nomatch h
theorem rkXs (I : Inv X pins σ H s) (hK : X.K = W.K) (sm : Same G H) : ∀ (ds : List D) {vs : List V} {us : List Value}, isXs ds = true → RpAll W G vs ds → Vals vs us → PyData.showableAll (pyXs ds) = true → (∀ t ∈ PyData.shownAll (pyXs ds), t.length ≤ sizeLine) →
    ∃ bs, ReadAtMost s.heap (PyData.depthAll (pyXs ds)) bs ∧ ReprAllK X.prog X.w bs s.heap (PyData.depthAll (pyXs ds)) us (PyData.shownAll (pyXs ds))
  | [], _, _, _, r, q, _, _ => by
    cases r; cases q
    exact ⟨[], (fun _ h => by cases h), by simp only [pyXs, PyData.shownAll]; exact .nil⟩
  | d :: ds, _, _, h, r, q, hs, hl => by
    have h : (isX d && isXs ds) = true := h
    rw [Bool.and_eq_true] at h
    have hs : ((pyX d).showable && PyData.showableAll (pyXs ds)) = true := by simpa only [pyXs, PyData.showableAll] using hs
    rw [Bool.and_eq_true] at hs
    have e : PyData.shownAll (pyXs (d :: ds)) = (pyX d).shown :: PyData.shownAll (pyXs ds) := by simp only [pyXs, PyData.shownAll]
    rw [e] at hl
    rw [e]
    have dp : PyData.depthAll (pyXs (d :: ds)) = max (pyX d).depth (PyData.depthAll (pyXs ds)) := by simp only [pyXs, PyData.depthAll]
    rw [dp]
    cases r with
    | cons r1 r2 =>
      cases q with
      | cons q1 q2 =>
        obtain ⟨as, a1, a2⟩ := rkX I hK sm d h.1 r1 q1 hs.1 (hl _ List.mem_cons_self)
        obtain ⟨bs, b1, b2⟩ := rkXs I hK sm ds h.2 r2 q2 hs.2 fun t ht => hl t (List.mem_cons_of_mem _ ht)
        exact ⟨as ++ bs, (a1.mono (Nat.le_max_left _ _)).append (b1.mono (Nat.le_max_right _ _)), .cons ((a2.more fun b hb => List.mem_append_left _ hb).level_le (Nat.le_max_left _ _)) (b2.more_le (fun b hb => List.mem_append_right _ hb) (Nat.le_max_right _ _))⟩
theorem rkXk (I : Inv X pins σ H s) (hK : X.K = W.K) (sm : Same G H) : ∀ (kvs : List (Key × D)) {us : List (Key × V)} {ws : List (Key × Value)} {es : List DictEntry}, isXk kvs = true → RpKv W G us kvs → KV us ws → Pairs (mixKind X.prog X.w) es ws →
    PyData.showableKv (pyXk kvs) = true → (∀ t ∈ PyData.shownKv (pyXk kvs), t.length ≤ sizeLine) →
    ∃ bs, ReadAtMost s.heap (PyData.depthKv (pyXk kvs)) bs ∧ ReprEntriesK X.prog X.w bs s.heap (PyData.depthKv (pyXk kvs)) es (PyData.shownKv (pyXk kvs))
  | [], _, _, _, _, r, q, p, _, _ => by
    cases r
    cases q
    cases p
    exact ⟨[], (fun _ h => by cases h), by simp only [pyXk, PyData.shownKv]; exact .nil⟩
  | (k, d) :: kvs, _, _, _, h, r, q, p, hs, hl => by
    have h : (isX d && isXk kvs) = true := h
    rw [Bool.and_eq_true] at h
    have hs : ((keyP k).showable && (pyX d).showable && PyData.showableKv (pyXk kvs)) = true := by simpa only [pyXk, PyData.showableKv] using hs
    rw [Bool.and_eq_true, Bool.and_eq_true] at hs
    have e : PyData.shownKv (pyXk ((k, d) :: kvs)) = ((keyP k).shown ++ ": " ++ (pyX d).shown) :: PyData.shownKv (pyXk kvs) := by simp only [pyXk, PyData.shownKv]
    rw [e] at hl
    rw [e]
    have dp : PyData.depthKv (pyXk ((k, d) :: kvs)) = max (max (keyP k).depth (pyX d).depth) (PyData.depthKv (pyXk kvs)) := by simp only [pyXk, PyData.depthKv]
    rw [dp]
    have h1 := hl _ List.mem_cons_self
    rw [strLen_append, strLen_append] at h1
    cases r with
    | cons r1 r2 =>
      cases q with
      | cons q1 q2 =>
        cases p with
        | @cons en kw _ _ p1 p2 p3 =>
          obtain ⟨qa, qb⟩ := q1
          obtain ⟨as, a1, a2⟩ := rkX I hK sm d h.1 r1 qb hs.1.2 (by omega)
          obtain ⟨bs, b1, b2⟩ := rkXk I hK sm kvs h.2 r2 q2 p3 hs.2 fun t ht => hl t (List.mem_cons_of_mem _ ht)
          have hk : keyIs k en.key = true := by rw [show k = _ from qa]; exact p1
          refine ⟨as ++ bs, (a1.mono (by omega)).append (b1.mono (by omega)), .cons (key_repr hk hs.1.1 (by omega)) ?_ (entries_more (fun b hb => List.mem_append_right _ hb) (by omega) b2)⟩
          rw [p2]
          exact (a2.more fun b hb => List.mem_append_left _ hb).level_le (by omega)
end
end
end EL
namespace EL
open PySem PySem.Spec PyProof.Rows L2
/-! ### repr of any data -/
def showX (d : D) : Prop := isX d = true ∧ (pyX d).showable = true ∧ (pyX d).depth ≤ 60 ∧ (pyX d).shown.length ≤ 1000000
def shX (d : D) : Str := (pyX d).shown
def rReprX (K : PySem.W.Frag) : List V → Hp → VK → Prop := fun xs H Q => ∃ (W : Cw) (G : Hp) (d : D) (v : V), xs = [v] ∧ K = W.K ∧ Same G H ∧ Rp W G v d ∧ showX d ∧ Q (.str (shX d)) H
section
variable {X : Cx} {B : Bs}
theorem cr_reprX {k : Nat} (hg : X.A.guards = some []) (hr : Room k X.A) : CallR X (.builtin "repr") (rReprX X.K) := by
  intro pins s σ H xs us Q I r h
  obtain ⟨W, G, d, v, rfl, hK, sm, rd, ⟨hx, hs, hd, hl⟩, q⟩ := h
  obtain ⟨u, rfl, ru⟩ := vals1 r
  have hu := hr.units
  have hz : (pyX d).shown.length ≤ sizeLine := by unfold sizeLine; omega
  have fin : ∀ (h' : Heap) (t : Tok) (tk : Nat), (∀ b o, s.heap.get? b = some o → h'.get? b = some o) → EP X pins σ Q (.str (pyX d).shown t) { s with heap := h', toks := tk } := fun h' t tk hk => ⟨.str _, H, I.kept hk, ⟨t, rfl⟩, q⟩
  have wrap : ∀ {a : Addr} {T id : String}, u = .ref a → s.TypeIs (.ref a) T → SlotG T "__repr__" id → (wpAny (model X.prog X.w) X.A.in1 (call (.builtin id) [.ref a]) (fun r s₁ => ∃ x t, r = .str x t ∧ EP X pins σ Q r s₁) X.xe s) → wpAny (model X.prog X.w) X.A (call (.builtin "repr") [u]) (EP X pins σ Q) X.xe s := fun e hT sl hc => by
    subst e
    exact call_repr_slot (by omega) hT sl hc
  have units : ∀ {n : Nat}, n ≤ 60 → X.A.in1.units + n < cLine := fun h => by
    show X.A.units + 1 + _ < cLine
    omega
  cases d with
  | non =>
    cases rd; cases ru
    exact PySem.P.repr_of_none ⟨.str _, H, I.tok _, ⟨_, rfl⟩, q⟩
  | bl b =>
    cases rd; cases ru
    exact PySem.P.repr_of_bool ⟨.str _, H, I.tok _, ⟨_, by cases b <;> rfl⟩, q⟩
  | int i =>
    cases rd; obtain ⟨t, rfl⟩ := ru
    exact PySem.P.repr_of_int (by simpa [pyX, PyData.showable] using hs) ⟨.str _, H, I.tok _, ⟨_, rfl⟩, q⟩
  | str z =>
    cases rd; obtain ⟨t, rfl⟩ := ru
    exact PySem.P.repr_of_str (hsz := hz) ⟨.str _, H, I.tok _, ⟨_, rfl⟩, q⟩
  | tup ds =>
    obtain ⟨as, rr⟩ := rdX I hK sm (.tup ds) hx rd ru
    cases rd with
    | tup ht ra =>
      cases ru
      obtain ⟨its, rv, ⟨o, e1, e2, n, e3⟩, _⟩ := I.tuple (hK ▸ ht.sq sm)
      have hl' : (tupleText (PyData.shownAll (pyXs ds))).length ≤ sizeLine := by simpa only [pyX, PyData.shown] using hz
      obtain ⟨bs, c1, c2⟩ := rkXs I hK sm ds hx ra rv (by simpa [pyX, PyData.showable] using hs) fun t ht => Nat.le_trans (tupleText_mem_le ht) hl'
      have dp : (pyX (.tup ds)).depth = PyData.depthAll (pyXs ds) + 1 := by simp only [pyX, PyData.depth]
      refine wrap rfl ⟨o, e1, e2⟩ F.slot_tuple_repr ?_
      refine call_tuple_reprK e1 e2 e3 (not_mem_of_deeper rr (by omega) c1) c2 (A := X.A.in1) (g := []) hg (fun b _ => .nil b) (units (by omega)) (fun _ _ e => e) (fun h' t tk hk => ⟨_, _, rfl, ?_⟩) hl'
      have := fin h' t tk hk
      simp only [pyX, PyData.shown] at this
      exact this
  | lst ds =>
    obtain ⟨as, rr⟩ := rdX I hK sm (.lst ds) hx rd ru
    cases rd with
    | lst ht ra =>
      cases ru
      obtain ⟨its, rv, ⟨o, n, e1, e2, _, e3⟩, _⟩ := I.list (SqL.of (sm _ _ ht))
      have hl' : (listText (PyData.shownAll (pyXs ds))).length ≤ sizeLine := by simpa only [pyX, PyData.shown] using hz
      have dp : (pyX (.lst ds)).depth = PyData.depthAll (pyXs ds) + 1 := by simp only [pyX, PyData.depth]
      cases its with
      | nil =>
        exact repr_of_reads' rr hs (fun e => by
          cases ds with
          | nil => simp [pyX, pyXs, PyData.hasDict, PyData.hasDictAll] at e
          | cons d ds =>
            cases ra
            cases rv) hg (by omega) (fun _ _ e => e) (fun h' t tk hk => fin h' t tk hk) hz
      | cons y its =>
        obtain ⟨bs, c1, c2⟩ := rkXs I hK sm ds hx ra rv (by simpa [pyX, PyData.showable] using hs) fun t ht => Nat.le_trans (listText_mem_le ht) hl'
        refine wrap rfl ⟨o, e1, e2⟩ F.slot_list_repr.toG ?_
        refine call_list_reprK e1 e2 e3 (not_mem_of_deeper rr (by omega) c1) (by simpa using c2.length_eq) (fun i z hz => c2.item i z (by simpa using hz)) (A := X.A.in1) (g := []) hg (fun b _ => .nil b) (units (by omega)) (fun _ _ e => e) (fun h' t tk hk => ⟨_, _, rfl, ?_⟩) hl'
        have := fin h' t tk hk
        simp only [pyX, PyData.shown] at this
        exact this
  | dct kvs =>
    obtain ⟨as, rr⟩ := rdX I hK sm (.dct kvs) hx rd ru
    cases rd with
    | dct ht rk =>
      cases ru
      obtain ⟨_, ns, ws, kv, o, es, ep, e1, e2, e3, _, e4, _⟩ := I.hok _ _ (sm _ _ ht)
      have hl' : (dictText (PyData.shownKv (pyXk kvs))).length ≤ sizeLine := by simpa only [pyX, PyData.shown] using hz
      obtain ⟨bs, c1, c2⟩ := rkXk I hK sm kvs hx rk kv e4 (by simpa [pyX, PyData.showable] using hs) fun t ht => Nat.le_trans (dictText_mem_le ht) hl'
      have dp : (pyX (.dct kvs)).depth = PyData.depthKv (pyXk kvs) + 1 := by simp only [pyX, PyData.depth]
      refine wrap rfl ⟨o, e1, e2.1⟩ F.slot_dict_repr ?_
      refine call_dict_reprK e1 e2.1 e3 ns (not_mem_of_deeper rr (by omega) c1) c2 (A := X.A.in1) (g := []) hg (fun b _ => .nil b) (units (by omega)) (fun _ _ e => e) (fun h' t tk hk => ⟨_, _, rfl, ?_⟩) hl'
      have := fin h' t tk hk
      simp only [pyX, PyData.shown] at this
      exact this
  | obj _ _ => nomatch hx
  | dk => nomatch hx
  | opq _ => nomatch hx
def reprX : FC := fun ds R => match ds with
  | [d] => showX d ∧ R (.str (shX d))
  | _ => False
theorem ok_reprX (hK : X.K = B.K) : OkRC B (rReprX X.K) reprX := by
  intro G γ σ H vs ds R Q S r h k
  unfold reprX at h
  split at h
  · cases r with
    | cons r1 r2 =>
      cases r2
      exact ⟨B.W, G, _, _, rfl, hK, S.sub, r1, h.1, k _ _ _ _ h.2 (Same.refl _) S (.str _)⟩
  · exact h.elim
end
mutual
theorem pyX_py : ∀ {d : D}, isPy d = true → isX d = true ∧ pyX d = py d
  | .non, _ => ⟨rfl, by simp only [pyX, py]⟩
  | .bl _, _ => ⟨rfl, by simp only [pyX, py]⟩
  | .int _, _ => ⟨rfl, by simp only [pyX, py]⟩
  | .str _, _ => ⟨rfl, by simp only [pyX, py]⟩
  | .tup ds, h => by
    obtain ⟨a, b⟩ := pyXs_py (ds := ds) h
    exact ⟨a, by simp only [pyX, py, b]⟩
  | .lst ds, h => by
    obtain ⟨a, b⟩ := pyXs_py (ds := ds) h
    exact ⟨a, by simp only [pyX, py, b]⟩
  | .dct _, h => nomatch h
  | .obj _ _, h => nomatch h
  | .dk, h => nomatch h
  | .opq _, h => nomatch h
theorem pyXs_py : ∀ {ds : List D}, isPys ds = true → isXs ds = true ∧ pyXs ds = pys ds
  | [], _ => ⟨rfl, by simp only [pyXs, pys]⟩
  | d :: ds, h => by
    have h : (isPy d && isPys ds) = true := h
    rw [Bool.and_eq_true] at h
    obtain ⟨a, b⟩ := pyX_py h.1
    obtain ⟨c, e⟩ := pyXs_py h.2
    exact ⟨by show (isX d && isXs ds) = true; rw [a, c]; rfl, by simp only [pyXs, pys, b, e]⟩
end
theorem showX_of {d : D} (h : showOk d) : showX d ∧ shX d = shownD d := by
  obtain ⟨a, b, _, c, e⟩ := h
  obtain ⟨i, j⟩ := pyX_py a
  exact ⟨⟨i, by rw [j]; exact b, by rw [j]; exact c, by rw [j]; exact e⟩, by unfold shX shownD; rw [j]⟩
end EL
namespace EL
open PySem PySem.Spec PyProof.Rows L2
/-! ### zip of a text of low signs and a tuple -/
abbrev nzA (h : Heap) (x : Str) (t : Tok) : Heap := h.push { cls := .type "str_ascii_iterator", data := .fields #[.str x t, .int 0 0] }
abbrev nzB (h : Heap) (x : Str) (t : Tok) (q : Addr) : Heap := (nzA h x t).push { cls := .type "tuple_iterator", data := .fields #[.ref q, .int 0 0] }
abbrev nzC (h : Heap) (x : Str) (t : Tok) (q : Addr) : Heap := (nzB h x t q).push { cls := .type "tuple", data := .seq #[.ref h.objs.size, .ref (nzA h x t).objs.size] }
abbrev nzD (h : Heap) (x : Str) (t : Tok) (q : Addr) : Heap := (nzC h x t q).push { cls := .type "tuple", data := .seq #[.none, .none] }
abbrev nzE (h : Heap) (x : Str) (t : Tok) (q : Addr) : Heap := (nzD h x t q).push { cls := .type "zip", data := .fields #[.none, .bool false, .bool false, .ref (nzB h x t q).objs.size, .ref (nzC h x t q).objs.size] }
theorem meets_nz (x : Str) (t : Tok) (q : Addr) (ys : Array Value) :
    Meets (Builtin.«zip.__new__» ⟨[.type "zip", .str x t, .ref q], []⟩) (fun _ R s => x.cps.all (· < 128) = true ∧ s.heap.IsTuple q ys ∧
      R (.ok (.ret (.ref (nzD s.heap x t q).objs.size))) { s with heap := nzE s.heap x t q }) :=
  .of_wp fun prog w A R s h => by
    obtain ⟨hp, gn, dr, tk, os⟩ := s
    obtain ⟨k1, k2, h⟩ := h
    have hsub := sub_zip
    have m2 : Heap.IsTuple (Shared.heap ⟨hp.push { cls := .type "str_ascii_iterator", data := .fields #[.str x t, .int 0 0] }, gn, dr, tk, os⟩) q ys := Heap.IsTuple.push k2 _
    wp_walk using wpAny_pyIter_ascii k1, wpAny_pyIter_tuple m2
    exact ⟨_, rfl, h⟩
section
variable {prog : Program} {w : World} {A : Around} {E : Value → Shared → Prop} {s : Shared}
theorem call_nz {x : Str} {t : Tok} {q : Addr} {ys : Array Value} {Q : Value → Shared → Prop} (k1 : x.cps.all (· < 128) = true) (k2 : s.heap.IsTuple q ys)
    (h : ∀ h', IsZip h' (s.heap.objs.size + 4) (s.heap.objs.size + 2) (s.heap.objs.size + 3) .none → PySem.IsTupOf2 h' (s.heap.objs.size + 2) (.ref s.heap.objs.size) (.ref (s.heap.objs.size + 1)) →
      PySem.IsTupOf2 h' (s.heap.objs.size + 3) .none .none → h'.IsStrIter s.heap.objs.size "str_ascii_iterator" x t 0 → h'.IsTupleIter (s.heap.objs.size + 1) q 0 →
      (∀ c o, s.heap.get? c = some o → h'.get? c = some o) → Q (.ref (s.heap.objs.size + 4)) { s with heap := h' }) :
    wpAny (model prog w) A (call (.type "zip") [.str x t, .ref q]) Q E s := by
  refine callType_new F.called_zip (by decide) (F.typeCall_zip_2 _ _) (F.newCall_zip_2 _ _) (fun obj => F.args_object_init_3 obj _ _) F.entry_zip_new (meets_nz x t q ys) ⟨k1, k2, ?_⟩
  have n1 : (nzA s.heap x t).objs.size = s.heap.objs.size + 1 := Heap.size_push ..
  have n2 : (nzB s.heap x t q).objs.size = s.heap.objs.size + 2 := by rw [Heap.size_push, n1]
  have n3 : (nzC s.heap x t q).objs.size = s.heap.objs.size + 3 := by rw [Heap.size_push, n2]
  have n4 : (nzD s.heap x t q).objs.size = s.heap.objs.size + 4 := by rw [Heap.size_push, n3]
  have e5 : (nzE s.heap x t q).get? (nzD s.heap x t q).objs.size = some _ := Heap.get?_push_size _ rfl
  have e4 : (nzE s.heap x t q).get? (nzC s.heap x t q).objs.size = some _ := Heap.get?_push_of_some _ (Heap.get?_push_size _ rfl)
  have e3 : (nzE s.heap x t q).get? (nzB s.heap x t q).objs.size = some _ := Heap.get?_push_of_some _ (Heap.get?_push_of_some _ (Heap.get?_push_size _ rfl))
  have e2 : (nzE s.heap x t q).get? (nzA s.heap x t).objs.size = some _ := Heap.get?_push_of_some _ (Heap.get?_push_of_some _ (Heap.get?_push_of_some _ (Heap.get?_push_size _ rfl)))
  have e1 : (nzE s.heap x t q).get? s.heap.objs.size = some _ := Heap.get?_push_of_some _ (Heap.get?_push_of_some _ (Heap.get?_push_of_some _ (Heap.get?_push_of_some _ (Heap.get?_push_size _ rfl))))
  show _ ∧ _
  rw [n2, n3, n4] at e5
  rw [n1, n2] at e3
  rw [n3] at e4
  rw [n1] at e2
  rw [n4]
  exact ⟨⟨_, e5, rfl⟩, h _ e5 e3 e4 ⟨_, e1, rfl, rfl⟩ ⟨_, e2, rfl, rfl⟩ fun c o x => Heap.get?_push_of_some _ (Heap.get?_push_of_some _ (Heap.get?_push_of_some _ (Heap.get?_push_of_some _ (Heap.get?_push_of_some _ x))))⟩
end
/-- the text and the tuple at b as it stands at each turn -/
def ItzS (K : PySem.W.Frag) (x : Str) (b : Addr) : It :=
  ⟨fun i H => ∃ (ys : List V) (c : Nat) (y : V), x.cps[i]? = some c ∧ SqT K H b ys ∧ ys[i]? = some y,
    fun i H v H' => ∃ T c y, v = .ref T ∧ H T = none ∧ H' = upd H T (.tup [.str ⟨#[c]⟩, y]) ∧ x.cps[i]? = some c ∧ ∀ ys, SqT K H b ys → ys[i]? = some y,
    fun i H => ∃ ys : List V, SqT K H b ys ∧ i ≤ x.cps.size ∧ i ≤ ys.length ∧ (i = x.cps.size ∨ i = ys.length)⟩
theorem nz_nin1 (x p : Nat) (h1 : x ≠ p) : (x : Addr) ∉ ([p] : List Addr) := fun e => h1 (List.mem_singleton.mp e)
theorem nz_sep (I b : Nat) (h2 : b < I) : ZipSep2 (I + 4) (I + 2) (I + 3) I (I + 1) [I] [I + 1, b] where
  TIz := (by omega : ¬ (I + 2 = I + 4))
  TOz := (by omega : ¬ (I + 3 = I + 4))
  TITO := (by omega : ¬ (I + 2 = I + 3))
  TIi1 := (by omega : ¬ (I + 2 = I))
  mem1 := List.mem_cons_self
  zf1 := nz_nin1 _ _ (by omega)
  Tf1 := nz_nin1 _ _ (by omega)
  TIi2 := (by omega : ¬ (I + 2 = I + 1))
  mem2 := List.mem_cons_self
  zf2 := mz_nin _ _ _ (by omega) (by omega)
  Tf2 := mz_nin _ _ _ (by omega) (by omega)
  sep1_2 := mz_nin _ _ _ (by omega) (by omega)
  sep2_1 := nz_nin1 _ _ (by omega)
theorem turn_nz {P : Program} {w : World} {K : PySem.W.Frag} {elts : List Expr} {kk : Nat} {tpos : Pos} {x : Str} {t : Tok} {b z TI TO i1 i2 : Addr} (D : ZipSep2 z TI TO i1 i2 [i1] [i2, b]) (nb : b ≠ i2) (n12 : i1 ≠ i2) :
    Turn P w K (.Tuple elts kk tpos) (ItzS K x b) [z, TI, TO, i1, i2] z (fun i h => IsZip h z TI TO .none ∧ IsTupOf2 h TI (.ref i1) (.ref i2) ∧ (∃ x y, IsTupOf2 h TO x y) ∧ h.IsStrIter i1 "str_ascii_iterator" x t i ∧ h.IsTupleIter i2 b i) where
  mem := by simp
  obj := fun i h st c hc => by
    obtain ⟨s1, s2, ⟨x, y, s3⟩, ⟨o1, e1, _, d1⟩, ⟨o2, e2, _, d2⟩⟩ := st
    have e' : c = z ∨ c = TI ∨ c = TO ∨ c = i1 ∨ c = i2 := by simpa using hc
    rcases e' with q | q | q | q | q <;> rw [q]
    · exact ⟨_, s1, fun v q => nomatch q⟩
    · exact ⟨_, s2, fun v q => nomatch q⟩
    · exact ⟨_, s3, fun v q => nomatch q⟩
    · exact ⟨o1, e1, fun v q => by rw [d1] at q; cases q⟩
    · exact ⟨o2, e2, fun v q => by rw [d2] at q; cases q⟩
  keep := fun i h h' st k => by
    obtain ⟨s1, s2, ⟨x, y, s3⟩, ⟨o, s4, r⟩, s5⟩ := st
    exact ⟨k z (by simp) _ s1, k TI (by simp) _ s2, ⟨x, y, k TO (by simp) _ s3⟩, ⟨o, k i1 (by simp) o s4, r⟩, s5.at fun o q => k i2 (by simp) o q⟩
  item := by
    intro X hP hw hK hc i pins s σ H E I hf st hg
    subst hP hw hK
    obtain ⟨t1, t2, ⟨x0, y0, t3⟩, t4, t5⟩ := st
    obtain ⟨ys, cp, y, gx, qy, gy⟩ := hg
    obtain ⟨vs, rv, pv, _⟩ := I.tuple qy
    obtain ⟨v, hv, r2⟩ := rv.get gy
    have hh : X.A.in1.handled = none := I.ok.hd hc
    have b1 : i < x.cps.size := (Array.getElem?_eq_some_iff.mp gx).1
    have b2 : i < vs.toArray.size := by have := (List.getElem?_eq_some_iff.mp hv).1; simpa using this
    have zl : z < s.heap.objs.size := Heap.lt_size t1
    refine wpAny_pyNext_zipD2_item D (Draws.strAscii hh i1 x t) (Draws.tuple hh i2 b nb vs.toArray) t1 t2 t3 t4 ⟨t5, pv⟩ b1 b2 fun x1 x2 h' tk p1 p2 z' o' s4 s5 nw sz hk => ?_
    obtain ⟨c1, u1, p1, rfl⟩ := p1
    rw [gx] at p1
    cases p1
    have e2 : v = x2 := by have : vs.toArray[i]? = some x2 := p2; rw [List.getElem?_toArray, hv] at this; exact Option.some.inj this
    subst e2
    refine ⟨_, rfl, wpAny_letOwnedTupleGo_zip (s := { s with heap := h', toks := tk }) z' fun h'' z'' sb => ?_⟩
    have nw2 : h''.get? s.heap.objs.size = some { cls := .type "tuple", data := .seq #[.str ⟨#[cp]⟩ u1, v] } := (sb.2 _ (Nat.ne_of_gt zl)).trans nw
    have new : ObjOk X.prog X.w (upd H s.heap.objs.size (.tup [.str ⟨#[cp]⟩, y])) h'' s.heap.objs.size (.tup [.str ⟨#[cp]⟩, y]) :=
      ⟨by show 2 ≤ sizeLine; decide, [_, v], .cons ⟨_, rfl⟩ (.cons r2 .nil), ⟨_, nw2, rfl, _, rfl⟩⟩
    have I1 : Inv X pins σ (upd H s.heap.objs.size (.tup [.str ⟨#[cp]⟩, y])) { s with heap := h'', toks := tk } :=
      I.turnedNew (t' := tk) (ch := [z, TI, TO, i1, i2]) (fun c o hb q => (sb.2 c (fun q' => hb (by simp [q']))).trans (hk c o (fun q' => hb (by simp [q'])) (fun q' => hb (by simp [q'])) (fun q' => hb (by simp [q'])) (fun q' => hb (by simp [q'])) q)) hf (Nat.le_refl _) new
    refine ⟨.ref s.heap.objs.size, _, I1, rfl, ⟨_, cp, y, rfl, I.hok.fresh (Nat.le_refl _), rfl, gx, fun l hl => by rw [I.tuple_inj hl qy]; exact gy⟩, ⟨z'', ?_, ⟨.str ⟨#[cp]⟩ u1, v, ?_⟩, ?_, ?_⟩, fun c hcm => ?_⟩
    · exact (sb.2 _ D.TIz).trans (hk _ _ D.TIz D.TITO D.TIi1 D.TIi2 t2)
    · exact (sb.2 _ D.TOz).trans o'
    · obtain ⟨o4, q4, r4⟩ := s4
      exact ⟨o4, (sb.2 _ D.zi1.symm).trans q4, r4⟩
    · exact s5.1.at fun o q => (sb.2 _ D.zi2.symm).trans q
    · obtain ⟨_, e4, _⟩ := t4
      obtain ⟨_, e5, _⟩ := t5
      have hlt : c < s.heap.objs.size := by
        have e' : c = z ∨ c = TI ∨ c = TO ∨ c = i1 ∨ c = i2 := by simpa using hcm
        rcases e' with q | q | q | q | q <;> rw [q]
        · exact zl
        · exact Heap.lt_size t2
        · exact Heap.lt_size t3
        · exact Heap.lt_size e4
        · exact Heap.lt_size e5
      rw [upd_ne (Nat.ne_of_lt hlt)]
      exact (hf c hcm).1
  done := by
    intro X hP hw hK hc i pins s σ H E I hf st hg
    subst hP hw hK
    obtain ⟨t1, t2, ⟨x0, y0, t3⟩, t4, t5⟩ := st
    obtain ⟨ys, qy, l1, l2, hend⟩ := hg
    obtain ⟨vs, rv, pv, _⟩ := I.tuple qy
    have k2 := rv.length
    have hh : X.A.in1.handled = none := I.ok.hd hc
    have z2 : vs.toArray.size = ys.length := by rw [List.size_toArray]; exact k2.symm
    exact wpAny_pyNext_zipD2_end D (Draws.strAscii hh i1 x t) (Draws.tuple hh i2 b nb vs.toArray) t1 t2 t3 t4 ⟨t5, pv⟩ l1 (by rw [z2]; exact l2) (by rw [z2]; exact hend) fun h' tk hk =>
      ⟨rfl, I.turnedL (t' := tk) (ch := [z, TI, TO, i1, i2]) (fun c o hb q => hk c o (fun q' => hb (by simp [q'])) (fun q' => hb (by simp [q'])) (fun q' => hb (by simp [q'])) (fun q' => hb (by simp [q'])) q) hf⟩
  self := fun A i s Q E st h => wpAny_pyIter_zip st.1 h
def iZipS (K : PySem.W.Frag) (ta : TA) : TI := fun σ H R => ta σ H fun vs H1 => ∃ x b ys, vs = [.str x, .ref b] ∧ x.cps.all (· < 128) = true ∧ SqT K H1 b ys ∧ R (ItzS K x b) H1
theorem pi_zipS {X : Cx} {e e2 : Expr} {ta : TA} {p pos tpos : Pos} {elts : List Expr} {kk : Nat} (hg : Gl X "zip") (hm : X.mg "zip" = none) (ha : PA X [e, e2] ta)
    (hs : starEach [e, e2] X.env = (false, eval e X.env) :: starEach [e2] X.env := by rfl) (hpl : (backTo pos (starEach [e2] X.env)).any (·.1) = false := by rfl) : PI X (.Tuple elts kk tpos) (.Call (.Name "zip" p) [e, e2] [] pos) (iZipS X.K ta) := by
  refine ⟨fun pins s σ H R I h => Call_ (ld_blt I hg hm PyProof.Rows.boot_zip (PyProof.Rows.callWith_type1 (thn (ha.run pos pins s σ H _ I h) fun us s1 ⟨vs, H1, I1, r1, x, b, ys, ex, hx, qy, q⟩ => ?_) hs hpl))⟩
  subst ex
  cases r1 with
  | cons ra rr =>
  cases rr with
  | cons rb rr =>
  cases rr
  obtain ⟨t, rfl⟩ := ra
  cases rb
  let n := s1.heap.objs.size
  have fp : ∀ c, c ∈ [n + 4, n + 2, n + 3, n, n + 1] → FpOk X pins H1 c := fun c hc => by
    have hle : n ≤ c := by
      have e' : c = n + 4 ∨ c = n + 2 ∨ c = n + 3 ∨ c = n ∨ c = n + 1 := by simpa using hc
      rcases e' with z | z | z | z | z <;> rw [z]
      · exact Nat.le_add_right _ _
      · exact Nat.le_add_right _ _
      · exact Nat.le_add_right _ _
      · exact Nat.le_refl _
      · exact Nat.le_add_right _ _
    exact I1.fpOk hle (I1.hok.fresh hle)
  obtain ⟨l2, v2, p2, _⟩ := I1.tuple qy
  obtain ⟨o2, w2, _⟩ := id p2
  have lb : b < n := Heap.lt_size w2
  exact call_nz hx (show s1.heap.IsTuple b l2.toArray from p2) fun h' hz hTI hTO h1 h2 hk => wpAny_pyIter_zip hz
    ⟨n + 4, [n + 4, n + 2, n + 3, n, n + 1], _, _, H1, rfl, I1.kept (t' := s1.toks) hk, turn_nz (nz_sep n b lb) (Nat.ne_of_lt (Nat.lt_succ_of_lt lb)) (Nat.ne_of_lt (Nat.lt_succ_self n)), ⟨hz, hTI, ⟨_, _, hTO⟩, h1, h2⟩, fp, q⟩
/-- the signs of a text, with things -/
def zipS (x : Str) (ds : List D) : List D := (x.cps.toList.zip ds).map fun p => .tup [.str ⟨#[p.1]⟩, p.2]
theorem zipS_get {x : Str} {ds : List D} {i : Nat} {c : D} (h : (zipS x ds)[i]? = some c) : ∃ k d, x.cps[i]? = some k ∧ ds[i]? = some d ∧ c = .tup [.str ⟨#[k]⟩, d] := by
  unfold zipS at h
  rw [List.getElem?_map] at h
  cases q : (x.cps.toList.zip ds)[i]? with
  | none => rw [q] at h; cases h
  | some p =>
    rw [q] at h
    injection h with h
    obtain ⟨a, b⟩ := p
    obtain ⟨h1, h2⟩ := List.getElem?_zip_eq_some.mp q
    exact ⟨a, b, by rw [← Array.getElem?_toList]; exact h1, h2, h.symm⟩
section
variable {B : Bs} {G1 : Hp}
theorem walkD_nz {x : Str} {b : Addr} {us : List V} {es : List D} (h' : SqT B.K G1 b us) (r' : RpAll B.W G1 us es) : WalkD B (ItzS B.K x b) G1 (zipS x es) := fun H0 G γ σ H sm S => by
  have hs' : SqT B.K H b us := sqT_mono S.sub (sqT_mono sm h')
  have el : (zipS x es).length = min x.cps.size es.length := by
    unfold zipS
    rw [List.length_map, List.length_zip, Array.length_toList]
  refine ⟨⟨us, hs', ?_⟩, fun i c hc => ?_⟩
  · rw [el, r'.len]
    omega
  obtain ⟨k, e, hd, he, rfl⟩ := zipS_get hc
  obtain ⟨u, hu, ru⟩ := r'.get he
  refine ⟨⟨us, k, u, hd, hs', hu⟩, fun x' H' ⟨T, c', y', g1, g2, g3, g4, g5⟩ => ?_⟩
  have e2 := g5 us hs'
  rw [hu] at e2
  rw [hd] at g4
  cases g4
  cases e2
  subst g1 g3
  exact pair_step (B := withH B H0) S (.str _) (ru.mono sm) g2
def iZipTS (t : DA) : DA := fun γ R => t γ fun ds γ1 => match ds with
  | [.str x, .tup ys] => x.cps.all (· < 128) = true ∧ R (zipS x ys) γ1
  | _ => False
theorem i_zipS {tg it : Expr} {X : Cx} {t : DA} (h : PI X tg it (iZipS B.K (tDA B t))) : PI X tg it (tDI B (iZipTS t)) := pi_imp h fun σ H R' ⟨G, γ, R, S, h, k⟩ => ⟨G, γ, _, S, h, fun ds γ1 G1 vs H1 q sm S1 r => by
  split at q
  · cases r with
    | cons r1 r2 =>
    cases r2 with
    | cons r2 r3 =>
    cases r3
    cases rpStr r1
    cases r2 with
    | tup hs ra => exact ⟨_, _, _, rfl, q.1, hs.sq S1.sub, k _ _ _ _ _ q.2 sm S1 (walkD_nz hs.sq0 ra)⟩
  · exact q.elim⟩
end
section
variable {X : Cx} {B : Bs} {a b c : Expr} {ta tb tc : DT} {pos : Pos}
/-! ### a < b < c -/
def bChain (f f' : FP) (ta tb tc : DT) : DB := fun γ R => ta γ fun x γ1 => tb γ1 fun y γ2 => f x y fun p => (p → tc γ2 fun z γ3 => f' y z fun q => R q γ3) ∧ (¬p → R False γ2)
theorem b_chain {op op' : CmpOp} {r r' : R2} {f f' : FP} (ho : OpR X (compareOp op) r) (ho' : OpR X (compareOp op') r') (hr : OkRP B r f) (hr' : OkRP B r' f') (ha : PE X a (tD B ta)) (hb : PE X b (tD B tb)) (hc : PE X c (tD B tc))
    (hm : lastMarks [op, op'] [b, c] = false := by with_unfolding_all rfl) : PT X (.Compare a [op, op'] [b, c] pos) (tDB B (bChain f f' ta tb tc)) :=
  pt_imp (pt_chain ho ho' ha hb hc hm) fun σ H Q ⟨G, γ, R, S, h, k⟩ =>
    ⟨G, γ, _, S, h, fun d γ1 G1 v H1 h1 s1 S1 r1 => ⟨G1, γ1, _, S1, h1, fun e γ2 G2 u H2 h2 s2 S2 r2 => hr _ _ _ _ _ _ _ _ _ _ S2 (r1.mono s2) r2 h2 fun p x G3 H3 ⟨h3, h4⟩ hp s3 S3 => ⟨x, rfl, by
      cases x with
      | true =>
        rw [if_pos rfl]
        exact ⟨G3, γ2, _, S3, h3 (hp.mp rfl), fun z γ4 G4 y H4 h5 s4 S4 r4 => hr' _ _ _ _ _ _ _ _ _ _ S4 ((r2.mono s3).mono s4) r4 h5 fun q x5 G5 H5 h6 hq s5 S5 => ⟨x5, rfl, k _ _ _ _ _ h6 hq (s1.trans (s2.trans (s3.trans (s4.trans s5)))) S5⟩⟩
      | false =>
        rw [if_neg (by decide)]
        exact ⟨false, rfl, k _ _ _ _ _ (h4 fun h => by have := hp.mpr h; cases this) (by simp) (s1.trans (s2.trans s3)) S3⟩⟩⟩⟩
def leSP : FP := fun d e R => match d, e with
  | .str i, .str j => R (¬ strLt j i)
  | _, _ => False
theorem ok_leSP : OkRP B (fun x y H Q => ∃ i j, x = .str i ∧ y = .str j ∧ Q (.bl (!decide (j.cps.toList < i.cps.toList))) H) leSP := by
  intro G γ σ H x y d e R Q S rx ry h k
  unfold leSP at h
  split at h
  · cases rpStr rx
    cases rpStr ry
    exact ⟨_, _, rfl, rfl, k _ _ _ _ h (by unfold strLt; simp) (Same.refl _) S⟩
  · exact h.elim
end
end EL
namespace EL
open PySem PySem.Spec PyProof.Rows L2
section
variable {X : Cx} {B : Bs} {e a b : Expr} {t ta tb : DT} {pos : Pos}
/-! ### a tuple == () -/
def rEqT0 (K : PySem.W.Frag) : R2 := fun x y H Q => ∃ (p q : Addr) (xs : List V), x = .ref p ∧ y = .ref q ∧ SqT K H p xs ∧ SqT K H q [] ∧ Q (.bl xs.isEmpty) H
theorem op_eqT0 {n : Nat} (hr : Room n X.A) : OpR X (compareOp .Eq) (rEqT0 X.K) := by
  intro pins s σ H x y v u Q I rx ry h
  obtain ⟨p, q, xs, rfl, rfl, h1, h2, k⟩ := h
  obtain rfl : v = Value.ref p := rx
  obtain rfl : u = Value.ref q := ry
  obtain ⟨its, rv, p1, _⟩ := I.tuple h1
  obtain ⟨its2, rv2, p2, _⟩ := I.tuple h2
  have hu := hr.units
  cases rv2
  refine PySem.SeqAt.eq_tupleAt (e := fun _ => true) (show s.heap.IsTuple p its.toArray from p1) (show s.heap.IsTuple q ([] : List Value).toArray from p2) (by omega) (fun j h1 h2 => absurd h2 (Nat.not_lt_zero j)) ?_
  have e : ((List.range (min its.toArray.size ([] : List Value).toArray.size)).all (fun _ => true) && its.toArray.size == ([] : List Value).toArray.size) = xs.isEmpty := by
    have hl := rv.length
    cases xs with
    | nil => cases its with
      | nil => rfl
      | cons _ _ => cases hl
    | cons _ _ => cases its with
      | nil => cases hl
      | cons _ _ => simp
  rw [e]
  exact ⟨.bl _, H, I, rfl, k⟩
def eqT0 : FP := fun d e R => match d, e with
  | .tup xs, .tup [] => R (xs = [])
  | _, _ => False
theorem ok_eqT0 (hK : X.K = B.K) : OkRP B (rEqT0 X.K) eqT0 := by
  intro G γ σ H x y d e R Q S rx ry h k
  rw [hK]
  unfold eqT0 at h
  split at h
  · cases rx with
    | tup hs ra =>
    cases ry with
    | tup hs' ra' =>
      cases ra'
      refine ⟨_, _, _, rfl, rfl, hs.sq S.sub, hs'.sq S.sub, k _ _ _ _ h ?_ (Same.refl _) S⟩
      cases ra with
      | nil => simp
      | cons _ _ => simp
  · exact h.elim
/-! ### s.upper() -/
def upS (z : Str) : Str := Txt.upper z
theorem mt_upperA : MtR X "str.upper" (fun x xs H Q => ∃ a, x = .str a ∧ xs = [] ∧ ((∀ c ∈ a.cps.toList, c < 128) ∧ a.length ≤ 1000000) ∧ Q (.str (upS a)) H) :=
  mt0 (C := fun a => (∀ c ∈ a.cps.toList, c < 128) ∧ a.length ≤ 1000000) (g := fun a => .str (upS a)) fun a t s Q hc h => PySem.SC.upper (by
    have e := upper_ascii hc.1
    have : (Txt.upper a).length = a.length := by rw [e]; simp [Str.length]
    unfold Builtin.Str.tooLong
    rw [this]
    have := hc.2
    simp
    unfold sizeLine
    omega) (h _ _ ⟨_, rfl⟩)
def dUp (t : DT) : DT := fun γ R => t γ fun x γ1 => match x with
  | .str z => ((∀ c ∈ z.cps.toList, c < 128) ∧ z.length ≤ 1000000) ∧ R (.str (upS z)) γ1
  | _ => False
theorem d_up (h : PE X e (tM0 (fun x xs H Q => ∃ a, x = .str a ∧ xs = [] ∧ ((∀ c ∈ a.cps.toList, c < 128) ∧ a.length ≤ 1000000) ∧ Q (.str (upS a)) H) (tD B t))) : PE X e (tD B (dUp t)) := pe_imp h fun σ H Q ⟨G, γ, R, S, h, k⟩ =>
  ⟨G, γ, _, S, h, fun d γ1 G1 v H1 h1 s1 S1 r1 => by
    split at h1
    · cases rpStr r1
      exact ⟨⟨_, rfl⟩, _, rfl, rfl, h1.1, k _ _ _ _ _ h1.2 s1 S1 (.str _)⟩
    · exact h1.elim⟩
end
theorem up_low {z : Str} (h : ∀ c ∈ z.cps.toList, c < 128) : (∀ c ∈ (upS z).cps.toList, c < 128) ∧ (upS z).length = z.length := by
  unfold upS
  rw [upper_ascii h]
  refine ⟨fun c hc => ?_, by simp [Str.length]⟩
  have hc : c ∈ (z.cps.map up1).toList := hc
  rw [Array.toList_map] at hc
  obtain ⟨d, hd, rfl⟩ := List.mem_map.mp hc
  have := h d hd
  unfold up1
  split <;> omega
theorem str_low (i : Int) : ∀ c ∈ (Str.ofString (toString i)).cps.toList, c < 128 := fun c hc => by
  have := PyProof.Rows.signs_ofString (toString i)
  rw [this] at hc
  obtain ⟨k, hk, rfl⟩ := List.mem_map.mp hc
  exact PySem.int_ascii i k hk
end EL
namespace EL
open PySem PySem.Spec PyProof.Rows L2
section
variable {X : Cx} {B : Bs} {G G' G1 : Hp} {γ γ' : Gm} {σ σ' : L2.St} {H H' : Hp} {e a b : Expr} {ta tb t : DT} {pos : Pos} {st : Stmt} {p : Addr} {o o' : HO}
/-! ### a dict gone through -/
def dcD (bd : BdT) (tt : DB) (tk tv : DT) (vs : List Nat) : List D → List (Key × D) → Gm → (List (Key × D) → Gm → Prop) → Prop
  | [], acc, γ, R => R acc (wipeS γ vs)
  | d :: ds, acc, γ, R => bd d γ fun γ2 => tt γ2 fun p γ3 => (p → tk γ3 fun c γ4 => tv γ4 fun e γ5 => ∃ key, keyD c = some key ∧ dcD bd tt tk tv vs ds (setK key e acc) (wipeS γ5 vs) R) ∧ (¬p → dcD bd tt tk tv vs ds acc (wipeS γ3 vs) R)
def fDc (t : DA) (bd : BdT) (tt : DB) (tk tv : DT) (vs : List Nat) : DKv := fun γ R => t γ fun ds γ1 => ds.length ≤ 1000000 ∧ dcD bd tt tk tv vs ds [] (wipeS γ1 vs) R
theorem dc_run {t : DA} {bd : BdT} {tt : DB} {tk tv : DT} {vs : List Nat} : ∀ σ H Q, tDFd B (fDc t bd tt tk tv vs) σ H Q → tDc (tDI B t) (tDGx B vs bd) (tDBx B tt) (tDx B tk) (tDx B tv) vs σ H Q := fun σ H Q ⟨G, γ, R, S, h, k⟩ => by
  refine ⟨G, γ, _, S, h, fun ds γ1 G1 H1 J ⟨lim, q⟩ sm S1 w Dd hD => ?_⟩
  have hg0 : B.G0 Dd = none := S1.sub0.free (S1.sub.free hD)
  have hh0 := S1.free0 hD
  have hdk : ∀ d c, B.W.dk = some (d, c) → B.H0 d ≠ none ∧ B.H0 c ≠ none := fun d c e => ⟨(S1.dkok d c e).2.1, (S1.dkok d c e).2.2.1⟩
  refine ⟨fun i m H => ∃ G γ us acc, m = ds.length - i ∧ i ≤ ds.length ∧ acc.length ≤ i ∧ Same G1 G ∧ DstG B G γ (wipe σ vs) H ∧ H Dd = some (.dK us) ∧ RpKv B.W G us acc ∧ G Dd = none ∧ NoSlot γ.sl Dd ∧ dcD bd tt tk tv vs (ds.drop i) acc γ R,
    ⟨_, G1, wipeS γ1 vs, [], [], rfl, Nat.zero_le _, Nat.le_refl _, Same.refl _, (S1.laid (o := .dK []) (fun _ z => nomatch z) hD).wiped vs, upd_same, .nil, S1.sub.free hD, (S1.noslot hD).wipe vs, q⟩, ?_⟩
  rintro i m H2 ⟨G2, γ2, us, acc, rfl, hi, hacc, sm2, S2, hu, ra, hg, hn, q2⟩
  have S2h := S2.hide hu hg hh0 hn
  obtain ⟨w1, w2⟩ := w _ G2 γ2 _ H2 sm2 S2h
  by_cases hlt : i < ds.length
  · right
    obtain ⟨go, y⟩ := w2 i _ (List.getElem?_eq_getElem hlt)
    rw [List.drop_eq_getElem_cons hlt] at q2
    refine ⟨go, fun H' => ∃ G γ us acc, acc.length ≤ i + 1 ∧ Same G1 G ∧ DstG B G γ (wipe σ vs) H' ∧ H' Dd = some (.dK us) ∧ RpKv B.W G us acc ∧ G Dd = none ∧ NoSlot γ.sl Dd ∧ dcD bd tt tk tv vs (ds.drop (i + 1)) acc γ R,
      fun H' ⟨G3, γ3, us, acc, z⟩ => ⟨ds.length - (i + 1), by omega, G3, γ3, us, acc, rfl, hlt, z⟩, fun x H' yy => ?_⟩
    obtain ⟨G3, s3, S3, r3⟩ := y x H' yy
    refine ⟨upd B.H0 Dd (.dK us), G3, γ2, _, _, S3, r3, q2, fun γ4 σ4 q4 S4 w4 => ⟨w4.trans (wipe_wipe σ vs), ?_⟩⟩
    have w4' : wipe σ4 vs = wipe σ vs := w4.trans (wipe_wipe σ vs)
    have s13 : Same G1 G3 := sm2.trans s3
    refine ⟨_, G3, γ4, _, S4, q4, fun pp b γ5 G5 H5 ⟨h1, h2⟩ hpb s5 S5 => ?_⟩
    cases b with
    | true =>
      refine iteT ?_
      refine ⟨_, G5, γ5, _, S5, h1 (hpb.mp rfl), fun c γ6 G6 v H6 q6 s6 S6 r6 => ⟨_, G6, γ6, _, S6, q6, fun e7 γ7 G7 v7 H7 ⟨key, hk, q7⟩ s7 S7 r7 => ?_⟩⟩
      obtain ⟨S7', hu7, hg7, hn7⟩ := S7.unhide hh0 hg0 hdk
      have ra7 := ra.mono (s3.trans (s5.trans (s6.trans s7)))
      have hl : acc.length < 1000000 := by omega
      refine ⟨us, key, rp_key r6 hk, hu7, by rw [ra7.len]; exact Nat.lt_of_lt_of_le hl (by decide), G7, wipeS γ7 vs, putK us key v7, setK key e7 acc, Nat.le_trans (setK_len acc) (Nat.succ_le_succ hacc), s13.trans (s5.trans (s6.trans s7)), ?_, upd_same, rp_putK r7 ra7, hg7, hn7.wipe vs, q7⟩
      rw [← w4']
      exact (S7'.wiped vs).offed (fun _ z => nomatch z) hg7 hh0 (hn7.wipe vs)
    | false =>
      refine iteF ?_
      obtain ⟨S5', hu5, hg5, hn5⟩ := S5.unhide hh0 hg0 hdk
      refine ⟨G5, wipeS γ5 vs, us, acc, by omega, s13.trans s5, ?_, hu5, ra.mono (s3.trans s5), hg5, hn5.wipe vs, h2 fun z => nomatch hpb.mpr z⟩
      rw [← w4']
      exact S5'.wiped vs
  · left
    have e : i = ds.length := by omega
    subst e
    rw [List.drop_length] at q2
    exact ⟨w1, k _ _ _ _ _ _ q2 (sm.trans sm2) S2.unwipe hu ra hh0 hg (hn.wipe vs)⟩
theorem f_dc {t : DA} {bd : BdT} {tt : DB} {tk tv : DT} {vs : List Nat} (h : PE X e (tDc (tDI B t) (tDGx B vs bd) (tDBx B tt) (tDx B tk) (tDx B tv) vs)) : PE X e (tDFd B (fDc t bd tt tk tv vs)) := pe_imp h dc_run
/-! ### a list and two dicts, new, stored at once -/
def sParL2D (i j l : Nat) : DS := fun E γ => ∀ p q r, E.nx (putS (putS (putS γ i (.own p [])) j (.ownD q [])) l (.ownD r []))
theorem s_parL2D {i j l : Nat} (hij : i ≠ j) (hil : i ≠ l) (hjl : j ≠ l) (h : PS X st (tPar3 i j l (tCons (tLst tNil) (tCons tDNewK (tCons tDNewK tNil))))) : PS X st (tDS B (sParL2D i j l)) := ps_imp h fun De σ H ⟨G, γ, E, S, h, F⟩ => by
  refine ⟨by show 0 ≤ sizeLine; decide, fun p hp q hq r hr => ?_⟩
  have S1 := S.laid (o := .lst []) (fun _ z => nomatch z) hp
  have S2 := S1.laid (o := .dK []) (fun _ z => nomatch z) hq
  have S3 := S2.laid (o := .dK []) (fun _ z => nomatch z) hr
  have hqp : q ≠ p := fun z => by rw [z, upd_same] at hq; cases hq
  have hrq : r ≠ q := fun z => by rw [z, upd_same] at hr; cases hr
  have hrp : r ≠ p := fun z => by rw [z, upd_ne hqp.symm, upd_same] at hr; cases hr
  have np := S.noslot hp
  have nq := S1.noslot hq
  have nr := S2.noslot hr
  have q2 := h p q r
  rw [putS_eq, putS_eq, putS_eq] at q2
  refine ⟨_, _, _, rfl, ?_⟩
  have S4 := slot_set S3 (i := i) (v := .ref p) (s := .own p []) ⟨rfl, [], by rw [upd_ne hrp.symm, upd_ne hqp.symm, upd_same], .nil⟩ (fun p' hp' => by
    cases List.mem_singleton.mp hp'
    exact ⟨S.free0 hp, S.sub.free hp, fun j t _ e => np j t e⟩)
  have S5 := slot_set S4 (i := j) (v := .ref q) (s := .ownD q []) ⟨rfl, [], by rw [upd_ne hrq.symm, upd_same], .nil⟩ (fun p' hp' => by
    cases List.mem_singleton.mp hp'
    refine ⟨S1.free0 hq, S1.sub.free hq, fun j' t hj e => ?_⟩
    by_cases z : i = j'
    · subst z
      by_cases li : i < γ.sl.length
      · rw [List.getElem?_set_self li] at e
        cases e
        exact fun z => hqp (List.mem_singleton.mp z)
      · rw [List.getElem?_eq_none (by rw [List.length_set]; omega)] at e
        cases e
    · rw [List.getElem?_set_ne z] at e
      exact nq j' t e)
  have S6 := slot_set S5 (i := l) (v := .ref r) (s := .ownD r []) ⟨rfl, [], upd_same, .nil⟩ (fun p' hp' => by
    cases List.mem_singleton.mp hp'
    refine ⟨S2.free0 hr, S2.sub.free hr, fun j' t hj e => ?_⟩
    by_cases z2 : j = j'
    · subst z2
      by_cases li : j < (γ.sl.set i (.own p [])).length
      · rw [List.getElem?_set_self li] at e
        cases e
        exact fun z => hrq (List.mem_singleton.mp z)
      · rw [List.getElem?_eq_none (by rw [List.length_set]; omega)] at e
        cases e
    rw [List.getElem?_set_ne z2] at e
    by_cases z : i = j'
    · subst z
      by_cases li : i < γ.sl.length
      · rw [List.getElem?_set_self li] at e
        cases e
        exact fun z => hrp (List.mem_singleton.mp z)
      · rw [List.getElem?_eq_none (by rw [List.length_set]; omega)] at e
        cases e
    · rw [List.getElem?_set_ne z] at e
      exact nr j' t e)
  exact F.nx _ _ _ _ q2 (Same.refl _) S6
/-! ### sorted(a dict of texts): its keys, in some order -/
def fSortD (ta : DA) : DA := fun γ R => ta γ fun ds γ1 => match ds with
  | [.dct kvs] => ∃ ks : List Str, kvs.map (·.1) = ks.map Sum.inr ∧ ks.length < 64 ∧ ∀ ys : List Str, ys.Perm ks → R (ys.map D.str) γ1
  | _ => False
theorem RpKv.keys' {W : Cw} : ∀ {vs : List (Key × V)} {ds : List (Key × D)}, RpKv W G vs ds → vs.map (·.1) = ds.map (·.1)
  | _, _, .nil => rfl
  | _, _, .cons _ t => by rw [List.map_cons, List.map_cons, RpKv.keys' t]
theorem f_sortD {ta : DA} (h : PE X e (tCB (fun xs H Q => ∃ (a : Addr) (kvs : List (Key × V)) (ks : List Str), xs = [.ref a] ∧ Rd H a (.dK kvs) ∧ kvs.map (·.1) = ks.map Sum.inr ∧ ks.length < 64 ∧ ∀ (ys : List Str) (p : Addr), ys.Perm ks → sortedS ys = true → H p = none → Q (.ref p) (upd H p (.lst (ys.map V.str)))) (tDA B ta))) :
    PE X e (tDF B (fSortD ta)) := pe_imp h fun σ H Q ⟨G, γ, R, S, h, k⟩ =>
  ⟨G, γ, _, S, h, fun ds γ1 G1 vs H1 q sm S1 r => by
    split at q
    · rename_i kvs
      obtain ⟨ks, e1, e2, hR⟩ := q
      cases r with
      | cons r1 r2 =>
        cases r2
        cases r1 with
        | dct hs ra =>
          refine ⟨_, _, ks, rfl, .inl (S1.sub _ _ hs), (RpKv.keys' ra).trans e1, e2, fun ys p py _ hp => ?_⟩
          exact k _ _ _ _ _ _ (hR ys py) sm (S1.laid (fun _ z => nomatch z) hp) upd_same (strs_rp ys) (S1.free0 hp) (S1.sub.free hp) (S1.noslot hp)
    · exact q.elim⟩
end
end EL
namespace EL
open PySem PySem.Spec PyProof.Rows L2
section
variable {prog : Program} {w : World} {A : Around} {E : Value → Shared → Prop} {s : Shared}
/-- str of an object, by what strOf makes of it -/
theorem call_str_at {a : Addr} {Q : Value → Shared → Prop} (h : wpAny (model prog w) A.in1.in1 (Builtin.Str.strOf (.ref a)) (fun r s' => s'.TypeIs r "str" ∧ Q r s') E s) : wpAny (model prog w) A (call (.type "str") [.ref a]) Q E s := by
  refine callType_codes F.called_str (F.typeCall_str_1 _) F.entry_object_init (Q₁ := fun r s' => s'.TypeIs r "str" ∧ Q r s')
    (codeAny_call_builtin F.called_str.plain F.entry_str_new (wpAny_of_eq (F.newCall_str_1 _) ?_)) fun obj s₁ hq => ⟨hq.1, F.args_object_init_2 _ _, ?_⟩
  · rw [str_new_tree]
    refine wpAny_bind (wpAny_pure ?_)
    refine wpAny_bind (wpAny_of_eq isSubtype_str_str ?_)
    exact wpAny_bind (wpAny_mono h (fun r s' h' => wpAny_pure h') fun _ _ e => e)
  · exact object_init_meets F.called_str.init.lookup F.called_str.made (by decide) prog w A.in1 (wants (fun r s₂ => r = .none ∧ Q obj s₂) E) s₁ ⟨hq.1, ⟨rfl, hq.2⟩⟩
end
section
variable {X : Cx} {B : Bs}
def strX : D → Str
  | .str z => z
  | d => shX d
def rStrX (K : PySem.W.Frag) : List V → Hp → VK → Prop := fun xs H Q => ∃ (W : Cw) (G : Hp) (d : D) (v : V), xs = [v] ∧ K = W.K ∧ Same G H ∧ Rp W G v d ∧ showX d ∧ Q (.str (strX d)) H
theorem cr_strX {k : Nat} (hg : X.A.guards = some []) (hr : Room k X.A) : CallR X (.type "str") (rStrX X.K) := by
  intro pins s σ H xs us Q I r h
  obtain ⟨W, G, d, v, rfl, hK, sm, rd, ⟨hx, hs, hd, hl⟩, q⟩ := h
  obtain ⟨u, rfl, ru⟩ := vals1 r
  have hu := hr.units
  have hz : (pyX d).shown.length ≤ sizeLine := by unfold sizeLine; omega
  have wrap : ∀ {a : Addr} {T id : String} {t : Str}, u = .ref a → strX d = t → s.TypeIs (.ref a) T → Slot T "__str__" "object.__str__" → SlotG T "__repr__" id →
      (wpAny (model X.prog X.w) X.A.in1.in1.in1 (call (.builtin id) [.ref a]) (fun r s₁ => ∃ h' t' tk, r = .str t t' ∧ (∀ b o, s.heap.get? b = some o → h'.get? b = some o) ∧ s₁ = { s with heap := h', toks := tk }) X.xe s) → wpAny (model X.prog X.w) X.A (call (.type "str") [u]) (EP X pins σ Q) X.xe s := fun e et hT ss sl hc => by
    subst e
    refine call_str_at (wpAny_strOf_slot rfl (by show X.A.units + 1 + 1 + 1 < cLine; omega) hT ss sl (wpAny_mono hc (fun r s₁ h₁ => ?_) fun _ _ e => e))
    obtain ⟨h', t', tk, rfl, hk, rfl⟩ := h₁
    exact ⟨_, _, rfl, typeIs_str _ _ _, .str _, H, I.kept hk, ⟨t', rfl⟩, et ▸ q⟩
  have units : ∀ {n : Nat}, n ≤ 60 → X.A.in1.in1.in1.units + n < cLine := fun h => by
    show X.A.units + 1 + 1 + 1 + _ < cLine
    omega
  cases d with
  | non =>
    cases rd; cases ru
    exact PySem.P.str_of_none ⟨.str _, H, I.tok _, ⟨_, rfl⟩, q⟩
  | bl b =>
    cases rd; cases ru
    exact PySem.P.str_of_bool ⟨.str _, H, I.tok _, ⟨_, by cases b <;> rfl⟩, q⟩
  | int i =>
    cases rd; obtain ⟨t, rfl⟩ := ru
    exact PySem.P.str_of_int (by simpa [pyX, PyData.showable] using hs) ⟨.str _, H, I.tok _, ⟨_, rfl⟩, q⟩
  | str z =>
    cases rd; obtain ⟨t, rfl⟩ := ru
    exact PySem.P.str_of_str ⟨.str _, H, I, ⟨t, rfl⟩, q⟩
  | tup ds =>
    obtain ⟨as, rr⟩ := rdX I hK sm (.tup ds) hx rd ru
    cases rd with
    | tup ht ra =>
      cases ru
      obtain ⟨its, rv, ⟨o, e1, e2, n, e3⟩, _⟩ := I.tuple (hK ▸ ht.sq sm)
      have hl' : (tupleText (PyData.shownAll (pyXs ds))).length ≤ sizeLine := by simpa only [pyX, PyData.shown] using hz
      obtain ⟨bs, c1, c2⟩ := rkXs I hK sm ds hx ra rv (by simpa [pyX, PyData.showable] using hs) fun t ht => Nat.le_trans (tupleText_mem_le ht) hl'
      have dp : (pyX (.tup ds)).depth = PyData.depthAll (pyXs ds) + 1 := by simp only [pyX, PyData.depth]
      refine wrap (t := tupleText (PyData.shownAll (pyXs ds))) rfl (by show (pyX (.tup ds)).shown = _; simp only [pyX, PyData.shown]) ⟨o, e1, e2⟩ F.slot_tuple_str F.slot_tuple_repr ?_
      exact call_tuple_reprK e1 e2 e3 (not_mem_of_deeper rr (by omega) c1) c2 (A := X.A.in1.in1.in1) (g := []) hg (fun b _ => .nil b) (units (by omega)) (fun _ _ e => e) (fun h' t tk hk => ⟨h', _, tk, rfl, hk, rfl⟩) hl'
  | lst ds =>
    obtain ⟨as, rr⟩ := rdX I hK sm (.lst ds) hx rd ru
    cases rd with
    | lst ht ra =>
      cases ru
      obtain ⟨its, rv, ⟨o, n, e1, e2, _, e3⟩, _⟩ := I.list (SqL.of (sm _ _ ht))
      have hl' : (listText (PyData.shownAll (pyXs ds))).length ≤ sizeLine := by simpa only [pyX, PyData.shown] using hz
      have dp : (pyX (.lst ds)).depth = PyData.depthAll (pyXs ds) + 1 := by simp only [pyX, PyData.depth]
      have et : strX (.lst ds) = listText (PyData.shownAll (pyXs ds)) := by show (pyX (.lst ds)).shown = _; simp only [pyX, PyData.shown]
      cases its with
      | nil =>
        refine str_of_reads rr hs (fun e => by
          cases ds with
          | nil => simp [pyX, pyXs, PyData.hasDict, PyData.hasDictAll] at e
          | cons d ds =>
            cases ra
            cases rv) hg (by omega) (fun _ _ e => e) (fun h' t tk hk => ⟨.str _, H, I.kept hk, ⟨t, rfl⟩, q⟩) hz
      | cons y its =>
        obtain ⟨bs, c1, c2⟩ := rkXs I hK sm ds hx ra rv (by simpa [pyX, PyData.showable] using hs) fun t ht => Nat.le_trans (listText_mem_le ht) hl'
        refine wrap rfl et ⟨o, e1, e2⟩ F.slot_list_str F.slot_list_repr.toG ?_
        exact call_list_reprK e1 e2 e3 (not_mem_of_deeper rr (by omega) c1) (by simpa using c2.length_eq) (fun i z hz => c2.item i z (by simpa using hz)) (A := X.A.in1.in1.in1) (g := []) hg (fun b _ => .nil b) (units (by omega)) (fun _ _ e => e) (fun h' t tk hk => ⟨h', _, tk, rfl, hk, rfl⟩) hl'
  | dct kvs =>
    obtain ⟨as, rr⟩ := rdX I hK sm (.dct kvs) hx rd ru
    cases rd with
    | dct ht rk =>
      cases ru
      obtain ⟨_, ns, ws, kv, o, es, ep, e1, e2, e3, _, e4, _⟩ := I.hok _ _ (sm _ _ ht)
      have hl' : (dictText (PyData.shownKv (pyXk kvs))).length ≤ sizeLine := by simpa only [pyX, PyData.shown] using hz
      obtain ⟨bs, c1, c2⟩ := rkXk I hK sm kvs hx rk kv e4 (by simpa [pyX, PyData.showable] using hs) fun t ht => Nat.le_trans (dictText_mem_le ht) hl'
      have dp : (pyX (.dct kvs)).depth = PyData.depthKv (pyXk kvs) + 1 := by simp only [pyX, PyData.depth]
      refine wrap (t := dictText (PyData.shownKv (pyXk kvs))) rfl (by show (pyX (.dct kvs)).shown = _; simp only [pyX, PyData.shown]) ⟨o, e1, e2.1⟩ F.slot_dict_str F.slot_dict_repr ?_
      exact call_dict_reprK e1 e2.1 e3 ns (not_mem_of_deeper rr (by omega) c1) c2 (A := X.A.in1.in1.in1) (g := []) hg (fun b _ => .nil b) (units (by omega)) (fun _ _ e => e) (fun h' t tk hk => ⟨h', _, tk, rfl, hk, rfl⟩) hl'
  | obj _ _ => nomatch hx
  | dk => nomatch hx
  | opq _ => nomatch hx
def strXF : FC := fun ds R => match ds with
  | [d] => showX d ∧ R (.str (strX d))
  | _ => False
theorem ok_strX (hK : X.K = B.K) : OkRC B (rStrX X.K) strXF := by
  intro G γ σ H vs ds R Q S r h k
  unfold strXF at h
  split at h
  · cases r with
    | cons r1 r2 =>
      cases r2
      exact ⟨B.W, G, _, _, rfl, hK, S.sub, r1, h.1, k _ _ _ _ h.2 (Same.refl _) S (.str _)⟩
  · exact h.elim
/-- d.get(k) -/
def dDgetO (td tk : DT) : DT := fun γ R => td γ fun d γ1 => (∃ kvs, d = .dct kvs) ∧ tk γ1 fun k γ2 => match d, keyD k with
  | .dct kvs, some key => R ((getK key kvs).getD .non) γ2
  | _, _ => False
theorem d_dgetO {td tk : DT} {e : Expr} (h : PE X e (tDGet1 (tD B td) (tD B tk))) : PE X e (tD B (dDgetO td tk)) := pe_imp h fun σ H Q ⟨G, γ, R, S, h, k⟩ =>
  ⟨G, γ, _, S, h, fun d γ1 G1 v H1 ⟨⟨kvs, ed⟩, q⟩ s1 S1 r1 => by
    subst ed
    cases r1 with
    | @dct a vs _ hs ra =>
      refine ⟨a, rfl, .inl ⟨vs, .inl (S1.sub _ _ hs)⟩, G1, γ1, _, S1, q, fun kk γ2 G2 u H2 q2 s2 S2 r2 => ?_⟩
      split at q2
      · rename_i kvs' key e1 hk
        cases e1
        have ra2 := ra.mono s2
        refine ⟨valV vs key, by rw [rp_key r2 hk]; exact DGet.k (S2.sub _ _ (s2 _ _ hs)), ?_⟩
        cases e : getK key kvs with
        | some c =>
          rw [e] at q2
          obtain ⟨v, hv, rv⟩ := (valV_get ra2).1 c e
          rw [hv]
          exact k _ _ _ _ _ q2 (s1.trans s2) S2 rv
        | none =>
          rw [e] at q2
          rw [(valV_get ra2).2 e]
          exact k _ _ _ _ _ q2 (s1.trans s2) S2 .non
      · exact q2.elim⟩
/-- each of a list puts its own -/
theorem dc_each {α : Type} {bd : BdT} {tt : DB} {tk tv : DT} {vs : List Nat} {γ0 : Gm} (F : α → D) (ky : α → Key) (g : α → D) (L0 : List α) (hw : wipeS γ0 vs = γ0)
    (step : ∀ x ∈ L0, ∀ (Z : Key → D → Gm → Prop) (Z' : Gm → Prop), (∀ γ', wipeS γ' vs = γ0 → Z (ky x) (g x) γ') →
      bd (F x) γ0 fun γ2 => tt γ2 fun p γ3 => (p → tk γ3 fun c γ4 => tv γ4 fun e γ5 => ∃ key, keyD c = some key ∧ Z key e γ5) ∧ (¬p → Z' γ3)) :
    ∀ (L : List α) (acc : List (Key × D)) (R : List (Key × D) → Gm → Prop), (∀ x ∈ L, x ∈ L0) → R (L.foldl (fun acc x => setK (ky x) (g x) acc) acc) γ0 → dcD bd tt tk tv vs (L.map F) acc γ0 R
  | [], acc, R, _, h => by
    show R acc (wipeS γ0 vs)
    rw [hw]
    exact h
  | x :: L, acc, R, hL, h => by
    show bd (F x) γ0 _
    refine step x (hL x List.mem_cons_self) (fun key e γ5 => dcD bd tt tk tv vs (L.map F) (setK key e acc) (wipeS γ5 vs) R) (fun γ3 => dcD bd tt tk tv vs (L.map F) acc (wipeS γ3 vs) R) fun γ' e => ?_
    show dcD bd tt tk tv vs (L.map F) _ (wipeS γ' vs) R
    rw [e]
    exact dc_each F ky g L0 hw step L _ R (fun y hy => hL y (List.mem_cons_of_mem _ hy)) h
theorem setK_new {key : Key} {v : D} : ∀ {kvs : List (Key × D)}, (∀ p ∈ kvs, p.1 ≠ key) → setK key v kvs = kvs ++ [(key, v)]
  | [], _ => rfl
  | kv :: r, h => by
    have h1 : keyEq kv.1 key = false := by
      rw [keyEq_dec]
      exact decide_eq_false (h kv List.mem_cons_self)
    show (if keyEq kv.1 key = true then _ else kv :: setK key v r) = _
    rw [h1, setK_new fun p hp => h p (List.mem_cons_of_mem _ hp)]
    rfl
theorem fold_new {α : Type} (ky : α → Key) (g : α → D) : ∀ (L : List α) (acc : List (Key × D)), (L.map ky).Nodup → (∀ x ∈ L, ∀ p ∈ acc, p.1 ≠ ky x) → L.foldl (fun acc x => setK (ky x) (g x) acc) acc = acc ++ L.map fun x => (ky x, g x)
  | [], acc, _, _ => (List.append_nil acc).symm
  | x :: L, acc, nd, h => by
    have nd := List.nodup_cons.mp (show (ky x :: L.map ky).Nodup from nd)
    show L.foldl _ (setK (ky x) (g x) acc) = acc ++ ((ky x, g x) :: L.map _)
    rw [setK_new (h x List.mem_cons_self), fold_new ky g L _ nd.2 fun y hy p hp => ?_, List.append_assoc]
    · rfl
    · rcases List.mem_append.mp hp with hp | hp
      · exact h y (List.mem_cons_of_mem _ hy) p hp
      · cases List.mem_singleton.mp hp
        exact fun e => nd.1 (by have e : ky x = ky y := e; rw [e]; exact List.mem_map.mpr ⟨y, hy, rfl⟩)
end
end EL
namespace EL
open PySem PySem.Spec PyProof.Rows L2
section
variable {X : Cx} {B : Bs}
/-- len of a dict -/
def lenKF : FC := fun ds R => match ds with
  | [.dct kvs] => R (.int (kvs.length : Nat))
  | _ => False
theorem ok_lenK : OkRC B (fun xs H Q => ∃ a kvs, xs = [V.ref a] ∧ H a = some (.dK kvs) ∧ Q (.int kvs.length) H) lenKF := by
  intro G γ σ H vs ds R Q S r h k
  unfold lenKF at h
  split at h
  · cases r with
    | cons r1 r2 =>
      cases r2
      cases r1 with
      | dct hs ra =>
        refine ⟨_, _, rfl, S.sub _ _ hs, ?_⟩
        rw [ra.len]
        exact k _ _ _ _ h (Same.refl _) S (.int _)
  · exact h.elim
end
end EL
namespace K25
open PySem PySem.Spec PyProof.Rows L2 EL PH
def topS (i : Nat) : Stmt := PySem.Challenge.pw_pointhouse_k25_sayings_forms.main.body.getD i (.Pass ⟨0, 0, 0, 0⟩)
structure Fns (K : PySem.W.Frag) (mg : Str → Option Value) (f : Addr) (fd : FuncData) (x : Str) (i : Nat) (ps : List Str) : Prop where
  F : Fun K x x (topS i) f fd
  b : Binds K fd ps []
  m : mg x = some (.ref f)
abbrev cl0 : Nat → Option (Addr × List Str) := fun _ => none
abbrev s_is_name : Stmt := topS 3
abbrev N_sc_is_name : List Str := ["thing"]
theorem sc_is_name : FnScope N_sc_is_name ["thing"] (defScope s_is_name) := ⟨rfl, rfl, rfl, by decide +kernel, rfl, by decide +kernel, by decide +kernel⟩
abbrev s_sort_of : Stmt := topS 4
abbrev N_sc_sort_of : List Str := ["step"]
theorem sc_sort_of : FnScope N_sc_sort_of ["step"] (defScope s_sort_of) := ⟨rfl, rfl, rfl, by decide +kernel, rfl, by decide +kernel, by decide +kernel⟩
abbrev s_sorts_by_name : Stmt := topS 5
abbrev N_sc_sorts_by_name : List Str := ["sketch", "step"]
theorem sc_sorts_by_name : FnScope N_sc_sorts_by_name ["sketch"] (defScope s_sorts_by_name) := ⟨rfl, rfl, rfl, by decide +kernel, rfl, by decide +kernel, by decide +kernel⟩
abbrev s_is_saying : Stmt := topS 8
abbrev N_sc_is_saying : List Str := ["sketch", "thing", "sorts", "at", "name"]
theorem sc_is_saying : FnScope N_sc_is_saying ["sketch", "thing"] (defScope s_is_saying) := ⟨rfl, rfl, rfl, by decide +kernel, rfl, by decide +kernel, by decide +kernel⟩
abbrev s_is_saying_by_form : Stmt := topS 9
abbrev N_sc_is_saying_by_form : List Str := ["thing", "name"]
theorem sc_is_saying_by_form : FnScope N_sc_is_saying_by_form ["thing"] (defScope s_is_saying_by_form) := ⟨rfl, rfl, rfl, by decide +kernel, rfl, by decide +kernel, by decide +kernel⟩
abbrev s_names_wanted : Stmt := topS 10
abbrev N_sc_names_wanted : List Str := ["word"]
theorem sc_names_wanted : FnScope N_sc_names_wanted ["word"] (defScope s_names_wanted) := ⟨rfl, rfl, rfl, by decide +kernel, rfl, by decide +kernel, by decide +kernel⟩
abbrev s_fits_place : Stmt := topS 11
abbrev N_sc_fits_place : List Str := ["word", "at", "sort"]
theorem sc_fits_place : FnScope N_sc_fits_place ["word", "at", "sort"] (defScope s_fits_place) := ⟨rfl, rfl, rfl, by decide +kernel, rfl, by decide +kernel, by decide +kernel⟩
abbrev s__law_deck : Stmt := topS 13
abbrev N_sc__law_deck : List Str := ["_law_script", "_law_cells"]
theorem sc__law_deck : FnScope N_sc__law_deck ["_law_script"] (defScope s__law_deck) := ⟨rfl, rfl, rfl, by decide +kernel, rfl, by decide +kernel, by decide +kernel⟩
abbrev s__law_draw : Stmt := topS 14
abbrev N_sc__law_draw : List Str := ["_law_deck_here", "_law_many", "_law_digit", "_law_cell", "_law_number"]
theorem sc__law_draw : FnScope N_sc__law_draw ["_law_deck_here", "_law_many"] (defScope s__law_draw) := ⟨rfl, rfl, rfl, by decide +kernel, rfl, by decide +kernel, by decide +kernel⟩
abbrev s__law_pick : Stmt := topS 15
abbrev N_sc__law_pick : List Str := ["_law_deck_here", "_law_some"]
theorem sc__law_pick : FnScope N_sc__law_pick ["_law_deck_here", "_law_some"] (defScope s__law_pick) := ⟨rfl, rfl, rfl, by decide +kernel, rfl, by decide +kernel, by decide +kernel⟩
abbrev s__law_names : Stmt := topS 16
abbrev N_sc__law_names : List Str := ["_law_deck_here", "_law_many", "_law_letters", "_law_sort", "_law_word", "_law_at", "_law_words", "_law_letters_here", "_law_k", "_law_letter"]
theorem sc__law_names : FnScope N_sc__law_names ["_law_deck_here", "_law_many"] (defScope s__law_names) := ⟨rfl, rfl, rfl, by decide +kernel, rfl, by decide +kernel, by decide +kernel⟩
abbrev s__law_weigh : Stmt := topS 17
abbrev N_sc__law_weigh : List Str := ["_law_weights", "_law_step", "_law_ways", "_law_word", "_law_parts", "_law_one"]
theorem sc__law_weigh : FnScope N_sc__law_weigh ["_law_weights", "_law_step", "_law_ways"] (defScope s__law_weigh) := ⟨rfl, rfl, rfl, by decide +kernel, rfl, by decide +kernel, by decide +kernel⟩
abbrev s__law_known : Stmt := topS 18
abbrev N_sc__law_known : List Str := ["_law_plan_here", "_law_sort", "_law_words", "_law_step"]
theorem sc__law_known : FnScope N_sc__law_known ["_law_plan_here", "_law_sort"] (defScope s__law_known) := ⟨rfl, rfl, rfl, by decide +kernel, rfl, by decide +kernel, by decide +kernel⟩
abbrev s__law_two : Stmt := topS 19
abbrev N_sc__law_two : List Str := ["_law_deck_here", "_law_some", "_law_left", "_law_first"]
theorem sc__law_two : FnScope N_sc__law_two ["_law_deck_here", "_law_some"] (defScope s__law_two) := ⟨rfl, rfl, rfl, by decide +kernel, rfl, by decide +kernel, by decide +kernel⟩
abbrev s__law_others : Stmt := topS 20
abbrev N_sc__law_others : List Str := ["_law_plan_here", "_law_found", "_law_c", "_law_line", "_law_through", "_law_step"]
theorem sc__law_others : FnScope N_sc__law_others ["_law_plan_here"] (defScope s__law_others) := ⟨rfl, rfl, rfl, by decide +kernel, rfl, by decide +kernel, by decide +kernel⟩
abbrev s__law_some_step : Stmt := topS 21
abbrev N_sc__law_some_step : List Str := ["_law_deck_here", "_law_plan_here", "_law_name", "_law_points", "_law_lines", "_law_circles", "_law_word", "_law_p", "_law_o", "_law_sort"]
theorem sc__law_some_step : FnScope N_sc__law_some_step ["_law_deck_here", "_law_plan_here", "_law_name"] (defScope s__law_some_step) := ⟨rfl, rfl, rfl, by decide +kernel, rfl, by decide +kernel, by decide +kernel⟩
abbrev s__law_plan : Stmt := topS 22
abbrev N_sc__law_plan : List Str := ["_law_deck_here", "_law_many", "_law_heavy", "_law_names_here", "_law_first", "_law_plan_here", "_law_weights", "_law_ways", "_law_k", "_law_name", "_law_step"]
theorem sc__law_plan : FnScope N_sc__law_plan ["_law_deck_here", "_law_many", "_law_heavy"] (defScope s__law_plan) := ⟨rfl, rfl, rfl, by decide +kernel, rfl, by decide +kernel, by decide +kernel⟩
abbrev s__law_forms : Stmt := topS 23
abbrev N_sc__law_forms : List Str := []
theorem sc__law_forms : FnScope N_sc__law_forms [] (defScope s__law_forms) := ⟨rfl, rfl, rfl, by decide +kernel, rfl, by decide +kernel, by decide +kernel⟩
abbrev s__law_due : Stmt := topS 24
abbrev N_sc__law_due : List Str := ["_law_plan_here", "_law_it", "_law_points", "_law_own", "_law_one"]
theorem sc__law_due : FnScope N_sc__law_due ["_law_plan_here", "_law_it"] (defScope s__law_due) := ⟨rfl, rfl, rfl, by decide +kernel, rfl, by decide +kernel, by decide +kernel⟩
abbrev s__law_claim : Stmt := topS 25
abbrev N_sc__law_claim : List Str := ["_law_deck_here", "_law_plan_here", "_law_points", "_law_others_here", "_law_word", "_law_own", "_law_k"]
theorem sc__law_claim : FnScope N_sc__law_claim ["_law_deck_here", "_law_plan_here"] (defScope s__law_claim) := ⟨rfl, rfl, rfl, by decide +kernel, rfl, by decide +kernel, by decide +kernel⟩
abbrev s__law_odd : Stmt := topS 26
abbrev N_sc__law_odd : List Str := ["_law_deck_here", "_law_plan_here", "_law_names_here", "_law_some", "_law_step"]
theorem sc__law_odd : FnScope N_sc__law_odd ["_law_deck_here", "_law_plan_here"] (defScope s__law_odd) := ⟨rfl, rfl, rfl, by decide +kernel, rfl, by decide +kernel, by decide +kernel⟩
abbrev s__law_bent : Stmt := topS 27
abbrev N_sc__law_bent : List Str := ["_law_deck_here", "_law_plan_here", "_law_it", "_law_way", "_law_at", "_law_one"]
theorem sc__law_bent : FnScope N_sc__law_bent ["_law_deck_here", "_law_plan_here", "_law_it"] (defScope s__law_bent) := ⟨rfl, rfl, rfl, by decide +kernel, rfl, by decide +kernel, by decide +kernel⟩
abbrev s__law_right : Stmt := topS 28
abbrev N_sc__law_right : List Str := ["_law_plan_here", "_law_it", "_law_kept", "_law_told"]
theorem sc__law_right : FnScope N_sc__law_right ["_law_plan_here", "_law_it"] (defScope s__law_right) := ⟨rfl, rfl, rfl, by decide +kernel, rfl, by decide +kernel, by decide +kernel⟩
abbrev s_law : Stmt := topS 29
abbrev N_sc_law : List Str := ["_law_script", "_law_deck_here", "_law_turn", "_law_plan_here", "_law_some", "_law_it", "_law_twice", "_law_bent_here", "_law_names_here", "_law_again"]
theorem sc_law : FnScope N_sc_law ["_law_script"] (defScope s_law) := ⟨rfl, rfl, rfl, by decide +kernel, rfl, by decide +kernel, by decide +kernel⟩
def tab_POINTS : Str → Option D := fun z => getK (.inr z) [(.inr "same", .int 2), (.inr "row", .int 3), (.inr "along", .int 4), (.inr "upright", .int 4), (.inr "alike", .int 4), (.inr "angle", .int 6), (.inr "ring", .int 4), (.inr "at", .int 1)]
def tab_MAKES : Str → Option D := fun z => getK (.inr z) [(.inr "line", .str "line"), (.inr "along", .str "line"), (.inr "upright", .str "line"), (.inr "circle", .str "circle")]
structure Tops (K : PySem.W.Frag) (w : World) (mg : Str → Option Value) where
  f_is_name : Addr
  d_is_name : FuncData
  N_is_name : Fns K mg f_is_name d_is_name "is_name" 3 ["thing"]
  f_sort_of : Addr
  d_sort_of : FuncData
  N_sort_of : Fns K mg f_sort_of d_sort_of "sort_of" 4 ["step"]
  f_sorts_by_name : Addr
  d_sorts_by_name : FuncData
  N_sorts_by_name : Fns K mg f_sorts_by_name d_sorts_by_name "sorts_by_name" 5 ["sketch"]
  f_is_saying : Addr
  d_is_saying : FuncData
  N_is_saying : Fns K mg f_is_saying d_is_saying "is_saying" 8 ["sketch", "thing"]
  f_is_saying_by_form : Addr
  d_is_saying_by_form : FuncData
  N_is_saying_by_form : Fns K mg f_is_saying_by_form d_is_saying_by_form "is_saying_by_form" 9 ["thing"]
  f_names_wanted : Addr
  d_names_wanted : FuncData
  N_names_wanted : Fns K mg f_names_wanted d_names_wanted "names_wanted" 10 ["word"]
  f_fits_place : Addr
  d_fits_place : FuncData
  N_fits_place : Fns K mg f_fits_place d_fits_place "fits_place" 11 ["word", "at", "sort"]
  f__law_deck : Addr
  d__law_deck : FuncData
  N__law_deck : Fns K mg f__law_deck d__law_deck "_law_deck" 13 ["_law_script"]
  f__law_draw : Addr
  d__law_draw : FuncData
  N__law_draw : Fns K mg f__law_draw d__law_draw "_law_draw" 14 ["_law_deck_here", "_law_many"]
  f__law_pick : Addr
  d__law_pick : FuncData
  N__law_pick : Fns K mg f__law_pick d__law_pick "_law_pick" 15 ["_law_deck_here", "_law_some"]
  f__law_names : Addr
  d__law_names : FuncData
  N__law_names : Fns K mg f__law_names d__law_names "_law_names" 16 ["_law_deck_here", "_law_many"]
  f__law_weigh : Addr
  d__law_weigh : FuncData
  N__law_weigh : Fns K mg f__law_weigh d__law_weigh "_law_weigh" 17 ["_law_weights", "_law_step", "_law_ways"]
  f__law_known : Addr
  d__law_known : FuncData
  N__law_known : Fns K mg f__law_known d__law_known "_law_known" 18 ["_law_plan_here", "_law_sort"]
  f__law_two : Addr
  d__law_two : FuncData
  N__law_two : Fns K mg f__law_two d__law_two "_law_two" 19 ["_law_deck_here", "_law_some"]
  f__law_others : Addr
  d__law_others : FuncData
  N__law_others : Fns K mg f__law_others d__law_others "_law_others" 20 ["_law_plan_here"]
  f__law_some_step : Addr
  d__law_some_step : FuncData
  N__law_some_step : Fns K mg f__law_some_step d__law_some_step "_law_some_step" 21 ["_law_deck_here", "_law_plan_here", "_law_name"]
  f__law_plan : Addr
  d__law_plan : FuncData
  N__law_plan : Fns K mg f__law_plan d__law_plan "_law_plan" 22 ["_law_deck_here", "_law_many", "_law_heavy"]
  f__law_forms : Addr
  d__law_forms : FuncData
  N__law_forms : Fns K mg f__law_forms d__law_forms "_law_forms" 23 []
  f__law_due : Addr
  d__law_due : FuncData
  N__law_due : Fns K mg f__law_due d__law_due "_law_due" 24 ["_law_plan_here", "_law_it"]
  f__law_claim : Addr
  d__law_claim : FuncData
  N__law_claim : Fns K mg f__law_claim d__law_claim "_law_claim" 25 ["_law_deck_here", "_law_plan_here"]
  f__law_odd : Addr
  d__law_odd : FuncData
  N__law_odd : Fns K mg f__law_odd d__law_odd "_law_odd" 26 ["_law_deck_here", "_law_plan_here"]
  f__law_bent : Addr
  d__law_bent : FuncData
  N__law_bent : Fns K mg f__law_bent d__law_bent "_law_bent" 27 ["_law_deck_here", "_law_plan_here", "_law_it"]
  f__law_right : Addr
  d__law_right : FuncData
  N__law_right : Fns K mg f__law_right d__law_right "_law_right" 28 ["_law_plan_here", "_law_it"]
  f_law : Addr
  d_law : FuncData
  N_law : Fns K mg f_law d_law "law" 29 ["_law_script"]
  a_POINTS : Addr
  m_POINTS : mg "POINTS" = some (.ref a_POINTS)
  t_POINTS : KTab K w cl0 a_POINTS tab_POINTS
  a_MAKES : Addr
  m_MAKES : mg "MAKES" = some (.ref a_MAKES)
  t_MAKES : KTab K w cl0 a_MAKES tab_MAKES
  i_MOST_LETTERS : ∃ u, mg "MOST_LETTERS" = some u ∧ RelV (.int 8) u
  z_all : mg "all" = none
  z_bool : mg "bool" = none
  z_dict : mg "dict" = none
  z_enumerate : mg "enumerate" = none
  z_int : mg "int" = none
  z_isinstance : mg "isinstance" = none
  z_len : mg "len" = none
  z_list : mg "list" = none
  z_max : mg "max" = none
  z_min : mg "min" = none
  z_range : mg "range" = none
  z_repr : mg "repr" = none
  z_set : mg "set" = none
  z_sorted : mg "sorted" = none
  z_str : mg "str" = none
  z_sum : mg "sum" = none
  z_tuple : mg "tuple" = none
  z_zip : mg "zip" = none
end K25
namespace K25
open PySem PySem.Spec PyProof.Rows L2 EL PH
theorem if_t {c : Bool} {A B : Prop} (hc : c = true) (h : A) : if c = true then A else B := by rw [if_pos hc]; exact h
theorem if_f {c : Bool} {A B : Prop} (hc : c = false) (h : B) : if c = true then A else B := by rw [hc, if_neg Bool.false_ne_true]; exact h
theorem same_new {H : Hp} {p : Addr} {o : HO} (h : H p = none) : Same H (upd H p o) := fun b u e => by rw [upd_ne (ne_of_none e h)]; exact e
/-- the deck: its list at d, the cells' list at c; at most m draws were made -/
def Deck (m : Nat) (H : Hp) (d c : Addr) : Prop := ∃ (ms : List Int) (n1 n2 : Int), H d = some (.lst [.ref c, .int n1, .int n2]) ∧ H c = some (.lst (ms.map V.int)) ∧ d ≠ c ∧ ms.length ≤ 100 ∧ 0 ≤ n1 ∧ n1 < 2 ^ 40 ∧ 0 ≤ n2 ∧ n2 ≤ m
theorem deckLaw : ∀ m, DkLaw (Deck m) := fun m => {
  there := fun H d c ⟨ms, n1, n2, h1, h2, _⟩ => ⟨by rw [h1]; exact (fun z => by cases z), by rw [h2]; exact (fun z => by cases z)⟩
  tup := fun H d c ⟨ms, n1, n2, h1, h2, _⟩ => ⟨(fun xs z => by rw [h1] at z; cases z), (fun xs z => by rw [h2] at z; cases z)⟩
  keep := fun H H' d c ⟨ms, n1, n2, h1, h2, h3⟩ e1 e2 => ⟨ms, n1, n2, by rw [e1]; exact h1, by rw [e2]; exact h2, h3⟩ }
theorem deckUp : ∀ m m' H d c, m ≤ m' → Deck m H d c → Deck m' H d c := fun m m' H d c l ⟨ms, n1, n2, h1, h2, h3, h4, h5, h6, h7, h8⟩ => ⟨ms, n1, n2, h1, h2, h3, h4, h5, h6, h7, by omega⟩
/-- all but the deck is as it was -/
def Kept (d c : Addr) (H H' : Hp) : Prop := ∀ b o, H b = some o → b ≠ d → b ≠ c → H' b = some o
theorem Kept.refl {d c : Addr} {H : Hp} : Kept d c H H := fun _ _ e _ _ => e
theorem Kept.trans {d c : Addr} {H H1 H2 : Hp} (a : Kept d c H H1) (b : Kept d c H1 H2) : Kept d c H H2 := fun x o e h1 h2 => b x o (a x o e h1 h2) h1 h2
theorem Kept.of {d c : Addr} {H H' : Hp} (s : Same H H') : Kept d c H H' := fun b o e _ _ => s b o e
theorem Kept.upd_d {d c : Addr} {H H' : Hp} {o : HO} (k : Kept d c H H') : Kept d c H (upd H' d o) := fun b u e h1 h2 => by rw [upd_ne h1]; exact k b u e h1 h2
theorem Kept.upd_c {d c : Addr} {H H' : Hp} {o : HO} (k : Kept d c H H') : Kept d c H (upd H' c o) := fun b u e h1 h2 => by rw [upd_ne h2]; exact k b u e h1 h2
def FDrw : FD := fun ds R _ => match ds with
  | [.dk, .int n] => (0 < n ∧ n < 2 ^ 60) ∧ ∀ r : Int, 0 ≤ r → r < n → R (.int r)
  | _ => False
def spDraw : Sp := fun vs H Q _ => ∃ (m : Nat) (d c : Addr) (n : Int), vs = [.ref d, .int n] ∧ Deck m H d c ∧ m + 1 ≤ 2 ^ 50 ∧ 0 < n ∧ n < 2 ^ 60 ∧ ∀ H' r, Deck (m + 1) H' d c → Kept d c H H' → 0 ≤ r → r < n → Q (.int r) H'
theorem cv_draw {K : PySem.W.Frag} {cl : Nat → Option (Addr × List Str)} : ∀ vs H Q E, spD K cl Deck 1 2 FDrw vs H Q E → spDraw vs H Q E := fun vs H Q E h => by
  obtain ⟨m, dk, G, ds, R, xc, c, r, hl, hF⟩ := spD_cv h
  unfold FDrw at hF
  split at hF
  · obtain ⟨⟨h0, h1⟩, hF⟩ := hF
    cases r with
    | cons r1 r2 =>
      cases r2 with
      | cons r2 r3 =>
        cases r3
        cases rpInt r2
        cases r1 with
        | @dk d e hd =>
          have hd : dk = some (d, e) := hd
          subst hd
          refine ⟨m, d, e, _, rfl, (c.hd d e rfl).1, c.hm, h0, h1, fun H' r D' k r0 r1 => ?_⟩
          refine c.valD (hF r r0 r1) (.int r) (fun b o hb z => ?_) fun d' e' z => ?_
          · obtain ⟨z1, z2⟩ := z d e rfl
            exact k b o hb z1 z2
          · cases z; exact D'
  · exact hF.elim
theorem cut_map (ns : List Int) (lo hi : Option Int) : ∃ ms : List Int, cutV (ns.map V.int) lo hi = ms.map V.int ∧ ms.length ≤ ns.length := by
  unfold cutV
  rw [← List.map_drop, ← List.map_take]
  refine ⟨_, rfl, ?_⟩
  rw [List.length_take, List.length_drop]
  omega
theorem dp_ints {K : PySem.W.Frag} (H : Hp) : ∀ ms : List Int, DpAll K H (ms.map V.int) (ms.map PyData.int)
  | [] => .nil
  | m :: ms => .cons (.int m) (dp_ints H ms)
theorem can_ints : ∀ ms : List Int, PyData.canLayAll0 (ms.map PyData.int) = true
  | [] => rfl
  | m :: ms => by
    show (PyData.canLay0 (.int m) && PyData.canLayAll0 (ms.map PyData.int)) = true
    rw [can_ints ms]
    rfl
theorem depth_ints : ∀ ms : List Int, PyData.depthAll (ms.map PyData.int) = 0
  | [] => rfl
  | m :: ms => by
    show max (PyData.depth (.int m)) (PyData.depthAll (ms.map PyData.int)) = 0
    rw [depth_ints ms]
    rfl
theorem shaped_ints (ms : List Int) : SeqAt.shaped (.list (ms.map PyData.int)) = true := by
  unfold SeqAt.shaped
  rw [Bool.and_eq_true]
  refine ⟨can_ints ms, decide_eq_true ?_⟩
  show PyData.depthAll (ms.map PyData.int) + 1 ≤ 64
  rw [depth_ints]
  decide
theorem eqv_nil (m : Int) (ms : List Int) : PyData.eqv (.list ((m :: ms).map PyData.int)) (.list []) = false := by
  simp only [PyData.eqv, List.map_cons, PyData.eqvAll]
def spDeck (K : PySem.W.Frag) : Sp := fun vs H Q _ => ∃ (a : Addr) (ns : List Int), vs = [.ref a] ∧ SqL K H a (ns.map V.int) ∧ ns.length ≤ 63 ∧ ∀ H' d c, Same H H' → H d = none → H c = none → Deck 0 H' d c → Q (.ref d) H'
section
variable {P : Program} {w : World} {K : PySem.W.Frag} {mg : Str → Option Value} {base : Heap}
theorem ok_deck {f : Addr} {fd : FuncData} (F : Fun K "_law_deck" "_law_deck" s__law_deck f fd) (mL : mg "list" = none) (mS : mg "sum" = none) :
    FnOk P w K mg base CX0 1 f fd ["_law_script"] (spDeck K) := by
  refine F.ok sc__law_deck ?_ ?_
  · rintro vs H Q E ⟨a, ns, rfl, _⟩
    rfl
  intro cdv A outer s H vs Q E hr h
  obtain ⟨a, ns, rfl, hs, hlen, k⟩ := h
  refine ⟨_, pss_cons (ps_set (i := 1) sc__law_deck.nd rfl (Or.inl rfl) (pe_callTy call_list_of (by rfl) mL (by decide +kernel) (pa_cons (pe_slice sl_list (pv 0) po_none (po_some pe_int)) pa_nil)))
    (pss_one (ps_ret (pe_lst (pa_cons (pv 1) (pa_cons (pe_op op_add pe_int (pe_op op_mod (pe_callB (cr_sum rfl) (by rfl) mS (by decide +kernel) (pa_cons (pv 1) pa_nil)) pe_int)) (pa_cons pe_int pa_nil)))))), ?_⟩
  refine ⟨_, rfl, _, rfl, a, _, rfl, hs, fun p hp => ?_⟩
  obtain ⟨ms, em, hm⟩ := cut_map ns none (some 63)
  rw [em]
  refine ⟨p, _, rfl, .inl (SqL.of upd_same), fun l hl => ?_⟩
  have s1 := same_new (o := HO.lst (ms.map V.int)) hp
  have s2 := same_new (o := HO.lst (ms.map V.int)) hl
  have hl2 : upd (upd H p (.lst (ms.map V.int))) l (.lst (ms.map V.int)) l = some (.lst (ms.map V.int)) := upd_same
  have s12 := s1.trans s2
  generalize upd (upd H p (.lst (ms.map V.int))) l (.lst (ms.map V.int)) = H2 at *
  refine ⟨_, rfl, _, rfl, l, ms, rfl, SqL.of hl2, _, _, rfl, rfl, (by show (0 : Int) < 2147483563; decide), _, _, rfl, rfl, (by show 3 ≤ sizeLine; decide), fun t ht => ?_⟩
  have htl : t ≠ l := fun e => by rw [e, hl2] at ht; cases ht
  have n0 : 0 ≤ ms.sum % 2147483563 := Int.emod_nonneg _ (by decide)
  have n1 : ms.sum % 2147483563 < 2147483563 := Int.emod_lt_of_pos _ (by decide)
  refine k _ t l (s12.trans (same_new ht)) (s12.free ht) (s1.free hl) ⟨ms, _, _, upd_same, ?_, htl, by omega, by omega, by omega, by decide, by decide⟩
  rw [upd_ne htl.symm]
  exact hl2
theorem ok_draw {f : Addr} {fd : FuncData} (F : Fun K "_law_draw" "_law_draw" s__law_draw f fd) :
    FnOk P w K mg base CX0 1 f fd ["_law_deck_here", "_law_many"] spDraw := by
  refine F.ok sc__law_draw ?_ ?_
  · rintro vs H Q E ⟨m, d, c, n, rfl, _⟩
    rfl
  intro cdv A outer s H vs Q E hr h
  obtain ⟨m, d, c, n, rfl, ⟨ms, n1, n2, hd, hc, hdc, hlen, hn0, hn1, hn2, hn3⟩, hm, hp, hp2, k⟩ := h
  have hw2 : ∀ x : Int, CDivW x n := fun x => wide_div (b := 60) hp (by omega) (by decide) (by decide)
  refine ⟨_, pss_cons (ps_asg (pe_op op_add (pe_ix ix_list (pv 0) pe_int (fun _ _ => rfl)) pe_int) (pg_sub (pv 0) pe_int set_list))
    (C8.pss_cut (ps_if (PW.pt (pw_and (pt_cmpR (op_neD hr.units) (pe_ix ix_list (pv 0) pe_int (fun _ _ => rfl)) (pe_lst pa_nil) (nomark _)) (pw_and1 (pt_cmpR op_ge (pe_ix ix_list (pe_ix ix_list (pv 0) pe_int (fun _ _ => rfl)) pe_int (fun _ _ => rfl)) (pe_op op_pow pe_int pe_int) (nomark _)))))
      (pss_cons (ps_set (i := 2) sc__law_draw.nd rfl (Or.inl rfl) (pe_op op_mod (pe_ix ix_list (pe_ix ix_list (pv 0) pe_int (fun _ _ => rfl)) pe_int (fun _ _ => rfl)) (pv 1)))
      (pss_cons (ps_asg (pe_op op_fdivW (pe_ix ix_list (pe_ix ix_list (pv 0) pe_int (fun _ _ => rfl)) pe_int (fun _ _ => rfl)) (pv 1)) (pg_sub (pe_ix ix_list (pv 0) pe_int (fun _ _ => rfl)) pe_int set_list))
      (pss_one (ps_ret (pv 2))))) pss_nil)
    (pss_cons (ps_set (i := 3) sc__law_draw.nd rfl (Or.inl rfl) (pe_ix ix_list (pv 0) pe_int (fun _ _ => rfl)))
    (C8.pss_cut (ps_if (pt_cmpR (op_neD hr.units) (pe_ix ix_list (pv 0) pe_int (fun _ _ => rfl)) (pe_lst pa_nil) (nomark _))
      (pss_one (ps_set (i := 3) sc__law_draw.nd rfl (Or.inl rfl) (pe_op op_add (pv 3) (pe_bm PySem.F.plainAttrs_list PySem.F.slot_list_pop PySem.F.type_list_pop mt_popAt (pe_ix ix_list (pv 0) pe_int (fun _ _ => rfl)) (pa_cons pe_int pa_nil))))) pss_nil)
    (pss_cons (ps_set (i := 4) sc__law_draw.nd rfl (Or.inl rfl) (pe_op op_mod (pe_op op_add (pe_op op_add (pe_op op_mul (pe_op op_mod (pv 3) pe_int) pe_int) (pe_op op_mul pe_int (pe_ix ix_list (pv 0) pe_int (fun _ _ => rfl)))) pe_int) pe_int))
    (pss_cons (ps_set (i := 4) sc__law_draw.nd rfl (Or.inl rfl) (pe_op op_mod (pe_op op_add (pe_op op_add (pe_op op_mul (pv 4) (pv 4)) (pe_op op_mul pe_int (pv 4))) (pe_ix ix_list (pv 0) pe_int (fun _ _ => rfl))) pe_int))
    (pss_cons (ps_asg (pv 4) (pg_sub (pv 0) pe_int set_list))
    (pss_one (ps_ret (pe_op op_mod (pe_op op_fdiv (pe_op op_mod (pe_op op_mul (pv 4) (pe_op op_add (pv 4) pe_int)) pe_int) pe_int) (pv 1)))))))))), ?_⟩
  refine ⟨_, rfl, d, _, 2, _, rfl, rfl, SqL.of hd, rfl, _, _, rfl, rfl, _, rfl, d, _, 2, 2, rfl, rfl, hd, rfl, ?_⟩
  have e2 : ([V.ref c, V.int n1, V.int n2].set 2 (V.int (n2 + 1))) = [V.ref c, V.int n1, V.int (n2 + 1)] := rfl
  rw [e2]
  have hd1 : upd H d (.lst [.ref c, .int n1, .int (n2 + 1)]) d = some (.lst [.ref c, .int n1, .int (n2 + 1)]) := upd_same
  have hc1 : upd H d (.lst [.ref c, .int n1, .int (n2 + 1)]) c = some (.lst (ms.map V.int)) := by rw [upd_ne hdc.symm]; exact hc
  have k1 : Kept d c H (upd H d (.lst [.ref c, .int n1, .int (n2 + 1)])) := Kept.refl.upd_d
  generalize upd H d (.lst [.ref c, .int n1, .int (n2 + 1)]) = H1 at *
  refine ⟨fun σ' H' => ∃ ms' : List Int, σ' = [some (.ref d), some (.int n), none, none, none] ∧ H' d = some (.lst [.ref c, .int n1, .int (n2 + 1)]) ∧ H' c = some (.lst (ms'.map V.int)) ∧ ms'.length ≤ 100 ∧ Kept d c H H', ?_, ?_⟩
  · refine ⟨_, rfl, d, _, 0, _, rfl, rfl, SqL.of hd1, rfl, (by show 0 ≤ sizeLine; decide), fun q hq => ?_⟩
    have s2 := same_new (o := HO.lst []) hq
    refine ⟨_, _, .lst (SqL.of (s2 _ _ hc1)) (dp_ints _ ms), .lst (SqL.of upd_same) .nil, shaped_ints ms, rfl, _, rfl, ?_⟩
    have hd2 := s2 _ _ hd1
    have hc2 := s2 _ _ hc1
    have k2 := k1.trans (Kept.of s2)
    generalize upd H1 q (.lst []) = H2 at *
    cases ms with
    | nil =>
      refine if_f (by rfl) ?_
      refine if_f (by rfl) ?_
      exact ⟨[], rfl, hd2, hc2, by decide, k2⟩
    | cons x L =>
      refine if_t (by rw [eqv_nil x L]; rfl) ?_
      refine ⟨_, rfl, d, _, 0, _, rfl, rfl, SqL.of hd2, rfl, c, _, 0, _, rfl, rfl, SqL.of hc2, (at_0 : atI (V.int x :: L.map V.int) 0 = some (V.int x)), _, _, rfl, rfl, ⟨by decide, by decide, by decide⟩, _, _, rfl, rfl, _, rfl, ?_⟩
      have a0 : atI (V.int x :: L.map V.int) 0 = some (V.int x) := at_0
      by_cases z : (10 : Int) ^ (Int.toNat 18) ≤ x
      · refine if_t (decide_eq_true z) ?_
        refine ⟨_, rfl, d, _, 0, _, rfl, rfl, SqL.of hd2, rfl, c, _, 0, _, rfl, rfl, SqL.of hc2, a0, _, rfl, _, _, rfl, rfl, hp, ?_⟩
        refine ⟨_, rfl, d, _, 0, _, rfl, rfl, SqL.of hd2, rfl, c, _, 0, _, rfl, rfl, SqL.of hc2, a0, _, rfl, _, _, rfl, rfl, hw2 _, ?_⟩
        refine ⟨_, rfl, d, _, 0, _, rfl, rfl, SqL.of hd2, rfl, c, _, 0, 0, rfl, rfl, hc2, by simp [ixN], _, rfl, ?_⟩
        refine k _ _ ⟨x / n :: L, n1, n2 + 1, ?_, ?_, hdc, hlen, hn0, hn1, by omega, by omega⟩ k2.upd_c (Int.emod_nonneg _ (by omega)) (Int.emod_lt_of_pos _ hp)
        · rw [upd_ne hdc]; exact hd2
        · rw [upd_same]; rfl
      · refine if_f (decide_eq_false z) ?_
        exact ⟨x :: L, rfl, hd2, hc2, hlen, k2⟩
  rintro σ2 H2 ⟨ms', rfl, hd2, hc2, hl2, k2⟩
  refine ⟨_, rfl, d, _, 1, _, rfl, rfl, SqL.of hd2, rfl, ?_⟩
  refine ⟨fun σ' H' => ∃ (x : Int) (ms'' : List Int), σ' = [some (.ref d), some (.int n), none, some (.int x), none] ∧ H' d = some (.lst [.ref c, .int n1, .int (n2 + 1)]) ∧ H' c = some (.lst (ms''.map V.int)) ∧ ms''.length ≤ 100 ∧ Kept d c H H', ?_, ?_⟩
  · refine ⟨_, rfl, d, _, 0, _, rfl, rfl, SqL.of hd2, rfl, (by show 0 ≤ sizeLine; decide), fun q hq => ?_⟩
    have s2 := same_new (o := HO.lst []) hq
    refine ⟨_, _, .lst (SqL.of (s2 _ _ hc2)) (dp_ints _ ms'), .lst (SqL.of upd_same) .nil, shaped_ints ms', rfl, _, rfl, ?_⟩
    have hd3 := s2 _ _ hd2
    have hc3 := s2 _ _ hc2
    have k3 := k2.trans (Kept.of s2)
    generalize upd H2 q (.lst []) = H3 at *
    cases ms' with
    | nil =>
      refine if_f (by rfl) ?_
      exact ⟨n1, [], rfl, hd3, hc3, by decide, k3⟩
    | cons y L =>
      refine if_t (by rw [eqv_nil y L]; rfl) ?_
      refine ⟨_, rfl, _, rfl, d, _, 0, _, rfl, rfl, SqL.of hd3, rfl, .inl ⟨rfl, _, SqL.of hc3⟩, c, _, 0, 0, .int y, rfl, rfl, hc3, by decide, by decide, by simp [seqIndex?], rfl, _, _, rfl, rfl, ?_⟩
      refine ⟨_, L, rfl, by rw [upd_ne hdc]; exact hd3, by rw [upd_same]; rfl, ?_, k3.upd_c⟩
      have : L.length + 1 ≤ 100 := hl2
      omega
  rintro σ3 H3 ⟨x, ms'', rfl, hd3, hc3, hl3, k3⟩
  refine ⟨_, rfl, _, _, rfl, rfl, (by show (0 : Int) < 2147483587; decide), _, _, rfl, rfl, Or.inr (by decide), _, rfl, d, _, 2, _, rfl, rfl, SqL.of hd3, rfl, _, _, rfl, rfl, Or.inl (by decide), _, _, rfl, rfl, _, _, rfl, rfl, _, _, rfl, rfl, (by show (0 : Int) < 2147483647; decide), ?_⟩
  refine ⟨_, rfl, _, rfl, _, _, rfl, rfl, Or.inl (by omega), _, rfl, _, _, rfl, rfl, Or.inl (by omega), _, _, rfl, rfl, _, rfl, d, _, 2, _, rfl, rfl, SqL.of hd3, rfl, _, _, rfl, rfl, _, _, rfl, rfl, (by show (0 : Int) < 2147483629; decide), ?_⟩
  obtain ⟨v, ev⟩ : ∃ v, v = (((x % 2147483587 * 40692 + 69621 * (n2 + 1) + 5) % 2147483647) * ((x % 2147483587 * 40692 + 69621 * (n2 + 1) + 5) % 2147483647) + 16807 * ((x % 2147483587 * 40692 + 69621 * (n2 + 1) + 5) % 2147483647) + (n2 + 1)) % 2147483629 := ⟨_, rfl⟩
  have v0 : 0 ≤ v := by rw [ev]; exact Int.emod_nonneg _ (by decide)
  have v1 : v < 2147483629 := by rw [ev]; exact Int.emod_lt_of_pos _ (by decide)
  show gName 4 (V.int ((((x % 2147483587 * 40692 + 69621 * (n2 + 1) + 5) % 2147483647) * ((x % 2147483587 * 40692 + 69621 * (n2 + 1) + 5) % 2147483647) + 16807 * ((x % 2147483587 * 40692 + 69621 * (n2 + 1) + 5) % 2147483647) + (n2 + 1)) % 2147483629)) _ H3 _
  rw [← ev]
  refine ⟨_, rfl, _, rfl, d, _, 1, 1, rfl, rfl, hd3, rfl, ?_⟩
  refine ⟨_, rfl, _, rfl, _, _, rfl, rfl, _, _, rfl, rfl, Or.inl (by omega), _, _, rfl, rfl, (by show (0 : Int) < 2147483563; decide), _, _, rfl, rfl, ⟨by decide, by decide⟩, _, rfl, _, _, rfl, rfl, hp, ?_⟩
  refine k _ _ ⟨ms'', v, n2 + 1, ?_, ?_, hdc, hl3, v0, by omega, by omega, by omega⟩ k3.upd_d (Int.emod_nonneg _ (by omega)) (Int.emod_lt_of_pos _ hp)
  · rw [upd_same]; rfl
  · rw [upd_ne hdc.symm]; exact hc3
end
end K25
namespace K25
open PySem PySem.Spec PyProof.Rows L2 EL PH
section
variable {P : Program} {w : World} {K : PySem.W.Frag} {mg : Str → Option Value} {base : Heap}
abbrev GT__law_draw (P : Program) (w : World) (base : Heap) (T : Tops K w mg) : Prop := FnOk P w K mg base CX0 1 T.f__law_draw T.d__law_draw ["_law_deck_here", "_law_many"] (spD K cl0 Deck 1 2 FDrw)
end
end K25
namespace K25
open PySem PySem.Spec PyProof.Rows L2 EL PH
section
variable {P : Program} {w : World} {K : PySem.W.Frag} {mg : Str → Option Value} {base : Heap}
theorem ok__law_draw (T : Tops K w mg) : GT__law_draw P w base T := (ok_draw T.N__law_draw.F).imp cv_draw
end
end K25
namespace K25
open PySem PySem.Spec PyProof.Rows L2 EL PH
/-! ### sketches, as they are made: each part by its form -/
structure Stp where
  w : Str
  nm : Str
  ps : List D
def Stp.d (s : Stp) : D := .tup (.str s.w :: .str s.nm :: s.ps)
def strOf : D → Option Str
  | .str z => some z
  | _ => none
def Stp.ns (s : Stp) : List Str := s.ps.filterMap strOf
def isStr : D → Bool
  | .str _ => true
  | _ => false
theorem filt_str : ∀ L : List D, L.filter isStr = (L.filterMap strOf).map D.str
  | [] => rfl
  | d :: L => by
    have ih := filt_str L
    cases d with
    | str z => rw [List.filter_cons_of_pos (by rfl), ih]; rfl
    | _ => rw [List.filter_cons_of_neg (by simp [isStr]), ih]; rfl
def isSI : D → Bool
  | .str z => gd z
  | .int i => decide (0 ≤ i ∧ i < 1000)
  | _ => false
theorem si_tm : ∀ {d : D}, isSI d = true → tm d = true ∧ dep d = 0 ∧ wt d ≤ 40
  | .str z, h => ⟨h, rfl, by
    have h : gd z = true := h
    unfold gd at h
    rw [Bool.and_eq_true] at h
    exact of_decide_eq_true h.2⟩
  | .int i, h => ⟨h, rfl, Nat.le_refl _⟩
  | .non, h => nomatch h
  | .bl _, h => nomatch h
  | .tup _, h => nomatch h
  | .lst _, h => nomatch h
  | .dct _, h => nomatch h
  | .obj _ _, h => nomatch h
  | .dk, h => nomatch h
  | .opq _, h => nomatch h
def Stp.ok (s : Stp) : Prop := s.ps.all isSI = true ∧ s.ps.length ≤ 3
def mk (z : Str) (L : List Str) : Bool := L.contains z
theorem mk_iff {z : Str} {L : List Str} : mk z L = true ↔ z ∈ L := List.contains_iff_mem
theorem inDs_str (z : Str) : ∀ L : List Str, inDs (.str z) (L.map D.str) = mk z L
  | [] => rfl
  | x :: L => by
    have ih := inDs_str z L
    unfold inDs mk at ih ⊢
    rw [List.map_cons, List.any_cons, ih, List.contains_cons]
    show (x == z || _) = _
    rw [BEq.comm]
theorem flat_strs : ∀ L : List Str, (L.map D.str).all flatD = true
  | [] => rfl
  | x :: L => by rw [List.map_cons, List.all_cons, flat_strs L]; rfl
theorem in_pos {z : Str} {ns : List Str} (h : inDs (.str z) (ns.map D.str) = true ↔ false = false) : mk z ns = true := by
  rw [inDs_str] at h; exact h.mpr rfl
theorem in_neg {z : Str} {ns : List Str} (h : ¬ (inDs (.str z) (ns.map D.str) = true ↔ false = false)) : mk z ns = false := by
  rw [inDs_str] at h; cases q : mk z ns with
  | false => rfl
  | true => exact absurd ⟨fun _ => rfl, fun _ => q⟩ h
theorem in_any {z : Str} : ∀ {ds : List D}, inDs (.str z) ds = true → D.str z ∈ ds
  | [], h => by cases h
  | d :: ds, h => by
    have h : (eqF d (.str z) || inDs (.str z) ds) = true := h
    rw [Bool.or_eq_true] at h
    rcases h with h | h
    · have : d = .str z := by
        cases d with
        | str y => rw [show y = z from eq_of_beq h]
        | _ => cases h
      subst this
      exact List.mem_cons_self
    · exact List.mem_cons_of_mem _ (in_any h)
def sortOf (w : Str) : Str := if w = "circle" then "C" else if mk w ["line", "along", "upright"] then "L" else "P"
def lowb (z : Str) : Bool := z.cps.toList.all (fun c => decide (97 ≤ c ∧ c ≤ 122)) && (decide (0 < z.length) && decide (z.length ≤ 8))
theorem lowb_iff {z : Str} : lowb z = true ↔ (∀ c ∈ z.cps.toList, AZ c) ∧ 0 < z.length ∧ z.length ≤ 8 := by
  unfold lowb
  rw [Bool.and_eq_true, Bool.and_eq_true, decide_eq_true_iff, decide_eq_true_iff, List.all_eq_true]
  constructor
  · rintro ⟨h1, h2⟩
    exact ⟨fun c hc => (show 97 ≤ c ∧ c ≤ 122 from of_decide_eq_true (h1 c hc)), h2⟩
  · rintro ⟨h1, h2⟩
    exact ⟨fun c hc => decide_eq_true (show 97 ≤ c ∧ c ≤ 122 from h1 c hc), h2⟩
theorem lowb_of {z : Str} {n : Nat} (h : Sg AZ n z) (p : 0 < z.length) (q : z.length ≤ 8) : lowb z = true := lowb_iff.mpr ⟨h.1, p, q⟩
theorem lowb_gd {z : Str} (h : lowb z = true) : gd z = true := by
  obtain ⟨h1, h2, h3⟩ := lowb_iff.mp h
  exact Sg.gd (P := AZ) (n := 8) ⟨h1, h3⟩ (fun c hc => hc.lt) (by decide)
theorem cutS_to (z : Str) (n : Nat) (h : n ≤ z.length) : (cutS z none (some (n : Int))).length = n := by
  rw [← sl_len, cutS_list, List.length_take, List.length_drop, sl_len]
  have e1 : HT.sIx z.length 0 none = 0 := rfl
  have e2 : HT.sIx z.length z.length (some (n : Int)) = n := by rw [sIx_nat]; omega
  rw [e1, e2]
  omega
theorem cutS_from (z : Str) (n : Nat) (h : n ≤ z.length) : (cutS z (some (n : Int)) none).length = z.length - n := by
  rw [← sl_len, cutS_list, List.length_take, List.length_drop, sl_len]
  have e1 : HT.sIx z.length z.length none = z.length := rfl
  have e2 : HT.sIx z.length 0 (some (n : Int)) = n := by rw [sIx_nat]; omega
  rw [e1, e2]
  omega
theorem sg_z : Sg AZ 1 "z" := sg_one (c := 122) (by unfold AZ; omega)
def pl (d : D) : Prop := (tyN d).isSome = true ∧ ∀ z, d = .str z → z.length ≤ 1000000
def nameD : D → Bool
  | .str z => decide (z.length ≤ 8) && (Txt.isascii z && (Txt.isalpha z && Txt.islower z))
  | _ => false
def FName : FD := fun ds R _ => ∃ d, ds = [d] ∧ pl d ∧ R (.bl (nameD d))
theorem eqv_strs : ∀ X : List Str, PyData.eqvAll (pys (X.map D.str)) (pys (X.map D.str)) = true
  | [] => by simp only [List.map_nil, pys, PyData.eqvAll]
  | x :: X => by
    have ih := eqv_strs X
    simp only [List.map_cons, pys, py, PyData.eqvAll, PyData.eqv, ih]
    simp
theorem eqD_strs (X : List Str) : eqD (.lst (X.map D.str)) (.lst (X.map D.str)) = true := by
  unfold eqD
  simp only [py, PyData.eqv]
  exact eqv_strs X
theorem alpha_az : ∀ c : Nat, AZ c → Unicode.isAlpha c = true ∧ Unicode.isLower c = true ∧ Unicode.isUpper c = false ∧ Unicode.isTitle c = false := by
  have k : ∀ n : _root_.Fin 26, Unicode.isAlpha (97 + n.1) = true ∧ Unicode.isLower (97 + n.1) = true ∧ Unicode.isUpper (97 + n.1) = false ∧ Unicode.isTitle (97 + n.1) = false := by decide +kernel
  intro c hc
  unfold AZ at hc
  have := k ⟨c - 97, by omega⟩
  have e : 97 + (c - 97) = c := by omega
  rw [e] at this
  exact this
theorem low_name {z : Str} (h : lowb z = true) : nameD (.str z) = true := by
  obtain ⟨h1, h2, h3⟩ := lowb_iff.mp h
  have all_ : ∀ f : Nat → Bool, (∀ c, AZ c → f c = true) → z.cps.all f = true := fun f hf => by
    rw [← Array.all_toList]
    exact List.all_eq_true.mpr fun c hc => hf c (h1 c hc)
  have a1 : Txt.isascii z = true := all_ _ fun c hc => decide_eq_true hc.lt
  have a2 : Txt.isalpha z = true := by
    show (decide (z.length > 0) && z.cps.all Unicode.isAlpha) = true
    rw [decide_eq_true h2, all_ _ fun c hc => (alpha_az c hc).1]
    rfl
  have a3 : Txt.islower z = true := by
    obtain ⟨c, hc⟩ : ∃ c, c ∈ z.cps.toList := by
      have : 0 < z.cps.toList.length := by rw [sl_len]; exact h2
      exact ⟨_, List.getElem_mem this⟩
    have b1 : z.cps.any Unicode.isLower = true := by
      rw [← Array.any_toList]
      exact List.any_eq_true.mpr ⟨c, hc, (alpha_az c (h1 c hc)).2.1⟩
    have b2 : (z.cps.any fun c => Unicode.isUpper c || Unicode.isTitle c) = false := by
      rw [← Array.any_toList]
      exact List.any_eq_false.mpr fun c hc => by rw [(alpha_az c (h1 c hc)).2.2.1, (alpha_az c (h1 c hc)).2.2.2]; decide
    unfold Txt.islower
    rw [b1, b2]
    rfl
  show (decide (z.length ≤ 8) && _) = true
  rw [decide_eq_true h3, a1, a2, a3]
  rfl
def mkS (w : Str) : Str := if w = "circle" then "circle" else if mk w ["line", "along", "upright"] then "line" else "point"
theorem tab_makes (w : Str) : (tab_MAKES w).getD (.str "point") = .str (mkS w) := by
  unfold tab_MAKES mkS
  by_cases h1 : w = "line"
  · subst h1; rfl
  by_cases h2 : w = "along"
  · subst h2; rfl
  by_cases h3 : w = "upright"
  · subst h3; rfl
  by_cases h4 : w = "circle"
  · subst h4; rfl
  have e : mk w ["line", "along", "upright"] = false := by
    cases q : mk w ["line", "along", "upright"] with
    | false => rfl
    | true =>
      have := mk_iff.mp q
      simp [h1, h2, h3] at this
  rw [if_neg h4, e]
  have e2 : getK (.inr w) ([(.inr "line", .str "line"), (.inr "along", .str "line"), (.inr "upright", .str "line"), (.inr "circle", .str "circle")] : List (Key × D)) = none := by
    refine getK_ne fun p hp => ?_
    simp only [List.mem_cons, List.not_mem_nil, or_false] at hp
    rcases hp with rfl | rfl | rfl | rfl <;> (intro e; injection e with e; first | exact h1 e.symm | exact h2 e.symm | exact h3 e.symm | exact h4 e.symm)
  rw [e2]
  rfl
theorem az_alpha : ∀ c : Nat, c < 128 → Unicode.isAlpha c = true → Unicode.isUpper c = false → AZ c := by
  have k : ∀ n : _root_.Fin 128, Unicode.isAlpha n.1 = true → Unicode.isUpper n.1 = false → 97 ≤ n.1 ∧ n.1 ≤ 122 := by decide +kernel
  exact fun c hc h1 h2 => k ⟨c, hc⟩ h1 h2
theorem name_low {z : Str} (h : nameD (.str z) = true) : lowb z = true := by
  have h : (decide (z.length ≤ 8) && (Txt.isascii z && (Txt.isalpha z && Txt.islower z))) = true := h
  simp only [Bool.and_eq_true] at h
  obtain ⟨h1, h2, h3, h4⟩ := h
  have all_ : ∀ {f : Nat → Bool}, z.cps.all f = true → ∀ c ∈ z.cps.toList, f c = true := fun hf c hc => by
    rw [← Array.all_toList] at hf
    exact List.all_eq_true.mp hf c hc
  have h3 : (decide (z.length > 0) && z.cps.all Unicode.isAlpha) = true := h3
  rw [Bool.and_eq_true] at h3
  have h4 : (z.cps.any Unicode.isLower && !z.cps.any fun c => Unicode.isUpper c || Unicode.isTitle c) = true := h4
  rw [Bool.and_eq_true] at h4
  refine lowb_iff.mpr ⟨fun c hc => ?_, of_decide_eq_true h3.1, of_decide_eq_true h1⟩
  refine az_alpha c (of_decide_eq_true (all_ h2 c hc)) (all_ h3.2 c hc) ?_
  cases q : Unicode.isUpper c with
  | false => rfl
  | true =>
    have : z.cps.any (fun c => Unicode.isUpper c || Unicode.isTitle c) = true := by
      rw [← Array.any_toList]
      exact List.any_eq_true.mpr ⟨c, hc, by rw [q]; rfl⟩
    rw [this] at h4
    cases h4.2
def plS (d : D) : Prop := pl d ∧ ∀ xs, d = .tup xs → xs.length ≤ 1000000 ∧ ∀ x ∈ xs, pl x
def kvL (L : List Stp) : List (Key × D) := L.map fun t => (.inr t.nm, t.d)
theorem getK_kvL {z : Str} : ∀ {L : List Stp}, z ∉ L.map Stp.nm → getK (.inr z) (kvL L) = none := fun {L} h => getK_ne fun p hp => by
  obtain ⟨t, ht, rfl⟩ := List.mem_map.mp hp
  intro e
  injection e with e
  exact h (e ▸ List.mem_map.mpr ⟨t, ht, rfl⟩)
theorem setK_end {key : Key} {v : D} : ∀ {kvs : List (Key × D)}, (∀ p ∈ kvs, p.1 ≠ key) → setK key v kvs = kvs ++ [(key, v)]
  | [], _ => rfl
  | kv :: r, h => by
    have h1 : keyEq kv.1 key = false := by
      rw [keyEq_dec]
      exact decide_eq_false (h kv List.mem_cons_self)
    show (if keyEq kv.1 key = true then _ else kv :: setK key v r) = _
    rw [h1, setK_end fun p hp => h p (List.mem_cons_of_mem _ hp)]
    rfl
/-! ### sayings -/
def sortS (w : Str) : Str := mkS w
/-- how many points a saying of this word names -/
def ptsN (w : Str) : Option Nat := if w = "same" then some 2 else if w = "row" then some 3 else if w = "along" then some 4 else if w = "upright" then some 4 else if w = "alike" then some 4 else if w = "angle" then some 6 else if w = "ring" then some 4 else if w = "at" then some 1 else none
theorem tab_pts (w : Str) : tab_POINTS w = (ptsN w).map fun n => D.int (n : Nat) := by
  unfold tab_POINTS ptsN
  by_cases h1 : w = "same"
  · subst h1; rfl
  by_cases h2 : w = "row"
  · subst h2; rfl
  by_cases h3 : w = "along"
  · subst h3; rfl
  by_cases h4 : w = "upright"
  · subst h4; rfl
  by_cases h5 : w = "alike"
  · subst h5; rfl
  by_cases h6 : w = "angle"
  · subst h6; rfl
  by_cases h7 : w = "ring"
  · subst h7; rfl
  by_cases h8 : w = "at"
  · subst h8; rfl
  rw [if_neg h1, if_neg h2, if_neg h3, if_neg h4, if_neg h5, if_neg h6, if_neg h7, if_neg h8]
  refine getK_ne fun p hp => ?_
  simp only [List.mem_cons, List.not_mem_nil, or_false] at hp
  rcases hp with rfl | rfl | rfl | rfl | rfl | rfl | rfl | rfl <;> (intro e; injection e with e; first | exact h1 e.symm | exact h2 e.symm | exact h3 e.symm | exact h4 e.symm | exact h5 e.symm | exact h6 e.symm | exact h7 e.symm | exact h8 e.symm)
def namesW (w : Str) (n : Nat) : Nat := if w = "at" then n + 1 else n
/-- a sketch, as far as sayings look at it -/
structure Pln (L : List Stp) : Prop where
  nd : (L.map Stp.nm).Nodup
  low : ∀ s ∈ L, lowb s.nm = true
  len : L.length ≤ 14
  wd : ∀ s ∈ L, s.w.length ≤ 40
def FSortOf : FD := fun ds R _ => ∃ (w : Str) (r : List D), ds = [.tup (.str w :: r)] ∧ R (.str (mkS w))
def kvS (L : List Stp) : List (Key × D) := L.map fun s => (.inr s.nm, .str (mkS s.w))
def FSorts : FD := fun ds R _ => ∃ L : List Stp, ds = [.tup (L.map Stp.d)] ∧ Pln L ∧ R (.dct (kvS L))
def FNamesW : FD := fun ds R _ => ∃ (w : Str) (n : Nat), ds = [.str w] ∧ ptsN w = some n ∧ R (.int (namesW w n))
/-- a thing of this sort, or None -/
def srt : Option Str → D
  | some s => .str s
  | none => .non
def fitB (n at_ : Nat) (s : Option Str) : Bool := if at_ < n then decide (s = some ("point" : Str)) else (decide (s = some ("line" : Str)) || decide (s = some ("circle" : Str)))
def FFitsPl : FD := fun ds R _ => ∃ (w : Str) (n k : Nat) (s : Option Str), ds = [.str w, .int (k : Nat), srt s] ∧ ptsN w = some n ∧ R (.bl (fitB n k s))
/-- data that sayings are asked of -/
def plW (d : D) : Prop := pl d ∧ ∀ xs, d = .tup xs → xs.length ≤ 1000 ∧ ∀ x ∈ xs, pl x
def FormS (d : D) : Prop := ∃ (w : Str) (n : Nat) (ns : List Str), d = .tup (.str w :: ns.map D.str) ∧ ptsN w = some n ∧ ns.length = namesW w n ∧ ∀ z ∈ ns, lowb z = true
def FForm : FD := fun ds R _ => ∃ d, ds = [d] ∧ plW d ∧ ∀ b : Bool, (b = true ↔ FormS d) → R (.bl b)
/-- the sort of what a name stands for -/
def sortAt (L : List Stp) (z : Str) : Option Str := (L.find? fun t => decide (t.nm = z)).map fun t => mkS t.w
def SayS (L : List Stp) (d : D) : Prop := ∃ (w : Str) (n : Nat) (ns : List Str), d = .tup (.str w :: ns.map D.str) ∧ ptsN w = some n ∧ ns.length = namesW w n ∧ ∀ (k : Nat) (z : Str), ns[k]? = some z → fitB n k (sortAt L z) = true
def FSay : FD := fun ds R _ => ∃ (L : List Stp) (d : D), ds = [.tup (L.map Stp.d), d] ∧ Pln L ∧ plW d ∧ ∀ b : Bool, (b = true ↔ SayS L d) → R (.bl b)
theorem strs_of {P : Str → Prop} : ∀ {r : List D}, (∀ x ∈ r, ∃ z, x = .str z ∧ P z) → ∃ ns : List Str, r = ns.map D.str ∧ ∀ z ∈ ns, P z
  | [], _ => ⟨[], rfl, fun _ h => by cases h⟩
  | x :: r, h => by
    obtain ⟨z, rfl, hz⟩ := h x List.mem_cons_self
    obtain ⟨ns, rfl, h2⟩ := strs_of (r := r) fun y hy => h y (List.mem_cons_of_mem _ hy)
    exact ⟨z :: ns, rfl, fun y hy => by
      rcases List.mem_cons.mp hy with rfl | hy
      · exact hz
      · exact h2 y hy⟩
theorem get_kvS {z : Str} : ∀ {L : List Stp}, (getK (.inr z) (kvS L)).getD .non = srt (sortAt L z)
  | [] => rfl
  | s :: L => by
    have ih := get_kvS (z := z) (L := L)
    unfold kvS sortAt at ih ⊢
    show ((if keyEq (.inr s.nm) (.inr z) = true then some (D.str (mkS s.w)) else getK (.inr z) (L.map fun s => (Sum.inr s.nm, D.str (mkS s.w)))).getD .non) = _
    rw [keyEq_dec, List.find?_cons]
    by_cases h : s.nm = z
    · subst h
      simp [srt]
    · have h1 : ((Sum.inr s.nm : Key) = Sum.inr z) = False := by simp [h]
      simp only [h1, decide_false, Bool.false_eq_true, if_false, h]
      exact ih
theorem enum_strs (L : List Str) : enumD (L.map D.str) = (L.zipIdx 0).map fun p => D.tup [.int (p.2 : Nat), .str p.1] := by
  unfold enumD
  rw [List.zipIdx_map, List.map_map]
  rfl
end K25
namespace K25
open PySem PySem.Spec PyProof.Rows L2 EL PH
section
variable {P : Program} {w : World} {K : PySem.W.Frag} {mg : Str → Option Value} {base : Heap}
abbrev GT_is_name (P : Program) (w : World) (base : Heap) (T : Tops K w mg) : Prop := FnOk P w K mg base CX0 1 T.f_is_name T.d_is_name ["thing"] (spD K cl0 Deck 0 1 FName)
theorem ok_is_name (T : Tops K w mg)  : GT_is_name P w base T := by
  refine Fun.ok T.N_is_name.F sc_is_name (spD_len rfl) fun cdv A outer s H vs Q E hr h => bodyD (K := K) h (fun dk G xc DkAt hx hB => (ss_cons (s_if (PW.pt (bw_or (b_not (b_val (d_cb (ok_isi rfl kt_str) (pe_callB (call_isiB (T := "str")) (by rfl) T.z_isinstance (by decide +kernel) (a_cons (d_var 0 (pv 0)) (a_cons (d_opq (pe_bltn (by rfl) T.z_str (by decide +kernel) (show RelV (.ty "str") (.type "str") from rfl))) a_nil)))))) (bw_or1 (b_cmp op_gt ok_gtP (d_cb (ok_len rfl) (pe_callB call_lenD (by rfl) T.z_len (by decide +kernel) (a_cons (d_var 0 (pv 0)) a_nil))) (d_gc (pe_gc (by rfl) T.i_MOST_LETTERS)) (nomark _))))) (ss_one (s_ret d_bl)) ss_nil)
    (ss_one (s_ret (d_and (d_s0 (pe_m0 PySem.F.slot_str_isascii PySem.F.type_str_isascii mt_isascii (d_var 0 (pv 0)))) (d_and (d_s0 (pe_m0 PySem.F.slot_str_isalpha PySem.F.type_str_isalpha mt_isalpha (d_var 0 (pv 0)))) (d_one (d_s0 (pe_m0 PySem.F.slot_str_islower PySem.F.type_str_islower mt_islower (d_var 0 (pv 0))))))))))) ?_
  rintro _ R xc - ⟨d, rfl, ⟨h1, h2⟩, hR⟩
  cases d with
  | str z =>
    refine ⟨_, rfl, fun hp => (hp rfl).elim, fun _ => ⟨h2 z rfl, fun hp => ?_, fun hp => ?_⟩⟩
    · have hp : (z.length : Int) > 8 := hp
      have e : nameD (.str z) = false := by
        show (decide (z.length ≤ 8) && _) = false
        rw [decide_eq_false (by omega)]
        rfl
      rw [e] at hR
      exact hR
    · have hp : ¬ (z.length : Int) > 8 := hp
      have e : nameD (.str z) = (Txt.isascii z && (Txt.isalpha z && Txt.islower z)) := by
        show (decide (z.length ≤ 8) && _) = _
        rw [decide_eq_true (by omega)]
        rfl
      rw [e] at hR
      refine ⟨fun q1 => ⟨fun q2 => ?_, fun q2 => ?_⟩, fun q1 => ?_⟩
      · rw [q1, q2] at hR; exact hR
      · rw [q1, q2] at hR; exact hR
      · rw [q1] at hR; exact hR
  | obj _ _ => cases h1
  | dk => cases h1
  | opq _ => cases h1
  | _ => exact ⟨_, rfl, fun _ => ⟨fun _ => hR, fun n => absurd trivial n⟩, fun n => (n (by decide)).elim⟩
end
end K25
namespace K25
open PySem PySem.Spec PyProof.Rows L2 EL PH
section
variable {P : Program} {w : World} {K : PySem.W.Frag} {mg : Str → Option Value} {base : Heap}
abbrev GT_sort_of (P : Program) (w : World) (base : Heap) (T : Tops K w mg) : Prop := FnOk P w K mg base CX0 1 T.f_sort_of T.d_sort_of ["step"] (spD K cl0 Deck 0 1 FSortOf)
theorem ok_sort_of (T : Tops K w mg)  : GT_sort_of P w base T := by
  refine Fun.ok T.N_sort_of.F sc_sort_of (spD_len rfl) fun cdv A outer s H vs Q E hr h => bodyD (K := K) h (fun dk G xc DkAt hx hB => (ss_one (s_ret (d_getK T.t_MAKES (pe_getK (d_opq (pe_glob (by rfl) T.m_MAKES (show RelV (.ref T.a_MAKES) (.ref T.a_MAKES) from rfl))) (d_item rfl (d_var 0 (pv 0)) d_int (fun _ _ => rfl)) d_str ⟨rfl, rfl, rfl, rfl⟩))))) ?_
  rintro _ R xc - ⟨w, r, rfl, hR⟩
  rw [← tab_makes w] at hR
  exact ⟨rfl, _, at_0, hR⟩
end
end K25
namespace K25
open PySem PySem.Spec PyProof.Rows L2 EL PH
section
variable {P : Program} {w : World} {K : PySem.W.Frag} {mg : Str → Option Value} {base : Heap}
abbrev GT_sorts_by_name (P : Program) (w : World) (base : Heap) (T : Tops K w mg) : Prop := FnOk P w K mg base CX0 2 T.f_sorts_by_name T.d_sorts_by_name ["sketch"] (spD K cl0 Deck 0 1 FSorts)
theorem ok_sorts_by_name (T : Tops K w mg) (G_sort_of : GT_sort_of P w base T) : GT_sorts_by_name P w base T := by
  refine Fun.ok T.N_sorts_by_name.F sc_sorts_by_name (spD_len rfl) fun cdv A outer s H vs Q E hr h => bodyD (K := K) h (fun dk G xc DkAt hx hB => (ss_one (s_ret (d_fd (f_dc (pe_dc (own := [("step", 1)]) rfl sc_sorts_by_name.nd (i_seq rfl (d_var 0 (pv 0))) (blkOk_by (own := [("step", 1)]) (N := N_sc_sorts_by_name) (sc := defScope s_sorts_by_name) (by decide +kernel)) (fun _ _ _ _ _ => gx (vs := [1]) fun _ => (g_name (vs := [1]) (pg_name (i := 1) sc_sorts_by_name.nd rfl (Or.inl rfl)))) (fun _ _ _ _ _ => bx_yes) (fun _ _ _ _ _ => dx fun h0 => (d_item rfl (d_var 1 (pv 1)) d_int (fun _ _ => rfl))) (fun _ _ _ _ _ => dx fun h0 => (d_call (hB.withH h0) (pe_call G_sort_of (hr.mono (by decide)) rfl T.N_sort_of.m T.N_sort_of.F.kp T.N_sort_of.b .nil pass0 (a_cons (d_var 1 (pv 1)) a_nil)))))))))) ?_
  rintro _ R xc - ⟨L, rfl, hL, hR⟩
  refine ⟨(by show (L.map Stp.d).length ≤ 1000000; rw [List.length_map]; have := hL.len; omega), ?_⟩
  show dcD _ _ _ _ _ (L.map Stp.d) [] _ _
  refine dc_each Stp.d (fun s => .inr s.nm) (fun s => .str (mkS s.w)) L rfl ?_ L [] _ (fun _ h => h) ?_
  · intro s hs Z Z' k
    exact ⟨fun _ => ⟨_, at_1, rfl, s.w, _, rfl, _, rfl, k _ rfl⟩, fun n => absurd trivial n⟩
  · have nd : (L.map fun s => (Sum.inr s.nm : Key)).Nodup := by
      have := hL.nd
      rw [show (L.map fun s => (Sum.inr s.nm : Key)) = (L.map Stp.nm).map Sum.inr by rw [List.map_map]; rfl]
      exact List.Pairwise.map _ (fun a b h e => h (by injection e)) this
    rw [fold_new _ _ L [] nd (fun _ _ p hp => by cases hp)]
    exact hR
end
end K25
namespace K25
open PySem PySem.Spec PyProof.Rows L2 EL PH
section
variable {P : Program} {w : World} {K : PySem.W.Frag} {mg : Str → Option Value} {base : Heap}
abbrev GT_names_wanted (P : Program) (w : World) (base : Heap) (T : Tops K w mg) : Prop := FnOk P w K mg base CX0 1 T.f_names_wanted T.d_names_wanted ["word"] (spD K cl0 Deck 0 1 FNamesW)
theorem ok_names_wanted (T : Tops K w mg)  : GT_names_wanted P w base T := by
  refine Fun.ok T.N_names_wanted.F sc_names_wanted (spD_len rfl) fun cdv A outer s H vs Q E hr h => bodyD (K := K) h (fun dk G xc DkAt hx hB => (ss_one (s_ret (d_ifE (b_cmp (op_eqPP hr.units) (ok_eqP rfl) (d_var 0 (pv 0)) d_str (nomark _)) (d_add rfl (d_ix ix_kdict (ok_kix T.t_POINTS rfl) (d_opq (pe_glob (by rfl) T.m_POINTS (show RelV (.ref T.a_POINTS) (.ref T.a_POINTS) from rfl))) (d_var 0 (pv 0)) (fun _ _ => rfl)) d_int) (d_ix ix_kdict (ok_kix T.t_POINTS rfl) (d_opq (pe_glob (by rfl) T.m_POINTS (show RelV (.ref T.a_POINTS) (.ref T.a_POINTS) from rfl))) (d_var 0 (pv 0)) (fun _ _ => rfl)))))) ?_
  rintro _ R xc - ⟨w, n, rfl, hn, hR⟩
  have e : tab_POINTS w = some (.int (n : Nat)) := by rw [tab_pts, hn]; rfl
  refine ⟨fun h => ⟨rfl, _, e, ?_⟩, fun h => ⟨rfl, _, e, ?_⟩⟩
  · have : ((namesW w n : Nat) : Int) = (n : Int) + 1 := by
      unfold namesW
      rw [if_pos h]
      rfl
    rw [this] at hR
    exact hR
  · have : namesW w n = n := by
      unfold namesW
      rw [if_neg h]
    rw [this] at hR
    exact hR
end
end K25
namespace K25
open PySem PySem.Spec PyProof.Rows L2 EL PH
section
variable {P : Program} {w : World} {K : PySem.W.Frag} {mg : Str → Option Value} {base : Heap}
abbrev GT_fits_place (P : Program) (w : World) (base : Heap) (T : Tops K w mg) : Prop := FnOk P w K mg base CX0 1 T.f_fits_place T.d_fits_place ["word", "at", "sort"] (spD K cl0 Deck 0 3 FFitsPl)
theorem ok_fits_place (T : Tops K w mg)  : GT_fits_place P w base T := by
  refine Fun.ok T.N_fits_place.F sc_fits_place (spD_len rfl) fun cdv A outer s H vs Q E hr h => bodyD (K := K) h (fun dk G xc DkAt hx hB => (ss_one (s_ret (d_ifE (b_cmp op_ltP ok_ltP (d_var 1 (pv 1)) (d_ix ix_kdict (ok_kix T.t_POINTS rfl) (d_opq (pe_glob (by rfl) T.m_POINTS (show RelV (.ref T.a_POINTS) (.ref T.a_POINTS) from rfl))) (d_var 0 (pv 0)) (fun _ _ => rfl)) (nomark _)) (d_cmp (op_eqPP hr.units) (ok_eqP rfl) (d_var 2 (pv 2)) d_str (nomark _)) (d_cmp op_in_seq (ok_inP rfl) (d_var 2 (pv 2)) (d_tup (a_cons d_str (a_cons d_str a_nil))) (by rfl)))))) ?_
  rintro _ R xc - ⟨w, n, k, s, rfl, hn, hR⟩
  have e : tab_POINTS w = some (.int (n : Nat)) := by rw [tab_pts, hn]; rfl
  refine ⟨rfl, _, e, fun h => ?_, fun h => ?_⟩
  · have h : (k : Int) < (n : Int) := h
    have hf : fitB n k s = decide (s = some ("point" : Str)) := by unfold fitB; rw [if_pos (by omega)]
    cases s with
    | some s =>
      intro b hb
      have : b = fitB n k (some s) := by
        rw [Bool.eq_iff_iff, hf, decide_eq_true_iff]
        exact hb.trans ⟨fun e => by rw [e], fun e => by injection e⟩
      rw [this]
      exact hR
    | none =>
      refine ⟨⟨⟨rfl, by decide +kernel⟩, ⟨rfl, by decide +kernel⟩⟩, fun b hb => ?_⟩
      have : b = fitB n k none := by
        rw [Bool.eq_iff_iff, hf, decide_eq_true_iff]
        exact hb.trans (iff_of_false (by decide +kernel) (fun e => by cases e))
      rw [this]
      exact hR
  · have h : ¬ (k : Int) < (n : Int) := h
    have hf : fitB n k s = (decide (s = some ("line" : Str)) || decide (s = some ("circle" : Str))) := by unfold fitB; rw [if_neg (by omega)]
    refine ⟨Nat.le_of_ble_eq_true rfl, ⟨by cases s <;> rfl, rfl⟩, fun b hb => ?_⟩
    have : b = fitB n k s := by
      rw [Bool.eq_iff_iff, hf]
      refine hb.trans ?_
      cases s with
      | some s =>
        have e1 : inDs (srt (some s)) [D.str "line", D.str "circle"] = mk s ["line", "circle"] := inDs_str s ["line", "circle"]
        rw [e1]
        have e2 : mk s ["line", "circle"] = true ↔ s = "line" ∨ s = "circle" := by rw [mk_iff]; simp
        simp only [iff_true]
        rw [e2]
        simp
      | none => decide +kernel
    rw [this]
    exact hR
end
end K25
namespace K25
open PySem PySem.Spec PyProof.Rows L2 EL PH
section
variable {P : Program} {w : World} {K : PySem.W.Frag} {mg : Str → Option Value} {base : Heap}
abbrev GT_is_saying_by_form (P : Program) (w : World) (base : Heap) (T : Tops K w mg) : Prop := FnOk P w K mg base CX0 2 T.f_is_saying_by_form T.d_is_saying_by_form ["thing"] (spD K cl0 Deck 0 1 FForm)
theorem ok_is_saying_by_form (T : Tops K w mg) (G_names_wanted : GT_names_wanted P w base T) (G_is_name : GT_is_name P w base T) : GT_is_saying_by_form P w base T := by
  refine Fun.ok T.N_is_saying_by_form.F sc_is_saying_by_form (spD_len rfl) fun cdv A outer s H vs Q E hr h => bodyD (K := K) h (fun dk G xc DkAt hx hB => (ss_cons (s_if (PW.pt (bw_or (b_not (b_val (d_cb (ok_isi rfl kt_tuple) (pe_callB (call_isiB (T := "tuple")) (by rfl) T.z_isinstance (by decide +kernel) (a_cons (d_var 0 (pv 0)) (a_cons (d_opq (pe_bltn (by rfl) T.z_tuple (by decide +kernel) (show RelV (.ty "tuple") (.type "tuple") from rfl))) a_nil)))))) (bw_or (b_cmp op_ltP ok_ltP (d_cb (ok_len rfl) (pe_callB call_lenD (by rfl) T.z_len (by decide +kernel) (a_cons (d_var 0 (pv 0)) a_nil))) d_int (nomark _)) (bw_or1 (b_not (b_val (d_cb (ok_isi rfl kt_str) (pe_callB (call_isiB (T := "str")) (by rfl) T.z_isinstance (by decide +kernel) (a_cons (d_item rfl (d_var 0 (pv 0)) d_int (fun _ _ => rfl)) (a_cons (d_opq (pe_bltn (by rfl) T.z_str (by decide +kernel) (show RelV (.ty "str") (.type "str") from rfl))) a_nil)))))))))) (ss_one (s_ret d_bl)) ss_nil)
    (ss_cons (s_if (PW.pt (bw_or (b_cmp (op_kni2 T.t_POINTS) (ok_kni T.t_POINTS rfl) (d_item rfl (d_var 0 (pv 0)) d_int (fun _ _ => rfl)) (d_opq (pe_glob (by rfl) T.m_POINTS (show RelV (.ref T.a_POINTS) (.ref T.a_POINTS) from rfl))) (by rfl)) (bw_or1 (b_cmp (op_nePP hr.units) (ok_neP rfl) (d_cb (ok_len rfl) (pe_callB call_lenD (by rfl) T.z_len (by decide +kernel) (a_cons (d_var 0 (pv 0)) a_nil))) (d_add rfl d_int (d_call hB (pe_call G_names_wanted (hr.mono (by decide)) rfl T.N_names_wanted.m T.N_names_wanted.F.kp T.N_names_wanted.b .nil pass0 (a_cons (d_item rfl (d_var 0 (pv 0)) d_int (fun _ _ => rfl)) a_nil)))) (nomark _))))) (ss_one (s_ret d_bl)) ss_nil)
    (ss_one (s_ret (d_cb (ok_all rfl) (pe_callB (cr_all rfl) (by rfl) T.z_all (by decide +kernel) (a_cons (d_f (f_lc (pe_lc (own := [("name", 1)]) rfl sc_is_saying_by_form.nd (i_seq rfl (d_sl rfl (pe_slice sl_D (d_var 0 (pv 0)) (o_some d_int) o_none))) (blkOk_by (own := [("name", 1)]) (N := N_sc_is_saying_by_form) (sc := defScope s_is_saying_by_form) (by decide +kernel)) (fun _ _ _ _ _ => gx (vs := [1]) fun _ => (g_name (vs := [1]) (pg_name (i := 1) sc_is_saying_by_form.nd rfl (Or.inl rfl)))) (fun _ _ _ _ _ => bx_yes) (fun _ _ _ _ _ => dx fun h0 => (d_call (hB.withH h0) (pe_call G_is_name (hr.mono (by decide)) rfl T.N_is_name.m T.N_is_name.F.kp T.N_is_name.b .nil pass0 (a_cons (d_var 1 (pv 1)) a_nil))))))) a_nil)))))))) ?_
  rintro _ R xc - ⟨d, rfl, ⟨hd, hx⟩, hR⟩
  cases d with
  | tup xs =>
    obtain ⟨hl, hxs⟩ := hx xs rfl
    refine ⟨_, rfl, fun h => (h rfl).elim, fun _ => ⟨fun hp => ?_, fun hp => ?_⟩⟩
    · refine ⟨fun _ => hR false (iff_of_false (by decide) ?_), fun n => absurd trivial n⟩
      rintro ⟨w, n, ns, e, _⟩
      cases e
      have hp : ((D.str w :: ns.map D.str).length : Int) < 1 := hp
      rw [List.length_cons] at hp
      omega
    · cases xs with
      | nil => exact absurd (by decide) hp
      | cons x r =>
        have no : (∀ w, x ≠ .str w) → ¬ FormS (.tup (x :: r)) := fun h ⟨w, n, ns, e, _⟩ => by
          cases e
          exact h w rfl
        have hx0 := hxs x List.mem_cons_self
        cases x with
        | obj _ _ => cases hx0.1
        | dk => cases hx0.1
        | opq _ => cases hx0.1
        | str w =>
          refine ⟨_, at_0, _, rfl, fun h => (h rfl).elim, fun _ => ?_⟩
          refine ⟨_, at_0, rfl, fun hq => ⟨fun _ => hR false (iff_of_false (by decide) ?_), fun n => absurd trivial n⟩, fun hq => ?_⟩
          · rintro ⟨w', n, ns, e, e2, _⟩
            cases e
            rw [tab_pts, e2] at hq
            exact absurd (hq.mp rfl) (by decide)
          obtain ⟨n, hn⟩ : ∃ n, ptsN w = some n := by
            cases q : ptsN w with
            | some n => exact ⟨n, rfl⟩
            | none =>
              rw [tab_pts, q] at hq
              exact absurd (iff_of_false (by decide) (by decide)) hq
          have hcut : EL.cutD (D.str w :: r) (some 1) none = r := cutD_from 1
          refine ⟨_, at_0, rfl, w, n, rfl, hn, fun hq => hR false (iff_of_false (by decide) ?_), fun hq => ?_⟩
          · rintro ⟨w', n', ns, e, e2, e3, _⟩
            cases e
            rw [hn] at e2
            cases e2
            refine hq ?_
            show ((List.map D.str ns).length + 1 : Nat) = (1 : Int) + (namesW w n : Nat)
            rw [List.length_map, e3]
            omega
          have hl2 : r.length = namesW w n := by
            have : ((r.length + 1 : Nat) : Int) = 1 + (namesW w n : Nat) := Decidable.not_not.mp hq
            omega
          refine ⟨(by show (EL.cutD (D.str w :: r) (some 1) none).length ≤ 1000000; rw [hcut]; have : r.length + 1 ≤ 1000 := hl; omega), ?_⟩
          suffices hh : lcD (bN 1) bYes (dCall 1 FName noX (aCons (dVar 1) aNil)) [1] (r.map id) [] _ _ by rw [List.map_id, ← hcut] at hh; exact hh
          refine lc_filt id (fun x => .bl (nameD x)) (fun _ => true) r ?_ r [] _ (fun _ h => h) ?_
          · intro x hx R R' k1 k2
            exact ⟨fun _ => ⟨rfl, x, rfl, hxs x (List.mem_cons_of_mem _ hx), k1 rfl _ rfl⟩, fun n => absurd trivial n⟩
          · rw [List.nil_append, List.filter_eq_self.mpr (fun _ _ => rfl)]
            refine ⟨r.map nameD, by rw [List.map_map]; rfl, hR _ ?_⟩
            constructor
            · intro h
              have h := List.all_eq_true.mp h
              have hz : ∀ x ∈ r, ∃ z, x = .str z ∧ lowb z = true := fun x hx => by
                have h := h _ (List.mem_map.mpr ⟨x, hx, rfl⟩)
                cases x with
                | str z => exact ⟨z, rfl, name_low h⟩
                | _ => cases h
              obtain ⟨ns, rfl, h2⟩ := strs_of hz
              exact ⟨w, n, ns, rfl, hn, by rw [← hl2, List.length_map], h2⟩
            · rintro ⟨w', n', ns, e, e2, e3, e4⟩
              cases e
              refine List.all_eq_true.mpr fun b hb => ?_
              obtain ⟨x, hx, rfl⟩ := List.mem_map.mp hb
              obtain ⟨z, hz, rfl⟩ := List.mem_map.mp hx
              exact low_name (e4 z hz)
        | _ =>
          refine ⟨_, at_0, _, rfl, fun _ => ?_, fun n => (n (by decide)).elim⟩
          exact hR false (iff_of_false (by decide) (no fun w e => by cases e))
  | obj _ _ => cases hd.1
  | dk => cases hd.1
  | opq _ => cases hd.1
  | _ =>
    refine ⟨_, rfl, fun _ => ⟨fun _ => hR false (iff_of_false (by decide) ?_), fun n => absurd trivial n⟩, fun n => (n (by decide)).elim⟩
    rintro ⟨w, n, ns, e, _⟩
    cases e
end
end K25
namespace K25
open PySem PySem.Spec PyProof.Rows L2 EL PH
section
variable {P : Program} {w : World} {K : PySem.W.Frag} {mg : Str → Option Value} {base : Heap}
abbrev GT_is_saying (P : Program) (w : World) (base : Heap) (T : Tops K w mg) : Prop := FnOk P w K mg base CX0 3 T.f_is_saying T.d_is_saying ["sketch", "thing"] (spD K cl0 Deck 0 2 FSay)
theorem ok_is_saying (T : Tops K w mg) (G_is_saying_by_form : GT_is_saying_by_form P w base T) (G_sorts_by_name : GT_sorts_by_name P w base T) (G_fits_place : GT_fits_place P w base T) : GT_is_saying P w base T := by
  refine Fun.ok T.N_is_saying.F sc_is_saying (spD_len rfl) fun cdv A outer s H vs Q E hr h => bodyD (K := K) h (fun dk G xc DkAt hx hB => (ss_cons (s_if (b_not (b_val (d_call hB (pe_call G_is_saying_by_form (hr.mono (by decide)) rfl T.N_is_saying_by_form.m T.N_is_saying_by_form.F.kp T.N_is_saying_by_form.b .nil pass0 (a_cons (d_var 1 (pv 1)) a_nil))))) (ss_one (s_ret d_bl)) ss_nil)
    (ss_cons (s_set (i := 2) (ps_set (i := 2) sc_is_saying.nd rfl (Or.inr rfl) (d_call hB (pe_call G_sorts_by_name (hr.mono (by decide)) rfl T.N_sorts_by_name.m T.N_sorts_by_name.F.kp T.N_sorts_by_name.b .nil pass0 (a_cons (d_var 0 (pv 0)) a_nil)))))
    (ss_one (s_ret (d_cb (ok_all rfl) (pe_callB (cr_all rfl) (by rfl) T.z_all (by decide +kernel) (a_cons (d_f (f_lc (pe_lc (own := [("at", 3), ("name", 4)]) rfl sc_is_saying.nd (i_enumB (pi_enumA rfl T.z_enumerate (a_cons (d_sl rfl (pe_slice sl_D (d_var 1 (pv 1)) (o_some d_int) o_none)) a_nil))) (blkOk_by (own := [("at", 3), ("name", 4)]) (N := N_sc_is_saying) (sc := defScope s_is_saying) (by decide +kernel)) (fun _ _ _ _ _ => gx (vs := [3, 4]) fun _ => (g_tup (bl_cons tame_n (bl_cons tame_n bl_nil)) (pg_tup (n := 2) rfl (gs_cons (g_name (vs := [3, 4]) (pg_name (i := 3) sc_is_saying.nd rfl (Or.inl rfl))) (gs_cons (g_name (vs := [3, 4]) (pg_name (i := 4) sc_is_saying.nd rfl (Or.inl rfl))) (gs_nil (vs := [3, 4])) (pgs_cons (g_name (vs := [3, 4]) (pg_name (i := 4) sc_is_saying.nd rfl (Or.inl rfl))) (gs_nil (vs := [3, 4])))) (pgs_cons (g_name (vs := [3, 4]) (pg_name (i := 3) sc_is_saying.nd rfl (Or.inl rfl))) (gs_cons (g_name (vs := [3, 4]) (pg_name (i := 4) sc_is_saying.nd rfl (Or.inl rfl))) (gs_nil (vs := [3, 4])) (pgs_cons (g_name (vs := [3, 4]) (pg_name (i := 4) sc_is_saying.nd rfl (Or.inl rfl))) (gs_nil (vs := [3, 4]))))))))) (fun _ _ _ _ _ => bx_yes) (fun _ _ _ _ _ => dx fun h0 => (d_call (hB.withH h0) (pe_call G_fits_place (hr.mono (by decide)) rfl T.N_fits_place.m T.N_fits_place.F.kp T.N_fits_place.b .nil pass0 (a_cons (d_item rfl (d_var 1 (pv 1)) d_int (fun _ _ => rfl)) (a_cons (d_var 3 (pv 3)) (a_cons (d_dgetO (pe_dget1 (hu_of hr) (d_var 2 (pv 2)) (d_var 4 (pv 4)) ⟨rfl, rfl, rfl, rfl⟩)) a_nil))))))))) a_nil)))))))) ?_
  rintro _ R xc - ⟨L, d, rfl, hL, hd, hR⟩
  refine ⟨rfl, d, rfl, hd, fun b hb => ⟨fun hp => hR false (iff_of_false (by decide) ?_), fun hp => ?_⟩⟩
  · rintro ⟨w, n, ns, e, e2, e3, e4⟩
    refine hp (hb.mpr ⟨w, n, ns, e, e2, e3, fun z hz => ?_⟩)
    obtain ⟨k, hk⟩ := List.getElem?_of_mem hz
    have h := e4 k z hk
    cases q : sortAt L z with
    | none =>
      rw [q] at h
      unfold fitB at h
      split at h <;> exact absurd h (by decide)
    | some s =>
      unfold sortAt at q
      cases q2 : L.find? (fun t => decide (t.nm = z)) with
      | none => rw [q2] at q; cases q
      | some t =>
        have h1 := List.mem_of_find?_eq_some q2
        have h2 := List.find?_some q2
        have h2 : t.nm = z := of_decide_eq_true h2
        exact h2 ▸ hL.low t h1
  · obtain ⟨w, n, ns, rfl, hn, hl, hlow⟩ := hb.mp (Decidable.not_not.mp hp)
    have hcut : EL.cutD (D.str w :: ns.map D.str) (some 1) none = ns.map D.str := cutD_from 1
    obtain ⟨hl1, _⟩ := hd.2 _ rfl
    refine ⟨rfl, L, rfl, hL, ?_⟩
    refine ⟨(by show (enumD (EL.cutD (D.str w :: ns.map D.str) (some 1) none)).length ≤ 1000000; rw [hcut, enum_strs, List.length_map, List.length_zipIdx]; have : (ns.map D.str).length + 1 ≤ 1000 := hl1; rw [List.length_map] at this; omega), ?_⟩
    show lcD _ _ _ _ (enumD (EL.cutD (D.str w :: ns.map D.str) (some 1) none)) [] _ _
    rw [hcut, enum_strs]
    refine lc_filt (fun p : Str × Nat => D.tup [.int (p.2 : Nat), .str p.1]) (fun p => .bl (fitB n p.2 (sortAt L p.1))) (fun _ => true) (ns.zipIdx 0) ?_ (ns.zipIdx 0) [] _ (fun _ h => h) ?_
    · intro p hp R R' k1 k2
      refine ⟨fun _ => ⟨_, at_0, ⟨_, rfl⟩, rfl, w, n, p.2, sortAt L p.1, ?_, hn, k1 rfl _ rfl⟩, fun n => absurd trivial n⟩
      rw [← get_kvS]
    · rw [List.nil_append, List.filter_eq_self.mpr (fun _ _ => rfl)]
      refine ⟨(ns.zipIdx 0).map fun p => fitB n p.2 (sortAt L p.1), by rw [List.map_map]; rfl, hR _ ?_⟩
      have key : ∀ (k : Nat) (z : Str), (z, k) ∈ ns.zipIdx 0 ↔ ns[k]? = some z := fun k z => by
        have := @List.mem_zipIdx_iff_getElem? _ (z, k) ns
        simpa using this
      constructor
      · intro h
        have h := List.all_eq_true.mp h
        exact ⟨w, n, ns, rfl, hn, hl, fun k z hk => h _ (List.mem_map.mpr ⟨(z, k), (key k z).mpr hk, rfl⟩)⟩
      · rintro ⟨w', n', ns', e, e2, e3, e4⟩
        injection e with e
        injection e with e5 e6
        injection e5 with e5
        have e6 : ns = ns' := by
          have inj : ∀ (a b : List Str), a.map D.str = b.map D.str → a = b := fun a => by
            induction a with
            | nil => intro b h; cases b with
              | nil => rfl
              | cons _ _ => cases h
            | cons x a ih => intro b h; cases b with
              | nil => cases h
              | cons y b =>
                injection h with h1 h2
                injection h1 with h1
                rw [h1, ih b h2]
          exact inj _ _ e6
        subst e5 e6
        rw [hn] at e2
        cases e2
        refine List.all_eq_true.mpr fun b hb => ?_
        obtain ⟨⟨z, k⟩, hz, rfl⟩ := List.mem_map.mp hb
        exact e4 k z ((key k z).mp hz)
end
end K25
namespace K25
open PySem PySem.Spec PyProof.Rows L2 EL PH
def formsK : List (Key × D) := [(.inr "same", .int 2), (.inr "row", .int 3), (.inr "along", .int 4), (.inr "upright", .int 4), (.inr "alike", .int 4), (.inr "angle", .int 6), (.inr "ring", .int 4), (.inr "at", .int 2)]
def FForms : FD := fun ds R _ => ds = [] ∧ R (.dct formsK)
def knownL (σ : Str) (L : List Stp) : List Str := (L.filter fun s => decide (sortOf s.w = σ)).map Stp.nm
def FKnown : FD := fun ds R _ => ∃ (L : List Stp) (σ : Str) (c : D), ds = [c, .str σ] ∧ (c = .tup (L.map Stp.d) ∨ c = .lst (L.map Stp.d)) ∧ L.length ≤ 20 ∧ (σ = "P" ∨ σ = "L" ∨ σ = "C") ∧ R (.lst ((knownL σ L).map D.str))
/-- data whose texts at the top are short -/
def plG (d : D) : Prop := plW d ∧ ∀ xs z, d = .tup xs → D.str z ∈ xs → gd z = true
def FDue : FD := fun ds R _ => ∃ (L : List Stp) (d : D), ds = [.tup (L.map Stp.d), d] ∧ Pln L ∧ plG d ∧ ∀ b : Bool, (b = true ↔ SayS L d) → R (.bl b)
def FRight : FD := fun ds R _ => ∃ (L : List Stp) (d : D), ds = [.tup (L.map Stp.d), d] ∧ Pln L ∧ plG d ∧ showX d ∧ R (.bl true)
theorem sort_P (w : Str) : decide (sortOf w = "P") = !mk w ["line", "along", "upright", "circle"] := by
  unfold sortOf
  by_cases h1 : w = "circle"
  · subst h1; rfl
  · rw [if_neg h1]
    by_cases h2 : mk w ["line", "along", "upright"] = true
    · rw [if_pos h2]
      have : mk w ["line", "along", "upright", "circle"] = true := mk_iff.mpr (by have := mk_iff.mp h2; simp at this ⊢; rcases this with h | h | h <;> simp [h])
      rw [this]
      rfl
    · rw [if_neg h2]
      have : mk w ["line", "along", "upright", "circle"] = false := by
        cases q : mk w ["line", "along", "upright", "circle"] with
        | false => rfl
        | true =>
          have := mk_iff.mp q
          simp [h1] at this
          exact absurd (mk_iff.mpr (by simpa using this)) h2
      rw [this]
      rfl
theorem sort_L (w : Str) : decide (sortOf w = "L") = mk w ["line", "along", "upright"] := by
  unfold sortOf
  by_cases h1 : w = "circle"
  · subst h1; rfl
  · rw [if_neg h1]
    cases h2 : mk w ["line", "along", "upright"] with
    | true => rfl
    | false => rfl
theorem sort_C (w : Str) : decide (sortOf w = "C") = mk w ["circle"] := by
  unfold sortOf
  by_cases h1 : w = "circle"
  · subst h1; rfl
  · rw [if_neg h1]
    have : mk w ["circle"] = false := by
      cases q : mk w ["circle"] with
      | false => rfl
      | true => have := mk_iff.mp q; simp [h1] at this
    rw [this]
    cases h2 : mk w ["line", "along", "upright"] with
    | true => rfl
    | false => rfl
theorem in_t {z : Str} {ns : List Str} {neg : Bool} (h : inDs (.str z) (ns.map D.str) = true ↔ neg = false) : mk z ns = !neg := by
  rw [inDs_str] at h
  cases neg with
  | false => exact h.mpr rfl
  | true =>
    cases q : mk z ns with
    | false => rfl
    | true => exact absurd (h.mp q) (by decide)
theorem in_f {z : Str} {ns : List Str} {neg : Bool} (h : ¬ (inDs (.str z) (ns.map D.str) = true ↔ neg = false)) : mk z ns = neg := by
  rw [inDs_str] at h
  cases neg with
  | false =>
    cases q : mk z ns with
    | false => rfl
    | true => exact absurd ⟨fun _ => rfl, fun _ => q⟩ h
  | true =>
    cases q : mk z ns with
    | true => rfl
    | false => exact absurd ⟨fun h => (by rw [q] at h; cases h), fun h => by cases h⟩ h
theorem okD_lf {ds : List D} (h1 : ∀ d ∈ ds, tm d = true) (h2 : ∀ d ∈ ds, dep d ≤ 0) : okD (.lst ds) := by
  have h3 := deps_le h2
  refine okD_tm (show tms ds = true from tms_all h1) ?_
  show deps ds + 1 ≤ 60
  omega
theorem okD_n : okD (.lst []) := okD_lf (fun _ h => by cases h) (fun _ h => by cases h)
theorem forms_pts (w : Str) : getK (.inr w) formsK = (ptsN w).map fun n => D.int (namesW w n : Nat) := by
  unfold formsK ptsN
  by_cases h1 : w = "same"
  · subst h1; rfl
  by_cases h2 : w = "row"
  · subst h2; rfl
  by_cases h3 : w = "along"
  · subst h3; rfl
  by_cases h4 : w = "upright"
  · subst h4; rfl
  by_cases h5 : w = "alike"
  · subst h5; rfl
  by_cases h6 : w = "angle"
  · subst h6; rfl
  by_cases h7 : w = "ring"
  · subst h7; rfl
  by_cases h8 : w = "at"
  · subst h8; rfl
  rw [if_neg h1, if_neg h2, if_neg h3, if_neg h4, if_neg h5, if_neg h6, if_neg h7, if_neg h8]
  refine getK_ne fun p hp => ?_
  simp only [List.mem_cons, List.not_mem_nil, or_false] at hp
  rcases hp with rfl | rfl | rfl | rfl | rfl | rfl | rfl | rfl <;> (intro e; injection e with e; first | exact h1 e.symm | exact h2 e.symm | exact h3 e.symm | exact h4 e.symm | exact h5 e.symm | exact h6 e.symm | exact h7 e.symm | exact h8 e.symm)
theorem sortOf_mkS (w : Str) : (sortOf w = "P" ↔ mkS w = "point") ∧ (sortOf w = "L" ↔ mkS w = "line") ∧ (sortOf w = "C" ↔ mkS w = "circle") := by
  unfold sortOf mkS
  split
  · decide +kernel
  · split <;> decide +kernel
theorem sortAt_known {L : List Stp} (nd : (L.map Stp.nm).Nodup) {z σ τ : Str} (h : ∀ w, sortOf w = σ ↔ mkS w = τ) : sortAt L z = some τ ↔ z ∈ knownL σ L := by
  unfold sortAt knownL
  constructor
  · intro e
    cases q : L.find? (fun t => decide (t.nm = z)) with
    | none => rw [q] at e; cases e
    | some t =>
      rw [q] at e
      injection e with e
      have h1 := List.mem_of_find?_eq_some q
      have h2 := List.find?_some q
      have h2 : t.nm = z := of_decide_eq_true h2
      exact List.mem_map.mpr ⟨t, List.mem_filter.mpr ⟨h1, decide_eq_true ((h _).mpr e)⟩, h2⟩
  · intro e
    obtain ⟨t, ht, rfl⟩ := List.mem_map.mp e
    obtain ⟨h1, h2⟩ := List.mem_filter.mp ht
    have h2 := (h _).mp (of_decide_eq_true h2)
    cases q : L.find? (fun u => decide (u.nm = t.nm)) with
    | none =>
      have := List.find?_eq_none.mp q t h1
      simp at this
    | some u =>
      have k1 := List.mem_of_find?_eq_some q
      have k2 := List.find?_some q
      have k2 : u.nm = t.nm := of_decide_eq_true k2
      have : u = t := by
        obtain ⟨i, hi, ei⟩ := List.getElem_of_mem k1
        obtain ⟨j, hj, ej⟩ := List.getElem_of_mem h1
        have := (List.getElem_inj (h₀ := by rw [List.length_map]; exact hi) (h₁ := by rw [List.length_map]; exact hj) nd).mp (by rw [List.getElem_map, List.getElem_map, ei, ej, k2])
        subst this
        exact ei.symm.trans ej
      subst this
      show some (mkS u.w) = some τ
      rw [h2]
theorem map_str_inj : ∀ {a b : List Str}, a.map D.str = b.map D.str → a = b
  | [], [], _ => rfl
  | [], _ :: _, h => by cases h
  | _ :: _, [], h => by cases h
  | x :: a, y :: b, h => by
    injection h with h1 h2
    injection h1 with h1
    rw [h1, map_str_inj h2]
theorem say_iff {L : List Stp} {w : Str} {n : Nat} {ns : List Str} (hn : ptsN w = some n) (hl : ns.length = namesW w n) : SayS L (.tup (.str w :: ns.map D.str)) ↔ ∀ (k : Nat) (z : Str), ns[k]? = some z → fitB n k (sortAt L z) = true := by
  constructor
  · rintro ⟨w', n', ns', e, e2, e3, e4⟩
    injection e with e
    injection e with e5 e6
    injection e5 with e5
    have e6 := map_str_inj e6
    subst e5 e6
    rw [hn] at e2
    cases e2
    exact e4
  · exact fun h => ⟨w, n, ns, rfl, hn, hl, h⟩
theorem say_at {L : List Stp} {a b : Str} (nd : (L.map Stp.nm).Nodup) : SayS L (.tup [.str "at", .str a, .str b]) ↔ a ∈ knownL "P" L ∧ (b ∈ knownL "L" L ∨ b ∈ knownL "C" L) := by
  have h := say_iff (L := L) (w := "at") (n := 1) (ns := [a, b]) rfl rfl
  refine (show SayS L (.tup [.str "at", .str a, .str b]) ↔ _ from h).trans ?_
  rw [← sortAt_known nd (τ := "point") fun w => (sortOf_mkS w).1, ← sortAt_known nd (τ := "line") fun w => (sortOf_mkS w).2.1, ← sortAt_known nd (τ := "circle") fun w => (sortOf_mkS w).2.2]
  constructor
  · intro h
    have h0 := h 0 a rfl
    have h1 := h 1 b rfl
    unfold fitB at h0 h1
    rw [if_pos (by decide)] at h0
    rw [if_neg (by decide), Bool.or_eq_true] at h1
    exact ⟨of_decide_eq_true h0, h1.elim (fun h => .inl (of_decide_eq_true h)) fun h => .inr (of_decide_eq_true h)⟩
  · rintro ⟨h0, h1⟩ k z hk
    match k, hk with
    | 0, hk =>
      cases hk
      unfold fitB
      rw [if_pos (by decide)]
      exact decide_eq_true h0
    | 1, hk =>
      cases hk
      unfold fitB
      rw [if_neg (by decide), Bool.or_eq_true]
      exact h1.elim (fun h => .inl (decide_eq_true h)) fun h => .inr (decide_eq_true h)
    | k + 2, hk => simp at hk
theorem say_pts {L : List Stp} {w : Str} {n : Nat} {ns : List Str} (nd : (L.map Stp.nm).Nodup) (hw : ¬ w = "at") (hn : ptsN w = some n) (hl : ns.length = namesW w n) : SayS L (.tup (.str w :: ns.map D.str)) ↔ ∀ z ∈ ns, z ∈ knownL "P" L := by
  rw [say_iff hn hl]
  have hl : ns.length = n := by rw [hl]; unfold namesW; rw [if_neg hw]
  have key : ∀ k z, ns[k]? = some z → (fitB n k (sortAt L z) = true ↔ z ∈ knownL "P" L) := fun k z hk => by
    have hk : k < ns.length := (List.getElem?_eq_some_iff.mp hk).1
    unfold fitB
    rw [if_pos (by omega), decide_eq_true_iff]
    exact sortAt_known nd (τ := "point") fun w => (sortOf_mkS w).1
  constructor
  · intro h z hz
    obtain ⟨k, hk⟩ := List.getElem?_of_mem hz
    exact (key k z hk).mp (h k z hk)
  · intro h k z hk
    exact (key k z hk).mpr (h z (List.mem_of_getElem? hk))
end K25
namespace K25
open PySem PySem.Spec PyProof.Rows L2 EL PH
section
variable {P : Program} {w : World} {K : PySem.W.Frag} {mg : Str → Option Value} {base : Heap}
abbrev GT__law_forms (P : Program) (w : World) (base : Heap) (T : Tops K w mg) : Prop := FnOk P w K mg base CX0 1 T.f__law_forms T.d__law_forms [] (spD K cl0 Deck 0 0 FForms)
theorem ok__law_forms (T : Tops K w mg)  : GT__law_forms P w base T := by
  refine Fun.ok T.N__law_forms.F sc__law_forms (spD_len rfl) fun cdv A outer s H vs Q E hr h => bodyD (K := K) h (fun dk G xc DkAt hx hB => (ss_one (s_ret (d_fd (f_dispP (dp_cons (fun h0 => d_str) (fun h0 => d_int) (dp_cons (fun h0 => d_str) (fun h0 => d_int) (dp_cons (fun h0 => d_str) (fun h0 => d_int) (dp_cons (fun h0 => d_str) (fun h0 => d_int) (dp_cons (fun h0 => d_str) (fun h0 => d_int) (dp_cons (fun h0 => d_str) (fun h0 => d_int) (dp_cons (fun h0 => d_str) (fun h0 => d_int) (dp_cons (fun h0 => d_str) (fun h0 => d_int) dp_nil))))))))))))) ?_
  rintro _ R xc - ⟨rfl, hR⟩
  exact hR
end
end K25
namespace K25
open PySem PySem.Spec PyProof.Rows L2 EL PH
section
variable {P : Program} {w : World} {K : PySem.W.Frag} {mg : Str → Option Value} {base : Heap}
abbrev GT__law_known (P : Program) (w : World) (base : Heap) (T : Tops K w mg) : Prop := FnOk P w K mg base CX0 1 T.f__law_known T.d__law_known ["_law_plan_here", "_law_sort"] (spD K cl0 Deck 0 2 FKnown)
theorem ok__law_known (T : Tops K w mg)  : GT__law_known P w base T := by
  refine Fun.ok T.N__law_known.F sc__law_known (spD_len rfl) fun cdv A outer s H vs Q E hr h => bodyD (K := K) h (fun dk G xc DkAt hx hB => (ss_cons (s_set (i := 2) (ps_set (i := 2) sc__law_known.nd rfl (Or.inr rfl) (d_fd (f_dispP (dp_cons (fun h0 => d_str) (fun h0 => (d_tup (a_cons d_str (a_cons d_str (a_cons d_str a_nil))))) (dp_cons (fun h0 => d_str) (fun h0 => (d_tup (a_cons d_str a_nil))) dp_nil))))))
    (ss_cons (s_if (b_din (hu_of hr) (d_var 1 (pv 1)) (d_var 2 (pv 2))) (ss_one (s_ret (d_f (f_lc (pe_lc (own := [("_law_step", 3)]) rfl sc__law_known.nd (i_seq rfl (d_var 0 (pv 0))) (blkOk_by (own := [("_law_step", 3)]) (N := N_sc__law_known) (sc := defScope s__law_known) (by decide +kernel)) (fun _ _ _ _ _ => gx (vs := [3]) fun _ => (g_name (vs := [3]) (pg_name (i := 3) sc__law_known.nd rfl (Or.inl rfl)))) (fun _ _ _ _ _ => bx_one fun h0 => (b_cmp op_in_seq (ok_inP rfl) (d_item rfl (d_var 3 (pv 3)) d_int (fun _ _ => rfl)) (d_dget (pe_dget (hu_of hr) (d_var 2 (pv 2)) (d_var 1 (pv 1)) (fun _ _ => rfl))) (by rfl))) (fun _ _ _ _ _ => dx fun h0 => (d_item rfl (d_var 3 (pv 3)) d_int (fun _ _ => rfl)))))))) ss_nil)
    (ss_one (s_ret (d_f (f_lc (pe_lc (own := [("_law_step", 3)]) rfl sc__law_known.nd (i_seq rfl (d_var 0 (pv 0))) (blkOk_by (own := [("_law_step", 3)]) (N := N_sc__law_known) (sc := defScope s__law_known) (by decide +kernel)) (fun _ _ _ _ _ => gx (vs := [3]) fun _ => (g_name (vs := [3]) (pg_name (i := 3) sc__law_known.nd rfl (Or.inl rfl)))) (fun _ _ _ _ _ => bx_one fun h0 => (b_cmp op_notIn_seq (ok_inP rfl) (d_item rfl (d_var 3 (pv 3)) d_int (fun _ _ => rfl)) (d_add rfl (d_dget (pe_dget (hu_of hr) (d_var 2 (pv 2)) d_str (fun _ _ => rfl))) (d_dget (pe_dget (hu_of hr) (d_var 2 (pv 2)) d_str (fun _ _ => rfl)))) (by rfl))) (fun _ _ _ _ _ => dx fun h0 => (d_item rfl (d_var 3 (pv 3)) d_int (fun _ _ => rfl))))))))))) ?_
  rintro _ R xc - ⟨L, σ, c, rfl, hc, hl, hσ, hR⟩
  repeat (refine ⟨Nat.le_of_ble_eq_true rfl, ?_⟩)
  have hlm : (L.map Stp.d).length ≤ 1000000 := by rw [List.length_map]; omega
  have comp : ∀ {tt : DB} {te : DT} {γ0 : Gm} {R2 : List D → Gm → Prop}, (∀ s ∈ L, ∀ (R : D → Gm → Prop) (R' : Gm → Prop), (decide (sortOf s.w = σ) = true → ∀ γ', wipeS γ' [3] = γ0 → R (.str s.nm) γ') → (decide (sortOf s.w = σ) = false → ∀ γ', wipeS γ' [3] = γ0 → R' γ') →
      bN 3 s.d γ0 fun γ2 => tt γ2 fun p γ3 => (p → te γ3 R) ∧ (¬p → R' γ3)) → R2 ((knownL σ L).map D.str) (wipeS γ0 [3]) → lcD (bN 3) tt te [3] (L.map Stp.d) [] γ0 R2 := fun step fin => by
    refine lc_filt Stp.d (fun s => .str s.nm) (fun s => decide (sortOf s.w = σ)) L step L [] _ (fun _ h => h) ?_
    rw [List.nil_append]
    unfold knownL at fin
    rw [List.map_map] at fin
    exact fin
  rcases hσ with rfl | rfl | rfl
  · rcases hc with rfl | rfl
    · exact ⟨fun h => absurd (h.mpr rfl) (by decide +kernel), fun _ => ⟨hlm, comp (fun s hs R R' k1 k2 => ⟨_, at_0, _, rfl, _, rfl, Nat.le_of_ble_eq_true rfl, ⟨rfl, rfl⟩, fun hp => ⟨_, at_1, k1 (by rw [sort_P, in_t (ns := ["line", "along", "upright", "circle"]) hp]; rfl) _ rfl⟩, fun hp => k2 (by rw [sort_P, in_f (ns := ["line", "along", "upright", "circle"]) hp]; rfl) _ rfl⟩) hR⟩⟩
    · exact ⟨fun h => absurd (h.mpr rfl) (by decide +kernel), fun _ => ⟨hlm, comp (fun s hs R R' k1 k2 => ⟨_, at_0, _, rfl, _, rfl, Nat.le_of_ble_eq_true rfl, ⟨rfl, rfl⟩, fun hp => ⟨_, at_1, k1 (by rw [sort_P, in_t (ns := ["line", "along", "upright", "circle"]) hp]; rfl) _ rfl⟩, fun hp => k2 (by rw [sort_P, in_f (ns := ["line", "along", "upright", "circle"]) hp]; rfl) _ rfl⟩) hR⟩⟩
  · rcases hc with rfl | rfl
    · exact ⟨fun _ => ⟨hlm, comp (fun s hs R R' k1 k2 => ⟨_, at_0, _, rfl, ⟨rfl, rfl⟩, fun hp => ⟨_, at_1, k1 (by rw [sort_L, in_t (ns := ["line", "along", "upright"]) hp]; rfl) _ rfl⟩, fun hp => k2 (by rw [sort_L, in_f (ns := ["line", "along", "upright"]) hp]) _ rfl⟩) hR⟩, fun h => absurd (iff_of_true (by decide +kernel) rfl) h⟩
    · exact ⟨fun _ => ⟨hlm, comp (fun s hs R R' k1 k2 => ⟨_, at_0, _, rfl, ⟨rfl, rfl⟩, fun hp => ⟨_, at_1, k1 (by rw [sort_L, in_t (ns := ["line", "along", "upright"]) hp]; rfl) _ rfl⟩, fun hp => k2 (by rw [sort_L, in_f (ns := ["line", "along", "upright"]) hp]) _ rfl⟩) hR⟩, fun h => absurd (iff_of_true (by decide +kernel) rfl) h⟩
  · rcases hc with rfl | rfl
    · exact ⟨fun _ => ⟨hlm, comp (fun s hs R R' k1 k2 => ⟨_, at_0, _, rfl, ⟨rfl, rfl⟩, fun hp => ⟨_, at_1, k1 (by rw [sort_C, in_t (ns := ["circle"]) hp]; rfl) _ rfl⟩, fun hp => k2 (by rw [sort_C, in_f (ns := ["circle"]) hp]) _ rfl⟩) hR⟩, fun h => absurd (iff_of_true (by decide +kernel) rfl) h⟩
    · exact ⟨fun _ => ⟨hlm, comp (fun s hs R R' k1 k2 => ⟨_, at_0, _, rfl, ⟨rfl, rfl⟩, fun hp => ⟨_, at_1, k1 (by rw [sort_C, in_t (ns := ["circle"]) hp]; rfl) _ rfl⟩, fun hp => k2 (by rw [sort_C, in_f (ns := ["circle"]) hp]) _ rfl⟩) hR⟩, fun h => absurd (iff_of_true (by decide +kernel) rfl) h⟩
end
end K25
namespace K25
open PySem PySem.Spec PyProof.Rows L2 EL PH
section
variable {P : Program} {w : World} {K : PySem.W.Frag} {mg : Str → Option Value} {base : Heap}
abbrev GT__law_due (P : Program) (w : World) (base : Heap) (T : Tops K w mg) : Prop := FnOk P w K mg base CX0 2 T.f__law_due T.d__law_due ["_law_plan_here", "_law_it"] (spD K cl0 Deck 0 2 FDue)
theorem ok__law_due (T : Tops K w mg) (G__law_forms : GT__law_forms P w base T) (G__law_known : GT__law_known P w base T) : GT__law_due P w base T := by
  refine Fun.ok T.N__law_due.F sc__law_due (spD_len rfl) fun cdv A outer s H vs Q E hr h => bodyD (K := K) h (fun dk G xc DkAt hx hB => (ss_cons (s_if (PW.pt (bw_or (b_not (b_val (d_cb (ok_isi rfl kt_tuple) (pe_callB (call_isiB (T := "tuple")) (by rfl) T.z_isinstance (by decide +kernel) (a_cons (d_var 1 (pv 1)) (a_cons (d_opq (pe_bltn (by rfl) T.z_tuple (by decide +kernel) (show RelV (.ty "tuple") (.type "tuple") from rfl))) a_nil)))))) (bw_or (b_cmp (op_eqT0 hr) (ok_eqT0 rfl) (d_var 1 (pv 1)) (d_tup a_nil) (nomark _)) (bw_or1 (b_not (b_val (d_cb (ok_isi rfl kt_str) (pe_callB (call_isiB (T := "str")) (by rfl) T.z_isinstance (by decide +kernel) (a_cons (d_item rfl (d_var 1 (pv 1)) d_int (fun _ _ => rfl)) (a_cons (d_opq (pe_bltn (by rfl) T.z_str (by decide +kernel) (show RelV (.ty "str") (.type "str") from rfl))) a_nil)))))))))) (ss_one (s_ret d_bl)) ss_nil)
    (ss_cons (s_if (PW.pt (bw_or (b_cmp (op_nePP hr.units) (ok_neP rfl) (d_dget2 (pe_dget2 (hu_of hr) (d_call0 hB (pe_call0 G__law_forms (hr.mono (by decide)) rfl T.N__law_forms.m T.N__law_forms.F.kp T.N__law_forms.b .nil pass0)) (d_item rfl (d_var 1 (pv 1)) d_int (fun _ _ => rfl)) (d_neg d_int) ⟨rfl, rfl, rfl, rfl⟩)) (d_sub (d_cb (ok_len rfl) (pe_callB call_lenD (by rfl) T.z_len (by decide +kernel) (a_cons (d_var 1 (pv 1)) a_nil))) d_int) (nomark _)) (bw_or1 (b_cmp (op_nePP hr.units) (ok_neP rfl) (d_f (f_lc (pe_lc (own := [("_law_one", 4)]) rfl sc__law_due.nd (i_seq rfl (d_var 1 (pv 1))) (blkOk_by (own := [("_law_one", 4)]) (N := N_sc__law_due) (sc := defScope s__law_due) (by decide +kernel)) (fun _ _ _ _ _ => gx (vs := [4]) fun _ => (g_name (vs := [4]) (pg_name (i := 4) sc__law_due.nd rfl (Or.inl rfl)))) (fun _ _ _ _ _ => bx_one fun h0 => (b_not (b_val (d_cb (ok_isi rfl kt_str) (pe_callB (call_isiB (T := "str")) (by rfl) T.z_isinstance (by decide +kernel) (a_cons (d_var 4 (pv 4)) (a_cons (d_opq (pe_bltn (by rfl) T.z_str (by decide +kernel) (show RelV (.ty "str") (.type "str") from rfl))) a_nil))))))) (fun _ _ _ _ _ => dx fun h0 => d_int)))) (d_f (f_lst a_nil)) (nomark _))))) (ss_one (s_ret d_bl)) ss_nil)
    (ss_cons (s_set (i := 2) (ps_set (i := 2) sc__law_due.nd rfl (Or.inr rfl) (d_call hB (pe_call G__law_known (hr.mono (by decide)) rfl T.N__law_known.m T.N__law_known.F.kp T.N__law_known.b .nil pass0 (a_cons (d_var 0 (pv 0)) (a_cons d_str a_nil))))))
    (ss_cons (s_set (i := 3) (ps_set (i := 3) sc__law_due.nd rfl (Or.inl rfl) (d_sl rfl (pe_slice sl_D (d_var 1 (pv 1)) (o_some d_int) o_none))))
    (ss_cons (s_if (b_cmp (op_eqPP hr.units) (ok_eqP rfl) (d_item rfl (d_var 1 (pv 1)) d_int (fun _ _ => rfl)) d_str (nomark _)) (ss_one (s_ret (d_and (d_cmp op_in_seq (ok_inP rfl) (d_item rfl (d_var 3 (pv 3)) d_int (fun _ _ => rfl)) (d_var 2 (pv 2)) (by rfl)) (d_one (d_cmp op_in_seq (ok_inP rfl) (d_item rfl (d_var 3 (pv 3)) d_int (fun _ _ => rfl)) (d_add rfl (d_call hB (pe_call G__law_known (hr.mono (by decide)) rfl T.N__law_known.m T.N__law_known.F.kp T.N__law_known.b .nil pass0 (a_cons (d_var 0 (pv 0)) (a_cons d_str a_nil)))) (d_call hB (pe_call G__law_known (hr.mono (by decide)) rfl T.N__law_known.m T.N__law_known.F.kp T.N__law_known.b .nil pass0 (a_cons (d_var 0 (pv 0)) (a_cons d_str a_nil))))) (by rfl)))))) ss_nil)
    (ss_one (s_ret (d_cmp (op_eqPP hr.units) (ok_eqP rfl) (d_f (f_lc (pe_lc (own := [("_law_one", 4)]) rfl sc__law_due.nd (i_seq rfl (d_var 3 (pv 3))) (blkOk_by (own := [("_law_one", 4)]) (N := N_sc__law_due) (sc := defScope s__law_due) (by decide +kernel)) (fun _ _ _ _ _ => gx (vs := [4]) fun _ => (g_name (vs := [4]) (pg_name (i := 4) sc__law_due.nd rfl (Or.inl rfl)))) (fun _ _ _ _ _ => bx_one fun h0 => (b_cmp op_notIn_seq (ok_inP rfl) (d_var 4 (pv 4)) (d_var 2 (pv 2)) (by rfl))) (fun _ _ _ _ _ => dx fun h0 => (d_var 4 (pv 4)))))) (d_f (f_lst a_nil)) (nomark _)))))))))) ?_
  rintro _ R xc - ⟨L, d, rfl, hL, ⟨⟨hd, hx⟩, hg⟩, hR⟩
  cases d with
  | tup xs =>
    obtain ⟨hl, hxs⟩ := hx xs rfl
    refine ⟨_, rfl, fun h => (h rfl).elim, fun _ => ⟨Nat.zero_le _, fun hp => ?_, fun hp => ?_⟩⟩
    · refine ⟨fun _ => hR false (iff_of_false (by decide) ?_), fun n => absurd trivial n⟩
      rintro ⟨w, n, ns, e, _⟩
      cases e
      cases hp
    · cases xs with
      | nil => exact absurd rfl hp
      | cons x r =>
        have no : (∀ w, x ≠ .str w) → ¬ SayS L (.tup (x :: r)) := fun h ⟨w, n, ns, e, _⟩ => by
          cases e
          exact h w rfl
        have hx0 := hxs x List.mem_cons_self
        cases x with
        | obj _ _ => cases hx0.1
        | dk => cases hx0.1
        | opq _ => cases hx0.1
        | str w =>
          refine ⟨_, at_0, _, rfl, fun h => (h rfl).elim, fun _ => ?_⟩
          refine ⟨rfl, rfl, ⟨_, rfl⟩, _, at_0, fun c hc => ?_, fun hc => ?_⟩
          rotate_left
          · rw [forms_pts] at hc
            refine ⟨fun _ => ⟨fun _ => hR false (iff_of_false (by decide) ?_), fun n => absurd trivial n⟩, fun hp => ?_⟩
            · rintro ⟨w', n, ns, e, e2, _⟩
              cases e
              rw [e2] at hc
              cases hc
            · exfalso
              refine hp ?_
              show ¬ ((-1 : Int) = ((r.length + 1 : Nat) : Int) - 1)
              omega
          rw [forms_pts] at hc
          obtain ⟨n, hn⟩ : ∃ n, ptsN w = some n := by
            cases q : ptsN w with
            | some n => exact ⟨n, rfl⟩
            | none => rw [q] at hc; cases hc
          rw [hn] at hc
          injection hc with hc
          subst hc
          refine ⟨fun hp => ⟨fun _ => hR false (iff_of_false (by decide) ?_), fun n => absurd trivial n⟩, fun hp => ?_⟩
          · rintro ⟨w', n', ns, e, e2, e3, _⟩
            cases e
            rw [hn] at e2
            cases e2
            refine hp ?_
            show ((namesW w n : Nat) : Int) = ((List.map D.str ns).length + 1 : Nat) - (1 : Int)
            rw [List.length_map, e3]
            omega
          have hp : ((namesW w n : Nat) : Int) = ((r.length + 1 : Nat) : Int) - 1 := Decidable.not_not.mp hp
          have hlr : r.length = namesW w n := by omega
          refine ⟨(by show r.length + 1 ≤ 1000000; have : r.length + 1 ≤ 1000 := hl; omega), ?_⟩
          suffices hh : lcD (bN 4) (bNot (bVal (dCB (isiB "str") (aCons (dVar 4) (aCons (dC (D.opq (V.ty "str"))) aNil))))) (dC (D.int 1)) [4] ((D.str w :: r).map id) [] _ _ by rw [List.map_id] at hh; exact hh
          refine lc_filt id (fun _ => .int 1) (fun x => !isStr x) (D.str w :: r) ?_ (D.str w :: r) [] _ (fun _ h => h) ?_
          · intro x hx R R' k1 k2
            have h0 := hxs x hx
            cases x with
            | obj _ _ => cases h0.1
            | dk => cases h0.1
            | opq _ => cases h0.1
            | str z => exact ⟨_, rfl, fun h => (h rfl).elim, fun _ => k2 rfl _ rfl⟩
            | _ => exact ⟨_, rfl, fun _ => k1 rfl _ rfl, fun n => (n (by decide)).elim⟩
          rw [List.nil_append]
          refine ⟨Nat.zero_le _, ⟨okD_lf (fun d hd => ?_) (fun d hd => ?_), okD_n⟩, fun hp => hR false (iff_of_false (by decide) ?_), fun hp => ?_⟩
          · obtain ⟨_, _, rfl⟩ := List.mem_map.mp hd
            rfl
          · obtain ⟨_, _, rfl⟩ := List.mem_map.mp hd
            exact Nat.le_refl _
          · rintro ⟨w', n', ns, e, _⟩
            refine hp (eqD_nil.mpr ?_)
            rw [List.map_eq_nil_iff, List.filter_eq_nil_iff]
            intro x hx
            injection e with e
            rw [e] at hx
            rcases List.mem_cons.mp hx with rfl | hx
            · exact fun h => nomatch h
            · obtain ⟨z, _, rfl⟩ := List.mem_map.mp hx
              exact fun h => nomatch h
          have hp := eqD_nil.mp (Decidable.not_not.mp hp)
          rw [List.map_eq_nil_iff, List.filter_eq_nil_iff] at hp
          obtain ⟨ns, rfl, hns⟩ : ∃ ns : List Str, r = ns.map D.str ∧ ∀ z ∈ ns, gd z = true := strs_of fun x hx => by
            have h1 := hp x (List.mem_cons_of_mem _ hx)
            cases x with
            | str z => exact ⟨z, rfl, hg _ z rfl (List.mem_cons_of_mem _ hx)⟩
            | _ => exact absurd rfl h1
          rw [List.length_map] at hlr
          have hcut : EL.cutD (D.str w :: ns.map D.str) (some 1) none = ns.map D.str := cutD_from 1
          refine ⟨rfl, L, _, _, rfl, .inl rfl, (by have := hL.len; omega), .inl rfl, ?_⟩
          refine ⟨_, at_0, fun hw => ?_, fun hw => ?_⟩
          · have hw : w = "at" := hw
            subst hw
            have h1 : n = 1 := by
              have : some 1 = some n := hn
              injection this with this
              exact this.symm
            subst h1
            obtain ⟨a, b, rfl⟩ : ∃ a b, ns = [a, b] := by
              have hlr : ns.length = 2 := hlr
              match ns, hlr with
              | [a, b], _ => exact ⟨a, b, rfl⟩
            rw [hcut]
            refine ⟨_, at_0, ⟨rfl, flat_strs _⟩, fun b1 hb1 => ⟨fun h1 => ?_, fun h1 => ?_⟩⟩
            · have lP := fun σ => List.length_filter_le (fun s : Stp => decide (sortOf s.w = σ)) L
              have ll : ∀ σ, ((knownL σ L).map D.str).length ≤ 14 := fun σ => by
                unfold knownL
                rw [List.length_map, List.length_map]
                exact Nat.le_trans (lP σ) hL.len
              refine ⟨_, at_1, rfl, L, _, _, rfl, .inl rfl, (by have := hL.len; omega), .inr (.inl rfl), rfl, L, _, _, rfl, .inl rfl, (by have := hL.len; omega), .inr (.inr rfl), (by have h1 := ll "L"; have h2 := ll "C"; omega), ⟨rfl, by rw [List.all_append, flat_strs, flat_strs]; rfl⟩, fun b2 hb2 => hR b2 ?_⟩
              refine hb2.trans ?_
              rw [← List.map_append, inDs_str, mk_iff, List.mem_append]
              refine Iff.trans ?_ (say_at hL.nd).symm
              have := hb1.mp h1
              rw [inDs_str, mk_iff] at this
              simp only [iff_true] at this ⊢
              exact ⟨fun h => ⟨this, h⟩, fun h => h.2⟩
            · refine hR false (iff_of_false (by decide) fun h => ?_)
              have h := ((say_at hL.nd).mp h).1
              have : b1 = true := hb1.mpr (by rw [inDs_str, mk_iff]; exact iff_of_true h rfl)
              rw [h1] at this
              cases this
          · have hw : ¬ w = "at" := hw
            rw [hcut]
            refine ⟨(by show (ns.map D.str).length ≤ 1000000; have : (ns.map D.str).length + 1 ≤ 1000 := hl; omega), ?_⟩
            show lcD _ _ _ _ (ns.map D.str) [] _ _
            refine lc_filt D.str D.str (fun z => !mk z (knownL "P" L)) ns ?_ ns [] _ (fun _ h => h) ?_
            · intro z hz R R' k1 k2
              exact ⟨⟨rfl, flat_strs _⟩, fun hq => k1 (by rw [in_t hq]; rfl) _ rfl, fun hq => k2 (by rw [in_f hq]; rfl) _ rfl⟩
            · rw [List.nil_append]
              refine ⟨Nat.zero_le _, ⟨okD_lf (fun d hd => ?_) (fun d hd => ?_), okD_n⟩, fun b hb => hR b (hb.trans (eqD_nil.trans ?_))⟩
              · obtain ⟨z, hz, rfl⟩ := List.mem_map.mp hd
                exact hns z (List.mem_filter.mp hz).1
              · obtain ⟨z, hz, rfl⟩ := List.mem_map.mp hd
                exact Nat.le_refl _
              rw [List.map_eq_nil_iff, List.filter_eq_nil_iff, say_pts hL.nd hw hn hlr]
              constructor
              · intro h z hz
                have := h z hz
                simp at this
                exact mk_iff.mp this
              · intro h z hz
                rw [mk_iff.mpr (h z hz)]
                decide
        | _ =>
          refine ⟨_, at_0, _, rfl, fun _ => ?_, fun n => (n (by decide)).elim⟩
          exact hR false (iff_of_false (by decide) (no fun w e => by cases e))
  | obj _ _ => cases hd.1
  | dk => cases hd.1
  | opq _ => cases hd.1
  | _ =>
    refine ⟨_, rfl, fun _ => ⟨fun _ => hR false (iff_of_false (by decide) ?_), fun n => absurd trivial n⟩, fun n => (n (by decide)).elim⟩
    rintro ⟨w, n, ns, e, _⟩
    cases e
end
end K25
namespace K25
open PySem PySem.Spec PyProof.Rows L2 EL PH
section
variable {P : Program} {w : World} {K : PySem.W.Frag} {mg : Str → Option Value} {base : Heap}
theorem kb_is_saying_thing_sketch (T : Tops K w mg) : KBinds K T.d_is_saying ["sketch", "thing"] ["thing", "sketch"] (fun us ws => us ++ ws.reverse) (fun vs zs => vs ++ zs.reverse) :=
  kb_rev T.N_is_saying.F fun kV doc pm an cdv ct us ws hl => by
    rcases us with _ | ⟨a, _ | ⟨b, _ | ⟨c, u⟩⟩⟩ <;> rcases ws with _ | ⟨x, _ | ⟨y, _ | ⟨z, v⟩⟩⟩ <;> first | rfl | (exfalso; simp at hl; done) | (exfalso; simp at hl; omega)
end
end K25
namespace K25
open PySem PySem.Spec PyProof.Rows L2 EL PH
section
variable {P : Program} {w : World} {K : PySem.W.Frag} {mg : Str → Option Value} {base : Heap}
abbrev GT__law_right (P : Program) (w : World) (base : Heap) (T : Tops K w mg) : Prop := PH.FnG P w K mg base CX0 4 T.f__law_right T.d__law_right ["_law_plan_here", "_law_it"] (spD K cl0 Deck 0 2 FRight)
theorem ok__law_right (T : Tops K w mg) (G_is_saying : GT_is_saying P w base T) (G__law_due : GT__law_due P w base T) : GT__law_right P w base T := by
  refine Fun.okG T.N__law_right.F sc__law_right (spD_len rfl) fun cdv A outer s H vs Q E hg hr h => bodyD (K := K) h (fun dk G xc DkAt hx hB => (ss_cons (s_set (i := 2) (ps_set (i := 2) sc__law_right.nd rfl (Or.inl rfl) (d_cb (ok_reprX rfl) (pe_callB (cr_reprX hg hr) (by rfl) T.z_repr (by decide +kernel) (a_cons (d_var 1 (pv 1)) a_nil)))))
    (ss_cons (s_set (i := 3) (ps_set (i := 3) sc__law_right.nd rfl (Or.inl rfl) (d_f (f_lst (a_cons (d_call hB (pe_call G_is_saying (hr.mono (by decide)) rfl T.N_is_saying.m T.N_is_saying.F.kp T.N_is_saying.b .nil pass0 (a_cons (d_var 0 (pv 0)) (a_cons (d_var 1 (pv 1)) a_nil)))) (a_cons (d_callKwc (cc := 0) rfl hB puts_rev (pe_callKw G_is_saying (hr.mono (by decide)) rfl T.N_is_saying.m T.N_is_saying.F.kp (kb_is_saying_thing_sketch T) pass0 (k_cons (d_var 1 (pv 1)) (k_cons (d_var 0 (pv 0)) k_nil)))) a_nil))))))
    (ss_one (s_ret (d_and (d_cmp (op_eqPP hr.units) (ok_eqP rfl) (d_cb (ok_reprX rfl) (pe_callB (cr_reprX hg hr) (by rfl) T.z_repr (by decide +kernel) (a_cons (d_var 3 (pv 3)) a_nil))) (d_cb (ok_reprX rfl) (pe_callB (cr_reprX hg hr) (by rfl) T.z_repr (by decide +kernel) (a_cons (d_mul (d_f (f_lst (a_cons (d_call hB (pe_call G__law_due (hr.mono (by decide)) rfl T.N__law_due.m T.N__law_due.F.kp T.N__law_due.b .nil pass0 (a_cons (d_var 0 (pv 0)) (a_cons (d_var 1 (pv 1)) a_nil)))) a_nil))) d_int) a_nil))) (nomark _)) (d_one (d_cmp (op_eqPP hr.units) (ok_eqP rfl) (d_cb (ok_reprX rfl) (pe_callB (cr_reprX hg hr) (by rfl) T.z_repr (by decide +kernel) (a_cons (d_var 1 (pv 1)) a_nil))) (d_var 2 (pv 2)) (nomark _))))))))) ?_
  rintro _ R xc - ⟨L, d, rfl, hL, hd, hs, hR⟩
  have h2 : ∀ a b : Bool, showX (.lst [.bl a, .bl b]) := fun a b => (showX_of (showOk_tm rfl (by show max 0 (max 0 0) + 1 ≤ 60; decide) (by show 0 + 1 + (0 + 1 + 0) ≤ 90000; decide))).1
  obtain ⟨due, hdue⟩ : ∃ due : Bool, (due = true ↔ SayS L d) := by
    by_cases h : SayS L d
    · exact ⟨true, iff_of_true rfl h⟩
    · exact ⟨false, iff_of_false (by decide) h⟩
  have eqd : ∀ {b : Bool}, (b = true ↔ SayS L d) → b = due := fun h => by rw [Bool.eq_iff_iff]; exact h.trans hdue.symm
  refine ⟨hs, rfl, L, d, rfl, hL, hd.1, fun b1 hb1 => ⟨rfl, by show 0 + 0 ≤ 0; decide, L, d, rfl, hL, hd.1, fun b2 hb2 => ⟨by show 2 ≤ 1000000; decide, h2 _ _, rfl, L, d, rfl, hL, hd, fun b3 hb3 => ?_⟩⟩⟩
  have e1 := eqd hb1
  have e2 := eqd hb2
  have e3 := eqd hb3
  subst e1 e2 e3
  refine ⟨by show 1 ≤ 1000000; decide, ⟨by decide, by decide, by show 1 * 2 ≤ 1000000; decide⟩, h2 _ _, fun b4 hb4 => ?_⟩
  have : b4 = true := hb4.mpr rfl
  subst this
  refine ⟨fun _ => ⟨hs, fun b5 hb5 => ?_⟩, fun h => by cases h⟩
  have : b5 = true := hb5.mpr rfl
  subst this
  exact hR
end
end K25
namespace K25
open PySem PySem.Spec PyProof.Rows L2 EL PH
/-! ### things of any kind -/
def FPick : FD := fun ds R _ => ∃ xs : List D, (ds = [.dk, .lst xs] ∨ ds = [.dk, .tup xs]) ∧ (0 < xs.length ∧ xs.length < 1000000) ∧ ∀ (i : Nat) (x : D), xs[i]? = some x → R x
/-! ### things of any kind, not too great -/
mutual
def kd (m : Nat) : D → Bool
  | .non => true
  | .bl _ => true
  | .int i => decide (i.natAbs ≤ 10 ^ 39 + m)
  | .str z => z.cps.toList.all fun c => decide (c < 128)
  | .tup ds => kds m ds
  | .lst ds => kds m ds
  | .dct kvs => kvs.isEmpty
  | _ => false
def kds (m : Nat) : List D → Bool
  | [] => true
  | d :: ds => kd m d && kds m ds
end
theorem kds_all {m : Nat} : ∀ {ds : List D}, kds m ds = true ↔ ∀ d ∈ ds, kd m d = true
  | [] => ⟨fun _ _ h => (by cases h), fun _ => rfl⟩
  | d :: ds => by
    show (kd m d && kds m ds) = true ↔ _
    rw [Bool.and_eq_true, kds_all (ds := ds)]
    simp
def wx (d : D) : Nat := (pyX d).weight
def wxs (ds : List D) : Nat := PyData.weightAll (pyXs ds)
def dpx (d : D) : Nat := (pyX d).depth
def dpxs (ds : List D) : Nat := PyData.depthAll (pyXs ds)
theorem wxs_cons (d : D) (ds : List D) : wxs (d :: ds) = wx d + 1 + wxs ds := by
  unfold wxs wx
  simp only [pyXs, PyData.weightAll]
theorem dpxs_cons (d : D) (ds : List D) : dpxs (d :: ds) = max (dpx d) (dpxs ds) := by
  unfold dpxs dpx
  simp only [pyXs, PyData.depthAll]
theorem wxs_app : ∀ (a b : List D), wxs (a ++ b) = wxs a + wxs b
  | [], b => by rw [List.nil_append]; show _ = 0 + _; omega
  | d :: a, b => by rw [List.cons_append, wxs_cons, wxs_cons, wxs_app a b]; omega
theorem dpxs_le {n : Nat} : ∀ {ds : List D}, dpxs ds ≤ n ↔ ∀ d ∈ ds, dpx d ≤ n
  | [] => ⟨fun _ _ h => (by cases h), fun _ => Nat.zero_le _⟩
  | d :: ds => by
    rw [dpxs_cons]
    have := dpxs_le (n := n) (ds := ds)
    simp only [List.mem_cons, forall_eq_or_imp]
    rw [← this]
    omega
theorem wx_tup (ds : List D) : wx (.tup ds) = wxs ds := by unfold wx wxs; simp only [pyX, PyData.weight]
theorem wx_lst (ds : List D) : wx (.lst ds) = wxs ds := by unfold wx wxs; simp only [pyX, PyData.weight]
theorem dpx_tup (ds : List D) : dpx (.tup ds) = dpxs ds + 1 := by unfold dpx dpxs; simp only [pyX, PyData.depth]
theorem dpx_lst (ds : List D) : dpx (.lst ds) = dpxs ds + 1 := by unfold dpx dpxs; simp only [pyX, PyData.depth]
theorem wx_str (z : Str) : wx (.str z) = z.length := by unfold wx; simp only [pyX, PyData.weight]; rfl
theorem wxs_len : ∀ ds : List D, ds.length ≤ wxs ds
  | [] => Nat.zero_le _
  | d :: ds => by rw [wxs_cons, List.length_cons]; have := wxs_len ds; omega
theorem wxs_mem : ∀ {ds : List D} {d : D}, d ∈ ds → wx d + 1 ≤ wxs ds
  | c :: ds, d, h => by
    rw [wxs_cons]
    rcases List.mem_cons.mp h with rfl | h
    · omega
    · have := wxs_mem h
      omega
theorem int_small {m : Nat} (hm : m ≤ 100) {i : Int} (h : i.natAbs ≤ 10 ^ 39 + m) : i.natAbs < 10 ^ 45 := by
  have : (10 : Nat) ^ 45 = 10 ^ 39 * 10 ^ 6 := by decide
  have h1 : (1 : Nat) ≤ 10 ^ 39 := by decide
  omega
mutual
theorem kd_ok {m : Nat} (hm : m ≤ 100) : ∀ d : D, kd m d = true → isX d = true ∧ (pyX d).showable = true ∧ PyData.leavesShort 50 (pyX d) = true
  | .non, _ => ⟨rfl, by simp only [pyX, PyData.showable], by simp only [pyX, PyData.leavesShort]⟩
  | .bl b, _ => ⟨rfl, by simp only [pyX, PyData.showable], by simp only [pyX, PyData.leavesShort]⟩
  | .int i, h => by
    have h := int_small hm (of_decide_eq_true (show decide (i.natAbs ≤ 10 ^ 39 + m) = true from h))
    refine ⟨rfl, ?_, ?_⟩
    · simp only [pyX, PyData.showable]
      refine decide_eq_true ?_
      by_cases z : i.natAbs = 0
      · rw [z]; decide
      · have h2 : i.natAbs < 2 ^ 200 := Nat.lt_of_lt_of_le h (by decide)
        have := (Nat.log2_lt z).mpr h2
        omega
    · simp only [pyX, PyData.leavesShort]
      refine decide_eq_true ?_
      simp only [PyData.shown]
      have := PySem.int_text_length_le10 (k := 45) (by decide) h
      rw [PySem.ofString_length]
      omega
  | .str z, h => by
    have h : (z.cps.toList.all fun c => decide (c < 128)) = true := h
    refine ⟨rfl, by simp only [pyX, PyData.showable], ?_⟩
    simp only [pyX, PyData.leavesShort]
    exact List.all_eq_true.mpr fun c hc => decide_eq_true (by have := of_decide_eq_true (List.all_eq_true.mp h c hc); omega)
  | .tup ds, h => by
    obtain ⟨a, b, c⟩ := kds_ok hm ds h
    exact ⟨a, by simp only [pyX, PyData.showable]; exact b, by simp only [pyX, PyData.leavesShort]; exact c⟩
  | .lst ds, h => by
    obtain ⟨a, b, c⟩ := kds_ok hm ds h
    exact ⟨a, by simp only [pyX, PyData.showable]; exact b, by simp only [pyX, PyData.leavesShort]; exact c⟩
  | .dct kvs, h => by
    cases kvs with
    | nil => exact ⟨rfl, by simp [pyX, pyXk, PyData.showable, PyData.showableKv], by simp [pyX, pyXk, PyData.leavesShort, PyData.leavesShortKv]⟩
    | cons _ _ => cases h
  | .obj _ _, h => nomatch h
  | .dk, h => nomatch h
  | .opq _, h => nomatch h
theorem kds_ok {m : Nat} (hm : m ≤ 100) : ∀ ds : List D, kds m ds = true → isXs ds = true ∧ PyData.showableAll (pyXs ds) = true ∧ PyData.leavesShortAll 50 (pyXs ds) = true
  | [], _ => ⟨rfl, by simp only [pyXs, PyData.showableAll], by simp only [pyXs, PyData.leavesShortAll]⟩
  | d :: ds, h => by
    have h : (kd m d && kds m ds) = true := h
    rw [Bool.and_eq_true] at h
    obtain ⟨a, b, c⟩ := kd_ok hm d h.1
    obtain ⟨a', b', c'⟩ := kds_ok hm ds h.2
    refine ⟨by show (isX d && isXs ds) = true; rw [a, a']; rfl, ?_, ?_⟩
    · simp only [pyXs, PyData.showableAll, b, b']; rfl
    · simp only [pyXs, PyData.leavesShortAll, c, c']; rfl
end
theorem showX_kd {m : Nat} (hm : m ≤ 100) {d : D} (h : kd m d = true) (hw : wx d ≤ 15000) (hd : dpx d ≤ 60) : showX d := by
  obtain ⟨a, b, c⟩ := kd_ok hm d h
  refine ⟨a, b, hd, ?_⟩
  have := PyData.shown_le 50 (by decide) (pyX d) c
  have hw : (pyX d).weight ≤ 15000 := hw
  omega
def tl : D → Nat
  | .tup xs => xs.length
  | _ => 0
mutual
theorem kd_mono {m n : Nat} (h : m ≤ n) : ∀ d : D, kd m d = true → kd n d = true
  | .non, _ => rfl
  | .bl _, _ => rfl
  | .int i, k => by
    have k : decide (i.natAbs ≤ 10 ^ 39 + m) = true := k
    have k := of_decide_eq_true k
    show decide (i.natAbs ≤ 10 ^ 39 + n) = true
    exact decide_eq_true (Nat.le_trans k (Nat.add_le_add_left h _))
  | .str _, k => k
  | .tup ds, k => kds_mono h ds k
  | .lst ds, k => kds_mono h ds k
  | .dct _, k => k
  | .obj _ _, k => nomatch k
  | .dk, k => nomatch k
  | .opq _, k => nomatch k
theorem kds_mono {m n : Nat} (h : m ≤ n) : ∀ ds : List D, kds m ds = true → kds n ds = true
  | [], _ => rfl
  | d :: ds, k => by
    have k : (kd m d && kds m ds) = true := k
    rw [Bool.and_eq_true] at k
    show (kd n d && kds n ds) = true
    rw [kd_mono h d k.1, kds_mono h ds k.2]
    rfl
end
theorem wx_int {m : Nat} (hm : m ≤ 100) {i : Int} (h : i.natAbs ≤ 10 ^ 39 + m) : wx (.int i) ≤ 201 := by
  have h := int_small hm h
  unfold wx
  simp only [pyX, PyData.weight]
  split
  · omega
  · rename_i z
    have z : i.natAbs ≠ 0 := fun e => z (by have : i = 0 := by omega
                                            subst this; rfl)
    have := (Nat.log2_lt z).mpr (Nat.lt_of_lt_of_le h (by decide : 10 ^ 45 ≤ 2 ^ 200))
    omega
theorem wxs_td (xs : List D) (a : Nat) : wxs (xs.take a) + wxs (xs.drop a) = wxs xs := by rw [← wxs_app, List.take_append_drop]
theorem wxs_take (xs : List D) (a : Nat) : wxs (xs.take a) ≤ wxs xs := by have := wxs_td xs a; omega
theorem wxs_drop (xs : List D) (a : Nat) : wxs (xs.drop a) ≤ wxs xs := by have := wxs_td xs a; omega
theorem wxs_rev : ∀ xs : List D, wxs xs.reverse = wxs xs
  | [] => rfl
  | x :: xs => by
    rw [List.reverse_cons, wxs_app, wxs_rev xs, wxs_cons, wxs_cons]
    show _ + (wx x + 1 + 0) = _
    omega
theorem dpxs_sub {xs ys : List D} (h : ∀ y ∈ ys, y ∈ xs) : dpxs ys ≤ dpxs xs := dpxs_le.mpr fun y hy => dpxs_le.mp (Nat.le_refl _) y (h y hy)
theorem ix_get {xs : List D} {i : Nat} (h : i < xs.length) : ∃ x, xs[i]? = some x ∧ x ∈ xs := ⟨xs[i], List.getElem?_eq_getElem h, List.getElem_mem h⟩
theorem wxs_le {n : Nat} : ∀ {ds : List D}, (∀ d ∈ ds, wx d ≤ n) → wxs ds ≤ (n + 1) * ds.length
  | [], _ => Nat.zero_le _
  | d :: ds, h => by
    have h1 := h d List.mem_cons_self
    have h2 := wxs_le (n := n) fun c hc => h c (List.mem_cons_of_mem _ hc)
    rw [wxs_cons, List.length_cons, Nat.mul_succ]
    omega
theorem join_mem {S : List Nat} {c : Nat} : ∀ {ls : List (List Nat)}, c ∈ TL.joinL S ls → c ∈ S ∨ ∃ l ∈ ls, c ∈ l
  | [], h => by cases h
  | [p], h => .inr ⟨p, List.mem_singleton.mpr rfl, h⟩
  | p :: q :: r, h => by
    have h : c ∈ p ++ (S ++ TL.joinL S (q :: r)) := h
    rcases List.mem_append.mp h with h | h
    · exact .inr ⟨p, List.mem_cons_self, h⟩
    rcases List.mem_append.mp h with h | h
    · exact .inl h
    · rcases join_mem h with h | ⟨l, hl, h⟩
      · exact .inl h
      · exact .inr ⟨l, List.mem_cons_of_mem _ hl, h⟩
theorem join_cps {y : Str} {ys : List Str} {c : Nat} (h : c ∈ (Txt.join y ys).cps.toList) : c ∈ y.cps.toList ∨ ∃ z ∈ ys, c ∈ z.cps.toList := by
  rw [TL.join_eq] at h
  have h : c ∈ TL.tl (Str.join y ys) := h
  rw [TL.tl_join] at h
  rcases join_mem h with h | ⟨l, hl, h⟩
  · exact .inl h
  · obtain ⟨z, hz, rfl⟩ := List.mem_map.mp hl
    exact .inr ⟨z, hz, h⟩
/-! ### what is shown of such things has small signs alone -/
def Asc (z : Str) : Prop := ∀ c ∈ z.cps.toList, c < 128
theorem asc_app {a b : Str} (h : Asc a) (k : Asc b) : Asc (a ++ b) := fun c hc => by
  rw [app_list] at hc
  rcases List.mem_append.mp hc with hc | hc
  · exact h c hc
  · exact k c hc
theorem asc_join {y : Str} {ys : List Str} (h : Asc y) (k : ∀ z ∈ ys, Asc z) : Asc (Str.join y ys) := fun c hc => by
  rcases join_cps (show c ∈ (Txt.join y ys).cps.toList by rw [TL.join_eq]; exact hc) with hc | ⟨z, hz, hc⟩
  · exact h c hc
  · exact k z hz c hc
theorem char_low : ∀ q c : Nat, q < 128 → c < 128 → ∀ a ∈ Builtin.Str.reprChar q c, a < 128 := by
  have k1 : ∀ c : _root_.Fin 128, (Builtin.Str.reprChar 200 c.1).all (fun a => decide (a < 128)) = true := by decide +kernel
  intro q c hq hc a ha
  by_cases e : c = q
  · subst e
    unfold Builtin.Str.reprChar at ha
    simp at ha
    omega
  · have h := List.all_eq_true.mp (k1 ⟨c, hc⟩)
    have e1 : Builtin.Str.reprChar q c = Builtin.Str.reprChar 200 c := by
      unfold Builtin.Str.reprChar
      have a1 : (c == q) = false := by simpa using e
      have a2 : (c == 200) = false := by simp; omega
      rw [a1, a2]
    rw [e1] at ha
    exact of_decide_eq_true (h a ha)
theorem fold_low (q : Nat) (hq : q < 128) : ∀ (l : List Nat) (acc : Array Nat), (∀ a ∈ acc.toList, a < 128) → (∀ c ∈ l, c < 128) → ∀ a ∈ (l.foldl (fun out c => out ++ (Builtin.Str.reprChar q c).toArray) acc).toList, a < 128
  | [], acc, h, _ => h
  | c :: l, acc, h, k => by
    refine fold_low q hq l _ (fun a ha => ?_) fun c hc => k c (List.mem_cons_of_mem _ hc)
    rw [Array.toList_append] at ha
    rcases List.mem_append.mp ha with ha | ha
    · exact h a ha
    · exact char_low q c hq (k c List.mem_cons_self) a (by simpa using ha)
theorem asc_repr {z : Str} (h : Asc z) : Asc (reprText z) := fun c hc => by
  have hq : reprQuote z < 128 := by unfold reprQuote; split <;> decide
  unfold reprText at hc
  rw [Array.toList_push, ← Array.foldl_toList] at hc
  rcases List.mem_append.mp hc with hc | hc
  · exact fold_low _ hq _ _ (fun a ha => by
      have : a ∈ [reprQuote z] := ha
      rw [List.mem_singleton.mp this]
      exact hq) h c hc
  · rw [List.mem_singleton.mp hc]
    exact hq
theorem asc_of (z : Str) (h : (z.cps.toList.all fun c => decide (c < 128)) = true) : Asc z := fun c hc => of_decide_eq_true (List.all_eq_true.mp h c hc)
mutual
theorem asc_sh {m : Nat} : ∀ d : D, kd m d = true → Asc (pyX d).shown
  | .non, _ => by simp only [pyX, PyData.shown]; exact asc_of _ (by decide +kernel)
  | .bl b, _ => by simp only [pyX, PyData.shown]; cases b <;> exact asc_of _ (by decide +kernel)
  | .int i, _ => by simp only [pyX, PyData.shown]; exact str_low i
  | .str z, h => by
    simp only [pyX, PyData.shown]
    exact asc_repr (asc_of z h)
  | .tup ds, h => by
    have e : (pyX (.tup ds)).shown = ("(" : Str) ++ Str.join ", " (PyData.shownAll (pyXs ds)) ++ (if (pyXs ds).length == 1 then ",)" else ")" : String) := by simp only [pyX]; exact PyData.shown_tuple _
    rw [e]
    refine asc_app (asc_app (asc_of _ (by decide +kernel)) (asc_join (asc_of _ (by decide +kernel)) (asc_shs ds h))) ?_
    split <;> exact asc_of _ (by decide +kernel)
  | .lst ds, h => by
    have e : (pyX (.lst ds)).shown = ("[" : Str) ++ Str.join ", " (PyData.shownAll (pyXs ds)) ++ "]" := by simp only [pyX]; exact PyData.shown_list _
    rw [e]
    exact asc_app (asc_app (asc_of _ (by decide +kernel)) (asc_join (asc_of _ (by decide +kernel)) (asc_shs ds h))) (asc_of _ (by decide +kernel))
  | .dct kvs, h => by
    cases kvs with
    | nil =>
      simp only [pyX, pyXk]
      rw [PyData.shown_dict, PyData.shownKv_nil]
      exact asc_of _ (by decide +kernel)
    | cons _ _ => cases h
  | .obj _ _, h => nomatch h
  | .dk, h => nomatch h
  | .opq _, h => nomatch h
theorem asc_shs {m : Nat} : ∀ ds : List D, kds m ds = true → ∀ t ∈ PyData.shownAll (pyXs ds), Asc t
  | [], _, t, ht => by simp only [pyXs, PyData.shownAll] at ht; cases ht
  | d :: ds, h, t, ht => by
    have h : (kd m d && kds m ds) = true := h
    rw [Bool.and_eq_true] at h
    simp only [pyXs, PyData.shownAll] at ht
    rcases List.mem_cons.mp ht with rfl | ht
    · exact asc_sh d h.1
    · exact asc_shs ds h.2 t ht
end
theorem asc_str {m : Nat} {d : D} (h : kd m d = true) : Asc (strX d) := by
  cases d with
  | str z => exact asc_of z h
  | _ => exact asc_sh _ h
theorem len_sh {m : Nat} (hm : m ≤ 100) {d : D} (h : kd m d = true) (hw : wx d ≤ 200) : (strX d).length ≤ 20000 := by
  obtain ⟨_, _, c⟩ := kd_ok hm d h
  have h1 := PyData.shown_le 50 (by decide) (pyX d) c
  have h2 : (pyX d).weight ≤ 200 := hw
  cases d with
  | str z =>
    show z.length ≤ 20000
    have : wx (.str z) ≤ 200 := hw
    rw [wx_str] at this
    omega
  | _ =>
    show (pyX _).shown.length ≤ 20000
    omega
def FOdd : FD := fun ds R _ => ∃ L : List Stp, ds = [.dk, .tup (L.map Stp.d)] ∧ Pln L ∧ 0 < L.length ∧ ∀ d, kd 0 d = true → wx d ≤ 140 → dpx d ≤ 1 → (∀ z, d = .str z → gd z = true) → R d
end K25
namespace K25
open PySem PySem.Spec PyProof.Rows L2 EL PH
section
variable {P : Program} {w : World} {K : PySem.W.Frag} {mg : Str → Option Value} {base : Heap}
abbrev GT__law_pick (P : Program) (w : World) (base : Heap) (T : Tops K w mg) : Prop := FnOk P w K mg base CX0 2 T.f__law_pick T.d__law_pick ["_law_deck_here", "_law_some"] (spD K cl0 Deck 1 2 FPick)
theorem ok__law_pick (T : Tops K w mg) (G__law_draw : GT__law_draw P w base T) : GT__law_pick P w base T := by
  refine Fun.ok T.N__law_pick.F sc__law_pick (spD_len rfl) fun cdv A outer s H vs Q E hr h => bodyD (K := K) h (fun dk G xc DkAt hx hB => (ss_one (s_ret (d_item rfl (d_var 1 (pv 1)) (d_callCc (cc := 1) rfl hB (pe_call G__law_draw (hr.mono (by decide)) rfl T.N__law_draw.m T.N__law_draw.F.kp T.N__law_draw.b .nil pass0 (a_cons (d_var 0 (pv 0)) (a_cons (d_cb (ok_len rfl) (pe_callB call_lenD (by rfl) T.z_len (by decide +kernel) (a_cons (d_var 1 (pv 1)) a_nil))) a_nil)))) (fun _ _ => rfl))))) ?_
  rintro _ R xc - ⟨xs, hc, ⟨h0, h1⟩, hR⟩
  have key : ∀ n : Int, 0 ≤ n → n < (xs.length : Int) → ∃ c, atI xs n = some c ∧ R c := by
    intro n n0 n1
    have hl : n.toNat < xs.length := by omega
    exact ⟨xs[n.toNat], at_int _ _ _ n0 (List.getElem?_eq_getElem hl), hR _ _ (List.getElem?_eq_getElem hl)⟩
  rcases hc with rfl | rfl
  · refine ⟨rfl, Nat.le_refl 1, ⟨by show (0 : Int) < (xs.length : Int); omega, by show (xs.length : Int) < 2 ^ 60; omega⟩, fun n n0 n1 => key n n0 n1⟩
  · refine ⟨rfl, Nat.le_refl 1, ⟨by show (0 : Int) < (xs.length : Int); omega, by show (xs.length : Int) < 2 ^ 60; omega⟩, fun n n0 n1 => key n n0 n1⟩
end
end K25
namespace K25
open PySem PySem.Spec PyProof.Rows L2 EL PH
section
variable {P : Program} {w : World} {K : PySem.W.Frag} {mg : Str → Option Value} {base : Heap}
abbrev GT__law_odd (P : Program) (w : World) (base : Heap) (T : Tops K w mg) : Prop := FnOk P w K mg base CX0 3 T.f__law_odd T.d__law_odd ["_law_deck_here", "_law_plan_here"] (spD K cl0 Deck 1 2 FOdd)
theorem ok__law_odd (T : Tops K w mg) (G__law_pick : GT__law_pick P w base T) : GT__law_odd P w base T := by
  refine Fun.ok T.N__law_odd.F sc__law_odd (spD_len rfl) fun cdv A outer s H vs Q E hr h => bodyD (K := K) h (fun dk G xc DkAt hx hB => (ss_cons (s_set (i := 2) (a_f (a_lc (ps_setLc (i := 2) (own := [("_law_step", 4)]) rfl sc__law_odd.nd rfl rfl (sw_true rfl rfl rfl (by decide +kernel)) (i_seq rfl (d_var 1 (pv 1))) (blkOk_by (own := [("_law_step", 4)]) (N := N_sc__law_odd) (sc := defScope s__law_odd) (by decide +kernel)) (fun _ _ _ _ _ => gx (vs := [4]) fun _ => (g_name (vs := [4]) (pg_name (i := 4) sc__law_odd.nd rfl (Or.inl rfl)))) (fun _ _ _ _ _ => bx_yes) (fun _ _ _ _ _ => dx fun h0 => (d_item rfl (d_var 4 (pv 4)) d_int (fun _ _ => rfl)))))))
    (ss_cons (s_set (i := 3) (ps_set (i := 3) sc__law_odd.nd rfl (Or.inl rfl) (d_f (f_lst (a_cons d_non (a_cons d_bl (a_cons d_int (a_cons (d_pow d_int d_int) (a_cons d_str (a_cons d_str (a_cons d_str (a_cons d_str (a_cons d_str (a_cons (d_tup a_nil) (a_cons (d_f (f_lst a_nil)) (a_cons (d_fd (f_dnew pe_dnewK)) (a_cons (d_tup (a_cons d_str a_nil)) (a_cons (d_f (f_lst (a_cons (d_item rfl (d_var 2 (pv 2)) d_int (fun _ _ => rfl)) a_nil))) (a_cons (d_tup (a_cons (d_item rfl (d_var 2 (pv 2)) d_int (fun _ _ => rfl)) a_nil)) a_nil)))))))))))))))))))
    (ss_one (s_ret (d_callCc (cc := 1) rfl hB (pe_call G__law_pick (hr.mono (by decide)) rfl T.N__law_pick.m T.N__law_pick.F.kp T.N__law_pick.b .nil pass0 (a_cons (d_var 0 (pv 0)) (a_cons (d_add rfl (d_var 3 (pv 3)) (d_var 2 (pv 2))) a_nil))))))))) ?_
  rintro _ R xc - ⟨L, rfl, hL, h0, hR⟩
  obtain ⟨s, r, rfl⟩ : ∃ s r, L = s :: r := by
    cases L with
    | nil => exact absurd h0 (by decide)
    | cons s r => exact ⟨s, r, rfl⟩
  have hl := hL.len
  refine ⟨(by show ((s :: r).map Stp.d).length ≤ 1000000; rw [List.length_map]; omega), ?_⟩
  show lcD _ _ _ _ ((s :: r).map Stp.d) [] _ _
  refine lc_filt Stp.d (fun s => .str s.nm) (fun _ => true) (s :: r) ?_ (s :: r) [] _ (fun _ h => h) ?_
  · intro t ht R R' k1 k2
    exact ⟨fun _ => ⟨_, at_1, k1 rfl _ rfl⟩, fun n => absurd trivial n⟩
  rw [List.nil_append, List.filter_eq_self.mpr (fun _ _ => rfl)]
  refine ⟨⟨by decide, by decide⟩, Nat.zero_le _, Nat.zero_le _, Nat.le_of_ble_eq_true rfl, _, at_0, Nat.le_of_ble_eq_true rfl, _, at_0, Nat.le_of_ble_eq_true rfl, Nat.le_of_ble_eq_true rfl, ?_⟩
  have ll : ((s :: r).map fun s => D.str s.nm).length ≤ 14 := by rw [List.length_map]; exact hl
  refine ⟨(by show 15 + ((s :: r).map fun s => D.str s.nm).length ≤ 1000000; omega), rfl, by show 0 + 1 ≤ 1; decide, _, .inl rfl, ⟨by simp, ?_⟩, fun i x hi => ?_⟩
  · rw [List.length_append]
    show 15 + ((s :: r).map fun s => D.str s.nm).length < 1000000
    omega
  have nm : ∀ t ∈ s :: r, kd 0 (.str t.nm) = true ∧ t.nm.length ≤ 8 ∧ gd t.nm = true := fun t ht => by
    have h := hL.low t ht
    obtain ⟨h1, _, h3⟩ := lowb_iff.mp h
    exact ⟨List.all_eq_true.mpr fun c hc => decide_eq_true (h1 c hc).lt, h3, lowb_gd h⟩
  obtain ⟨a1, a2, a3⟩ := nm s List.mem_cons_self
  rcases List.mem_append.mp (List.mem_of_getElem? hi) with hx | hx
  · have k : ∀ d ∈ ([.non, .bl true, .int 0, .int (10 ^ 39), .str "", .str "zzzz", .str "Same", .str "row", .str "at", .tup [], .lst [], .dct [], .tup [.str "same"]] : List D), kd 0 d = true ∧ wx d ≤ 140 ∧ dpx d ≤ 1 := fun d hd => by
      have k : ([.non, .bl true, .int 0, .int (10 ^ 39), .str "", .str "zzzz", .str "Same", .str "row", .str "at", .tup [], .lst [], .dct [], .tup [.str "same"]] : List D).all (fun d => kd 0 d && (decide (wx d ≤ 140) && decide (dpx d ≤ 1))) = true := by decide +kernel
      have h := List.all_eq_true.mp k d hd
      simp only [Bool.and_eq_true, decide_eq_true_eq] at h
      exact h
    have two : ∀ d : D, (d = .tup [.str s.nm] ∨ d = .lst [.str s.nm]) → kd 0 d = true ∧ wx d ≤ 140 ∧ dpx d ≤ 1 := fun d hd => by
      have w : wxs [.str s.nm] ≤ 140 := by rw [wxs_cons, wx_str]; show s.nm.length + 1 + 0 ≤ 140; omega
      have p : dpxs [.str s.nm] ≤ 0 := dpxs_le.mpr fun d hd => by cases List.mem_singleton.mp hd; exact Nat.le_refl _
      rcases hd with rfl | rfl
      · exact ⟨kds_all.mpr fun d hd => (by cases List.mem_singleton.mp hd; exact a1), by rw [wx_tup]; exact w, by rw [dpx_tup]; omega⟩
      · exact ⟨kds_all.mpr fun d hd => (by cases List.mem_singleton.mp hd; exact a1), by rw [wx_lst]; exact w, by rw [dpx_lst]; omega⟩
    have both : (x ∈ ([.non, .bl true, .int 0, .int (10 ^ 39), .str "", .str "zzzz", .str "Same", .str "row", .str "at", .tup [], .lst [], .dct [], .tup [.str "same"]] : List D)) ∨ (x = .tup [.str s.nm] ∨ x = .lst [.str s.nm]) := by
      have hx : x ∈ ([.non, .bl true, .int 0, .int (10 ^ 39), .str "", .str "zzzz", .str "Same", .str "row", .str "at", .tup [], .lst [], .dct [], .tup [.str "same"], .lst [.str s.nm], .tup [.str s.nm]] : List D) := hx
      simp only [List.mem_cons, List.not_mem_nil, or_false] at hx ⊢
      rcases hx with h | h | h | h | h | h | h | h | h | h | h | h | h | h | h <;> simp [h]
    rcases both with hx | hx
    · obtain ⟨b1, b2, b3⟩ := k x hx
      refine hR x b1 b2 b3 fun z e => ?_
      subst e
      have k : ([.non, .bl true, .int 0, .int (10 ^ 39), .str "", .str "zzzz", .str "Same", .str "row", .str "at", .tup [], .lst [], .dct [], .tup [.str "same"]] : List D).all (fun d => match d with | .str z => gd z | _ => true) = true := by decide +kernel
      exact List.all_eq_true.mp k _ hx
    · obtain ⟨b1, b2, b3⟩ := two x hx
      refine hR x b1 b2 b3 fun z e => ?_
      subst e
      rcases hx with h | h <;> cases h
  · obtain ⟨t, ht, rfl⟩ := List.mem_map.mp hx
    obtain ⟨b1, b2, b3⟩ := nm t ht
    refine hR _ b1 (by rw [wx_str]; omega) (by show 0 ≤ 1; decide) fun z e => ?_
    cases e
    exact b3
end
end K25
namespace K25
open PySem PySem.Spec PyProof.Rows L2 EL PH
def Od (d : D) : Prop := kd 0 d = true ∧ wx d ≤ 140 ∧ dpx d ≤ 1 ∧ ∀ z, d = .str z → gd z = true
/-- a tuple that is bent -/
structure It (w : Nat) (xs : List D) : Prop where
  k : kds 0 xs = true
  wt : wxs xs ≤ w
  el : ∀ x ∈ xs, wx x ≤ 200
  dp : dpxs xs ≤ 10
  len : xs.length ≤ 20
  gd : ∀ z, D.str z ∈ xs → gd z = true
structure Ot (w : Nat) (xs ys : List D) : Prop where
  k : kds 0 ys = true
  wt : wxs ys ≤ 2 * w + 200
  el : ∀ x ∈ ys, wx x ≤ max 200 w
  dp : dpxs ys ≤ dpxs xs + 1
  len : ys.length ≤ xs.length + 1
  gd : ∀ z, D.str z ∈ ys → gd z = true
structure OutB (w : Nat) (xs : List D) (R : D → Prop) : Prop where
  t : ∀ ys, Ot w xs ys → R (.tup ys)
  l : R (.lst xs)
  s : ∀ z, Asc z → z.length ≤ 60 * w + 60 → R (.str z)
  d : R (.dct [(.inl 0, .tup xs)])
def FBent : FD := fun ds R _ => ∃ (L : List Stp) (xs : List D) (w : Nat), ds = [.dk, .tup (L.map Stp.d), .tup xs] ∧ Pln L ∧ 0 < L.length ∧ It w xs ∧ OutB w xs R
theorem ot_mid {w : Nat} {xs mid : List D} {a b : Nat} (I : It w xs) (hm : ∀ x ∈ mid, x ∈ xs ∨ Od x) (hl : (xs.take a ++ mid ++ xs.drop b).length ≤ xs.length + 1) (hw : wxs mid ≤ w + 200) (hab : a ≤ b) : Ot w xs (xs.take a ++ mid ++ xs.drop b) := by
  have mem : ∀ x ∈ xs.take a ++ mid ++ xs.drop b, x ∈ xs ∨ Od x := fun x hx => by
    rcases List.mem_append.mp hx with hx | hx
    · rcases List.mem_append.mp hx with hx | hx
      · exact .inl (List.mem_of_mem_take hx)
      · exact hm x hx
    · exact .inl (List.mem_of_mem_drop hx)
  refine ⟨kds_all.mpr fun x hx => ?_, ?_, fun x hx => ?_, dpxs_le.mpr fun x hx => ?_, hl, fun z hz => ?_⟩
  · rcases mem x hx with h | h
    · exact kds_all.mp I.k x h
    · exact h.1
  · rw [wxs_app, wxs_app]
    have e : xs.drop b = (xs.drop a).drop (b - a) := by rw [List.drop_drop]; congr 1; omega
    have h1 := wxs_td xs a
    have h2 := wxs_drop (xs.drop a) (b - a)
    rw [← e] at h2
    have := I.wt
    omega
  · rcases mem x hx with h | h
    · have := I.el x h; omega
    · have := h.2.1; omega
  · rcases mem x hx with h | h
    · have := dpxs_le.mp (Nat.le_refl _) x h; omega
    · have := h.2.2.1; omega
  · rcases mem _ hz with h | h
    · exact I.gd z h
    · exact h.2.2.2 z rfl
theorem od_wt {x : D} (h : Od x) : wxs [x] ≤ 141 := by rw [wxs_cons]; have := h.2.1; show wx x + 1 + 0 ≤ 141; omega
theorem od_word {z : Str} (h : gd z = true) : Od (.str z) := by
  have h2 : ((z.cps.toList.all fun c => decide (c < 128)) && decide (z.length ≤ 40)) = true := h
  rw [Bool.and_eq_true] at h2
  exact ⟨h2.1, by rw [wx_str]; have := of_decide_eq_true h2.2; omega, Nat.zero_le _, fun y e => by cases e; exact h⟩
theorem sum_le {n : Nat} : ∀ {l : List Str}, (∀ z ∈ l, z.length ≤ n) → (l.map (·.length)).sum ≤ n * l.length
  | [], _ => Nat.zero_le _
  | z :: l, h => by
    have h1 := h z List.mem_cons_self
    have h2 := sum_le (n := n) fun y hy => h y (List.mem_cons_of_mem _ hy)
    rw [List.map_cons, List.sum_cons, List.length_cons, Nat.mul_succ]
    omega
theorem len_sh2 {d : D} (h : kd 0 d = true) : (strX d).length ≤ 52 * wx d + 50 := by
  obtain ⟨_, _, c⟩ := kd_ok (m := 0) (by decide) d h
  have h1 := PyData.shown_le 50 (by decide) (pyX d) c
  cases d with
  | str z =>
    show z.length ≤ _
    rw [wx_str]
    omega
  | _ =>
    show (pyX _).shown.length ≤ 52 * (pyX _).weight + 50
    omega
theorem sum_sh : ∀ {xs : List D}, kds 0 xs = true → ((xs.map strX).map (·.length)).sum ≤ 52 * wxs xs
  | [], _ => Nat.zero_le _
  | x :: xs, h => by
    have h : (kd 0 x && kds 0 xs) = true := h
    rw [Bool.and_eq_true] at h
    have h1 := len_sh2 h.1
    have h2 := sum_sh h.2
    rw [List.map_cons, List.map_cons, List.sum_cons, wxs_cons]
    omega
end K25
namespace K25
open PySem PySem.Spec PyProof.Rows L2 EL PH
section
variable {P : Program} {w : World} {K : PySem.W.Frag} {mg : Str → Option Value} {base : Heap}
abbrev GT__law_bent (P : Program) (w : World) (base : Heap) (T : Tops K w mg) : Prop := PH.FnG P w K mg base CX0 4 T.f__law_bent T.d__law_bent ["_law_deck_here", "_law_plan_here", "_law_it"] (spD K cl0 Deck 4 3 FBent)
theorem ok__law_bent (T : Tops K w mg) (G__law_draw : GT__law_draw P w base T) (G__law_odd : GT__law_odd P w base T) (G__law_pick : GT__law_pick P w base T) : GT__law_bent P w base T := by
  refine Fun.okG T.N__law_bent.F sc__law_bent (spD_len rfl) fun cdv A outer s H vs Q E hg hr h => bodyD (K := K) h (fun dk G xc DkAt hx hB => (ss_cons (s_set (i := 3) (ps_set (i := 3) sc__law_bent.nd rfl (Or.inl rfl) (d_callCc (cc := 4) rfl hB (pe_call G__law_draw (hr.mono (by decide)) rfl T.N__law_draw.m T.N__law_draw.F.kp T.N__law_draw.b .nil pass0 (a_cons (d_var 0 (pv 0)) (a_cons d_int a_nil))))))
    (ss_cons (s_set (i := 4) (ps_set (i := 4) sc__law_bent.nd rfl (Or.inl rfl) (d_callCc (cc := 4) rfl hB (pe_call G__law_draw (hr.mono (by decide)) rfl T.N__law_draw.m T.N__law_draw.F.kp T.N__law_draw.b .nil pass0 (a_cons (d_var 0 (pv 0)) (a_cons (d_add rfl (d_cb (ok_len rfl) (pe_callB call_lenD (by rfl) T.z_len (by decide +kernel) (a_cons (d_var 2 (pv 2)) a_nil))) d_int) a_nil))))))
    (ss_cons (s_if (b_cmp (op_eqPP hr.units) (ok_eqP rfl) (d_var 3 (pv 3)) d_int (nomark _)) (ss_one (s_ret (d_add rfl (d_sl rfl (pe_slice sl_D (d_var 2 (pv 2)) o_none (o_some (d_var 4 (pv 4))))) (d_sl rfl (pe_slice sl_D (d_var 2 (pv 2)) (o_some (d_add rfl (d_var 4 (pv 4)) d_int)) o_none))))) ss_nil)
    (ss_cons (s_if (b_cmp (op_eqPP hr.units) (ok_eqP rfl) (d_var 3 (pv 3)) d_int (nomark _)) (ss_one (s_ret (d_add rfl (d_add rfl (d_sl rfl (pe_slice sl_D (d_var 2 (pv 2)) o_none (o_some (d_var 4 (pv 4))))) (d_tup (a_cons (d_callCc (cc := 4) rfl hB (pe_call G__law_odd (hr.mono (by decide)) rfl T.N__law_odd.m T.N__law_odd.F.kp T.N__law_odd.b .nil pass0 (a_cons (d_var 0 (pv 0)) (a_cons (d_var 1 (pv 1)) a_nil)))) a_nil))) (d_sl rfl (pe_slice sl_D (d_var 2 (pv 2)) (o_some (d_var 4 (pv 4))) o_none))))) ss_nil)
    (ss_cons (s_if (b_cmp (op_eqPP hr.units) (ok_eqP rfl) (d_var 3 (pv 3)) d_int (nomark _)) (ss_one (s_ret (d_add rfl (d_add rfl (d_sl rfl (pe_slice sl_D (d_var 2 (pv 2)) o_none (o_some (d_var 4 (pv 4))))) (d_sl rfl (pe_slice sl_D (d_var 2 (pv 2)) (o_some (d_var 4 (pv 4))) (o_some (d_add rfl (d_var 4 (pv 4)) d_int))))) (d_sl rfl (pe_slice sl_D (d_var 2 (pv 2)) (o_some (d_var 4 (pv 4))) o_none))))) ss_nil)
    (ss_cons (s_if (b_cmp (op_eqPP hr.units) (ok_eqP rfl) (d_var 3 (pv 3)) d_int (nomark _)) (ss_one (s_ret (d_callCc (cc := 4) rfl hB (pe_call G__law_pick (hr.mono (by decide)) rfl T.N__law_pick.m T.N__law_pick.F.kp T.N__law_pick.b .nil pass0 (a_cons (d_var 0 (pv 0)) (a_cons (d_f (f_lst (a_cons (d_f (f_listOf rfl (pe_callTy call_list_of (by rfl) T.z_list (by decide +kernel) (a_cons (d_var 2 (pv 2)) a_nil)))) (a_cons (d_tup (a_cons (d_var 2 (pv 2)) a_nil)) (a_cons (d_revT (pe_revT (d_var 2 (pv 2)))) (a_cons (d_sl rfl (pe_slice sl_D (d_var 2 (pv 2)) (o_some d_int) o_none)) (a_cons (d_s1 (ok_join rfl) (pe_join d_str (d_f (f_lc (pe_lc (own := [("_law_one", 5)]) rfl sc__law_bent.nd (i_seq rfl (d_var 2 (pv 2))) (blkOk_by (own := [("_law_one", 5)]) (N := N_sc__law_bent) (sc := defScope s__law_bent) (by decide +kernel)) (fun _ _ _ _ _ => gx (vs := [5]) fun _ => (g_name (vs := [5]) (pg_name (i := 5) sc__law_bent.nd rfl (Or.inl rfl)))) (fun _ _ _ _ _ => bx_yes) (fun _ _ _ _ _ => dx fun h0 => (d_cb (ok_strX rfl) (pe_callTy (cr_strX hg hr) (by rfl) T.z_str (by decide +kernel) (a_cons (d_var 5 (pv 5)) a_nil))))))))) (a_cons (d_fd (f_dispP (dp_cons (fun h0 => d_int) (fun h0 => (d_var 2 (pv 2))) dp_nil))) a_nil)))))))) a_nil)))))) ss_nil)
    (ss_cons (s_if (b_cmp (op_eqPP hr.units) (ok_eqP rfl) (d_var 3 (pv 3)) d_int (nomark _)) (ss_one (s_ret (d_add rfl (d_tup (a_cons (d_callCc (cc := 4) rfl hB (pe_call G__law_pick (hr.mono (by decide)) rfl T.N__law_pick.m T.N__law_pick.F.kp T.N__law_pick.b .nil pass0 (a_cons (d_var 0 (pv 0)) (a_cons (d_f (f_lst (a_cons d_str (a_cons d_str (a_cons d_str (a_cons d_str (a_cons d_str (a_cons d_str (a_cons d_str (a_cons d_str (a_cons d_str a_nil))))))))))) a_nil)))) a_nil)) (d_sl rfl (pe_slice sl_D (d_var 2 (pv 2)) (o_some d_int) o_none))))) ss_nil)
    (ss_one (s_ret (d_add rfl (d_add rfl (d_sl rfl (pe_slice sl_D (d_var 2 (pv 2)) o_none (o_some (d_var 4 (pv 4))))) (d_tup (a_cons (d_callCc (cc := 4) rfl hB (pe_call G__law_odd (hr.mono (by decide)) rfl T.N__law_odd.m T.N__law_odd.F.kp T.N__law_odd.b .nil pass0 (a_cons (d_var 0 (pv 0)) (a_cons (d_var 1 (pv 1)) a_nil)))) a_nil))) (d_sl rfl (pe_slice sl_D (d_var 2 (pv 2)) (o_some (d_add rfl (d_var 4 (pv 4)) d_int)) o_none))))))))))))) ?_
  rintro _ R xc - ⟨L, xs, w, rfl, hL, h0, I, O⟩
  have hl := I.len
  refine ⟨rfl, by show 0 + 1 ≤ 4; decide, ⟨by decide, by decide⟩, fun way w0 w1 => ?_⟩
  refine ⟨rfl, by show 0 + 1 + 1 ≤ 4; decide, ⟨by show (0 : Int) < ((xs.length : Nat) : Int) + 1; omega, by show ((xs.length : Nat) : Int) + 1 < 2 ^ 60; omega⟩, fun at' a0 a1 => ?_⟩
  obtain ⟨a, rfl⟩ := Int.eq_ofNat_of_zero_le a0
  have ha : a ≤ xs.length := by
    have : (a : Int) < ((xs.length : Nat) : Int) + 1 := a1
    omega
  have c1 : EL.cutD xs none (some (a : Int)) = xs.take a := cutD_to a
  have c2 : EL.cutD xs (some ((a : Int) + 1)) none = xs.drop (a + 1) := cutD_from (a + 1)
  have c3 : EL.cutD xs (some (a : Int)) none = xs.drop a := cutD_from a
  have c4 : EL.cutD xs (some (a : Int)) (some ((a : Int) + 1)) = (xs.drop a).take 1 := by
    have : EL.cutD xs (some (a : Int)) (some ((a : Int) + 1)) = (xs.drop a).take (a + 1 - a) := cutD_at a (a + 1)
    rw [this, show a + 1 - a = 1 by omega]
  have c5 : EL.cutD xs (some 1) none = xs.drop 1 := cutD_from 1
  have lt : (xs.take a).length = a := by rw [List.length_take]; omega
  have ld : ∀ b, (xs.drop b).length = xs.length - b := fun b => List.length_drop
  refine ⟨fun _ => ?_, fun _ => ⟨fun _ => ?_, fun _ => ⟨fun _ => ?_, fun _ => ⟨fun _ => ?_, fun _ => ⟨fun _ => ?_, fun _ => ?_⟩⟩⟩⟩⟩
  · show (EL.cutD xs none (some (a : Int))).length + (EL.cutD xs (some ((a : Int) + 1)) none).length ≤ 1000000 ∧ R (.tup (EL.cutD xs none (some (a : Int)) ++ EL.cutD xs (some ((a : Int) + 1)) none))
    rw [c1, c2]
    refine ⟨by rw [lt, ld]; omega, ?_⟩
    have h := ot_mid (mid := []) (a := a) (b := a + 1) I (fun _ h => by cases h) (by rw [List.append_nil, List.length_append, lt, ld]; omega) (by show 0 ≤ w + 200; omega) (by omega)
    rw [List.append_nil] at h
    exact O.t _ h
  · refine ⟨rfl, by show 0 + 1 + 1 + 1 ≤ 4; decide, L, rfl, hL, h0, fun x x1 x2 x3 x4 => ⟨Nat.le_of_ble_eq_true rfl, ?_⟩⟩
    show (EL.cutD xs none (some (a : Int))).length + 1 ≤ 1000000 ∧ ((EL.cutD xs none (some (a : Int)) ++ [x]).length + (EL.cutD xs (some (a : Int)) none).length ≤ 1000000 ∧ R (.tup (EL.cutD xs none (some (a : Int)) ++ [x] ++ EL.cutD xs (some (a : Int)) none)))
    rw [c1, c3]
    have ox : Od x := ⟨x1, x2, x3, x4⟩
    have l1 : ([x] : List D).length = 1 := rfl
    refine ⟨by rw [lt]; omega, by rw [List.length_append, lt, ld, l1]; omega, O.t _ (ot_mid I (fun y hy => .inr (by cases List.mem_singleton.mp hy; exact ox)) (by rw [List.length_append, List.length_append, lt, ld, l1]; omega) (by have := od_wt ox; omega) (Nat.le_refl _))⟩
  · show (EL.cutD xs none (some (a : Int))).length + (EL.cutD xs (some (a : Int)) (some ((a : Int) + 1))).length ≤ 1000000 ∧ ((EL.cutD xs none (some (a : Int)) ++ EL.cutD xs (some (a : Int)) (some ((a : Int) + 1))).length + (EL.cutD xs (some (a : Int)) none).length ≤ 1000000 ∧ R (.tup (EL.cutD xs none (some (a : Int)) ++ EL.cutD xs (some (a : Int)) (some ((a : Int) + 1)) ++ EL.cutD xs (some (a : Int)) none)))
    rw [c1, c3, c4]
    have l1 : ((xs.drop a).take 1).length ≤ 1 := by rw [List.length_take]; omega
    refine ⟨by rw [lt]; omega, by rw [List.length_append, lt, ld]; omega, O.t _ (ot_mid I (fun y hy => .inl (List.mem_of_mem_drop (List.mem_of_mem_take hy))) (by rw [List.length_append, List.length_append, lt, ld]; omega) ?_ (Nat.le_refl _))⟩
    have h1 := wxs_take (xs.drop a) 1
    have h2 := wxs_drop xs a
    have := I.wt
    omega
  · refine ⟨Nat.le_of_ble_eq_true rfl, ?_⟩
    have hel : ∀ x ∈ xs, kd 0 x = true ∧ (strX x).length ≤ 20000 ∧ showX x := fun x hx => by
      have hk := kds_all.mp I.k x hx
      have hw := I.el x hx
      have hd := dpxs_le.mp (Nat.le_refl _) x hx
      have := I.dp
      exact ⟨hk, len_sh (by decide) hk hw, showX_kd (by decide) hk (by omega) (by omega)⟩
    refine ⟨(by omega : xs.length ≤ 1000000), ?_⟩
    suffices hh : lcD (bN 5) bYes (dCB strXF (aCons (dVar 5) aNil)) [5] (xs.map id) [] _ _ by rw [List.map_id] at hh; exact hh
    refine lc_filt id (fun x => .str (strX x)) (fun _ => true) xs ?_ xs [] _ (fun _ h => h) ?_
    · intro x hx R R' k1 k2
      exact ⟨fun _ => ⟨(hel x hx).2.2, k1 rfl _ rfl⟩, fun n => absurd trivial n⟩
    rw [List.nil_append, List.filter_eq_self.mpr (fun _ _ => rfl)]
    refine ⟨xs.map strX, by rw [List.map_map]; rfl, ?_, ?_⟩
    · have := sum_le (l := xs.map strX) (n := 20000) fun z hz => by
        obtain ⟨x, hx, rfl⟩ := List.mem_map.mp hz
        exact (hel x hx).2.1
      rw [List.length_map] at this ⊢
      have e1 : (" " : Str).length = 1 := rfl
      rw [e1]
      omega
    refine ⟨by show 6 ≤ 1000000; decide, rfl, by show 0 + 1 + 1 + 1 ≤ 4; decide, _, .inl rfl, ⟨by show 0 < 6; decide, by show 6 < 1000000; decide⟩, fun i x hi => ?_⟩
    have hx := List.mem_of_getElem? hi
    simp only [List.mem_cons, List.not_mem_nil, or_false] at hx
    rcases hx with rfl | rfl | rfl | rfl | rfl | rfl
    · exact O.l
    · have hw := I.wt
      refine O.t _ ⟨?_, ?_, fun x hx => ?_, dpxs_le.mpr fun x hx => ?_, by show 1 ≤ xs.length + 1; omega, fun z hz => ?_⟩
      · show (kds 0 xs && true) = true
        rw [I.k]
        rfl
      · rw [wxs_cons, wx_tup]
        show wxs xs + 1 + 0 ≤ 2 * w + 200
        omega
      · cases List.mem_singleton.mp hx
        rw [wx_tup]
        omega
      · cases List.mem_singleton.mp hx
        rw [dpx_tup]
        omega
      · cases List.mem_singleton.mp hz
    · refine O.t _ ⟨kds_all.mpr fun x hx => kds_all.mp I.k x (List.mem_reverse.mp hx), by rw [wxs_rev]; have := I.wt; omega, fun x hx => by have := I.el x (List.mem_reverse.mp hx); omega, dpxs_le.mpr fun x hx => by have := dpxs_le.mp (Nat.le_refl _) x (List.mem_reverse.mp hx); omega, by rw [List.length_reverse]; omega, fun z hz => I.gd z (List.mem_reverse.mp hz)⟩
    · have h := ot_mid (mid := []) (a := 0) (b := 1) I (fun _ h => by cases h) (by rw [List.take_zero, List.nil_append, List.nil_append, ld]; omega) (by show 0 ≤ w + 200; omega) (by decide)
      rw [List.take_zero, List.nil_append, List.nil_append, ← c5] at h
      exact O.t _ h
    · refine O.s _ (fun c hc => ?_) ?_
      · rcases join_cps hc with hc | ⟨z, hz, hc⟩
        · exact asc_of " " (by decide +kernel) c hc
        · obtain ⟨x, hx, rfl⟩ := List.mem_map.mp hz
          exact asc_str (hel x hx).1 c hc
      · rw [join_len]
        have h1 := sum_sh I.k
        have h2 := I.wt
        rw [List.length_map]
        have e1 : (" " : Str).length = 1 := rfl
        rw [e1]
        omega
    · exact O.d
  · refine ⟨Nat.le_of_ble_eq_true rfl, rfl, by show 0 + 1 + 1 + 1 ≤ 4; decide, _, .inl rfl, ⟨by decide, by decide⟩, fun i x hi => ?_⟩
    refine ⟨Nat.le_of_ble_eq_true rfl, ?_⟩
    show 1 + (EL.cutD xs (some 1) none).length ≤ 1000000 ∧ R (.tup ([x] ++ EL.cutD xs (some 1) none))
    rw [c5]
    refine ⟨by rw [ld]; omega, ?_⟩
    have hx : Od x := by
      have hx := List.mem_of_getElem? hi
      have k : ([.str "same", .str "row", .str "along", .str "ring", .str "angle", .str "at", .str "unlike", .str "Row", .str ""] : List D).all (fun d => match d with | .str z => gd z | _ => false) = true := by decide +kernel
      have h := List.all_eq_true.mp k x hx
      cases x with
      | str z => exact od_word h
      | _ => cases h
    have h := ot_mid (mid := [x]) (a := 0) (b := 1) I (fun y hy => .inr (by cases List.mem_singleton.mp hy; exact hx)) (by rw [List.take_zero, List.nil_append, List.length_append, ld]; show 1 + _ ≤ _; omega) (by have := od_wt hx; omega) (by decide)
    rw [List.take_zero, List.nil_append] at h
    exact O.t _ h
  · refine ⟨rfl, by show 0 + 1 + 1 + 1 ≤ 4; decide, L, rfl, hL, h0, fun x x1 x2 x3 x4 => ⟨Nat.le_of_ble_eq_true rfl, ?_⟩⟩
    show (EL.cutD xs none (some (a : Int))).length + 1 ≤ 1000000 ∧ ((EL.cutD xs none (some (a : Int)) ++ [x]).length + (EL.cutD xs (some ((a : Int) + 1)) none).length ≤ 1000000 ∧ R (.tup (EL.cutD xs none (some (a : Int)) ++ [x] ++ EL.cutD xs (some ((a : Int) + 1)) none)))
    rw [c1, c2]
    have ox : Od x := ⟨x1, x2, x3, x4⟩
    have l1 : ([x] : List D).length = 1 := rfl
    refine ⟨by rw [lt]; omega, by rw [List.length_append, lt, ld, l1]; omega, O.t _ (ot_mid I (fun y hy => .inr (by cases List.mem_singleton.mp hy; exact ox)) (by rw [List.length_append, List.length_append, lt, ld, l1]; omega) (by have := od_wt ox; omega) (by omega))⟩
end
end K25
namespace K25
open PySem PySem.Spec PyProof.Rows L2 EL PH
/-! ### what is drawn -/
def FNames : FD := fun ds R _ => ∃ m : Nat, ds = [.dk, .int (m : Nat)] ∧ 1 ≤ m ∧ m ≤ 14 ∧ ∀ N : List Str, N.length = m → N.Nodup → (∀ z ∈ N, lowb z = true) → R (.lst (N.map D.str))
/-- a step's parts, by its word; M: names that stand ahead, Ln: lines -/
def ShpW (M Ln : Str → Prop) (w : Str) (ps : List D) : Prop :=
  (w = "free" ∧ ps = []) ∨ ((w = "on" ∨ w = "round") ∧ ∃ a, M a ∧ ps = [.str a]) ∨
  (w ∈ (["foot", "mirror", "meet", "middle", "line", "circle"] : List Str) ∧ ∃ a b, M a ∧ M b ∧ ps = [.str a, .str b]) ∨
  (w ∈ (["along", "upright"] : List Str) ∧ ∃ a b, M a ∧ M b ∧ Ln b ∧ ps = [.str a, .str b]) ∨
  (w = "other" ∧ ∃ a b c, M a ∧ M b ∧ M c ∧ ps = [.str a, .str b, .str c]) ∨ (w = "turn" ∧ ∃ a b, ∃ i : Int, M a ∧ M b ∧ ps = [.str a, .str b, .int i])
def Shp (M Ln : Str → Prop) (s : Stp) : Prop := ShpW M Ln s.w s.ps
theorem Shp.mono {M Ln M' Ln' : Str → Prop} {s : Stp} (h : Shp M Ln s) (k : ∀ z, M z → M' z) (l : ∀ z, Ln z → Ln' z) : Shp M' Ln' s := by
  rcases h with h | ⟨hw, a, ha, hp⟩ | ⟨hw, a, b, ha, hb, hp⟩ | ⟨hw, a, b, ha, hb, hl, hp⟩ | ⟨hw, a, b, c, ha, hb, hc, hp⟩ | ⟨hw, a, b, i, ha, hb, hp⟩
  · exact .inl h
  · exact .inr (.inl ⟨hw, a, k _ ha, hp⟩)
  · exact .inr (.inr (.inl ⟨hw, a, b, k _ ha, k _ hb, hp⟩))
  · exact .inr (.inr (.inr (.inl ⟨hw, a, b, k _ ha, k _ hb, l _ hl, hp⟩)))
  · exact .inr (.inr (.inr (.inr (.inl ⟨hw, a, b, c, k _ ha, k _ hb, k _ hc, hp⟩))))
  · exact .inr (.inr (.inr (.inr (.inr ⟨hw, a, b, i, k _ ha, k _ hb, hp⟩))))
theorem Shp.le {M Ln : Str → Prop} {s : Stp} (h : Shp M Ln s) : s.ps.length ≤ 3 := by
  rcases h with ⟨_, hp⟩ | ⟨hw, a, ha, hp⟩ | ⟨hw, a, b, ha, hb, hp⟩ | ⟨hw, a, b, ha, hb, hl, hp⟩ | ⟨hw, a, b, c, ha, hb, hc, hp⟩ | ⟨hw, a, b, i, ha, hb, hp⟩ <;> (rw [hp]; exact Nat.le_of_ble_eq_true rfl)
def Wt (kvs : List (Key × D)) (n : Int) (z : Str) : Prop := ∃ v : Int, getK (.inr z) kvs = some (.int v) ∧ 0 ≤ v ∧ v ≤ n
def gz (k : List (Key × D)) (z : Str) : Int := match getK (.inr z) k with
  | some (.int v) => v
  | _ => 0
theorem gz_of {k : List (Key × D)} {z : Str} {v : Int} (h : getK (.inr z) k = some (.int v)) : gz k z = v := by
  unfold gz
  rw [h]
theorem gz_none {k : List (Key × D)} {z : Str} (h : getK (.inr z) k = none) : gz k z = 0 := by
  unfold gz
  rw [h]
def wv (W Y : List (Key × D)) (w : Str) (ps : List D) : Int := match ps with
  | [.str a] => gz W a + gz Y a + 2
  | [.str a, .str b] => if mk w ["foot", "mirror"] then gz W a + 2 * gz W b else if mk w ["along", "upright"] then gz W a + gz Y b else gz W a + gz W b
  | [.str a, .str b, .str c] => 2 * gz W a + gz W b + gz W c
  | [.str a, .str b, .int _] => gz W a + gz W b
  | _ => if 1 < W.length then 1 else 0
def FWeigh : FD := fun ds R _ => ∃ (W Y : List (Key × D)) (s : Stp), ds = [.dct W, s.d, .dct Y] ∧ Shp (Wt W 100) (Wt Y 200) s ∧ (∀ z c, getK (.inr z) Y = some c → ∃ v : Int, c = .int v ∧ 0 ≤ v ∧ v ≤ 200) ∧ s.ps.length ≤ 3 ∧
  ∀ v : Int, v = wv W Y s.w s.ps → 0 ≤ v → v ≤ 1000 → (s.w = "free" → v ≤ 1) → R (.int v)
def FTwo : FD := fun ds R _ => ∃ ns : List Str, ds = [.dk, .lst (ns.map D.str)] ∧ 2 ≤ ns.length ∧ ns.length ≤ 20 ∧ ∀ a b, a ∈ ns → b ∈ ns → R (.tup [.str a, .str b])
/-- steps, drawn one behind the other -/
structure Pg (L : List Stp) : Prop where
  nd : (L.map Stp.nm).Nodup
  low : ∀ s ∈ L, lowb s.nm = true
  len : L.length ≤ 14
  shp : ∀ s ∈ L, Shp (· ∈ L.map Stp.nm) (· ∈ knownL "L" L) s
def oC (c : Stp) : D := c.ps.getD 1 .non
def thr (l : Stp) : List D := if l.w = "line" then l.ps.take 2 else l.ps.take 1
def oT (c l : Stp) : Bool := mk l.w ["line", "along", "upright"] && inDs (oC c) (thr l)
def oG (c l : Stp) : D := .tup [.str l.nm, .str c.nm, oC c]
def oF (L : List Stp) (c : Stp) : List D := (L.filter (oT c)).map (oG c)
def othersL (L : List Stp) : List D := (L.filter fun s : Stp => decide (s.w = "circle")).flatMap (oF L)
theorem oth_step {L : List Stp} {f : Stp → Bool} {g : Stp → D} {j : Nat} {l : Stp} (h : L[j]? = some l) : ((L.take (j + 1)).filter f).map g = ((L.take j).filter f).map g ++ (if f l = true then [g l] else []) := by
  rw [List.take_succ, h, List.filter_append, List.map_append]
  congr 1
  show ([l].filter f).map g = _
  by_cases q : f l = true
  · rw [List.filter_cons_of_pos q, if_pos q]
    rfl
  · rw [List.filter_cons_of_neg q, if_neg q]
    rfl
def FOthers : FD := fun ds R _ => ∃ L : List Stp, ds = [.lst (L.map Stp.d)] ∧ Pg L ∧ ((othersL L).length ≤ 200 → (∀ t ∈ othersL L, ∃ a b c, a ∈ L.map Stp.nm ∧ b ∈ L.map Stp.nm ∧ c ∈ L.map Stp.nm ∧ t = .tup [.str a, .str b, .str c]) → R (.lst (othersL L)))
def FSome : FD := fun ds R _ => ∃ (L : List Stp) (nm : Str), ds = [.dk, .lst (L.map Stp.d), .str nm] ∧ Pg L ∧ 2 ≤ (knownL "P" L).length ∧ ∀ s : Stp, s.nm = nm → Shp (· ∈ L.map Stp.nm) (· ∈ knownL "L" L) s → R s.d
def FPlan : FD := fun ds R _ => ∃ m : Nat, ds = [.dk, .int (m : Nat), .int 99] ∧ 3 ≤ m ∧ m ≤ 12 ∧ ∀ L : List Stp, Pln L → L.length = m → 2 ≤ (knownL "P" L).length → R (.tup (L.map Stp.d))
def W8 : List Str := ["same", "row", "along", "upright", "alike", "angle", "ring", "at"]
def FClaim : FD := fun ds R _ => ∃ L : List Stp, ds = [.dk, .tup (L.map Stp.d)] ∧ Pln L ∧ 2 ≤ (knownL "P" L).length ∧ ∀ (w : Str) (ns : List Str), w ∈ W8 → ns.length ≤ 6 → (∀ z ∈ ns, lowb z = true) → R (.tup (.str w :: ns.map D.str))
theorem seq_ix {i : Int} {n : Nat} (h0 : 0 ≤ i) (h1 : i < n) : seqIndex? i n = some i.toNat := by
  unfold seqIndex?
  show (if (decide (0 ≤ (if i < 0 then i + ↑n else i)) && decide ((if i < 0 then i + ↑n else i) < ↑n)) = true then some (if i < 0 then i + ↑n else i).toNat else none) = _
  rw [if_neg (show ¬ i < 0 by omega), if_pos (by rw [decide_eq_true h0, decide_eq_true h1]; rfl)]
theorem erase_map {α β : Type} (g : α → β) : ∀ (l : List α) (i : Nat), (l.map g).eraseIdx i = (l.eraseIdx i).map g
  | [], _ => rfl
  | _ :: _, 0 => rfl
  | x :: l, i + 1 => by
    show g x :: (l.map g).eraseIdx i = g x :: (l.eraseIdx i).map g
    rw [erase_map g l i]
theorem Shp.flat {M Ln : Str → Prop} {s : Stp} (h : Shp M Ln s) : s.ps.all flatD = true := by
  rcases h with ⟨_, hp⟩ | ⟨hw, a, ha, hp⟩ | ⟨hw, a, b, ha, hb, hp⟩ | ⟨hw, a, b, ha, hb, hl, hp⟩ | ⟨hw, a, b, c, ha, hb, hc, hp⟩ | ⟨hw, a, b, i, ha, hb, hp⟩ <;> (rw [hp]; rfl)
theorem Shp.circle {M Ln : Str → Prop} {s : Stp} (h : Shp M Ln s) (e : s.w = "circle") : ∃ a b, M a ∧ M b ∧ s.ps = [.str a, .str b] := by
  rcases h with ⟨hw, hp⟩ | ⟨hw, a, ha, hp⟩ | ⟨hw, a, b, ha, hb, hp⟩ | ⟨hw, a, b, ha, hb, hl, hp⟩ | ⟨hw, a, b, c, ha, hb, hc, hp⟩ | ⟨hw, a, b, i, ha, hb, hp⟩
  · rw [e] at hw; exact absurd hw (by decide)
  · rw [e] at hw; exact absurd hw (by decide)
  · exact ⟨a, b, ha, hb, hp⟩
  · rw [e] at hw; exact absurd hw (by decide)
  · rw [e] at hw; exact absurd hw (by decide)
  · rw [e] at hw; exact absurd hw (by decide)
theorem flat_take {ps : List D} (h : ps.all flatD = true) (n : Nat) : (ps.take n).all flatD = true := List.all_eq_true.mpr fun x hx => List.all_eq_true.mp h x (List.mem_of_mem_take hx)
theorem known_sub {σ : Str} {L : List Stp} {z : Str} (h : z ∈ knownL σ L) : z ∈ L.map Stp.nm := by
  obtain ⟨t, ht, rfl⟩ := List.mem_map.mp h
  exact List.mem_map.mpr ⟨t, (List.mem_filter.mp ht).1, rfl⟩
theorem known_le {σ : Str} {L : List Stp} (h : L.length ≤ 14) : (knownL σ L).length ≤ 14 := by
  unfold knownL
  rw [List.length_map]
  exact Nat.le_trans (List.length_filter_le _ _) h
theorem okD_nm {ns : List Str} (h : ∀ z ∈ ns, lowb z = true) : okD (.lst (ns.map D.str)) := okD_lf (fun d hd => by
    obtain ⟨z, hz, rfl⟩ := List.mem_map.mp hd
    exact lowb_gd (h z hz)) (fun d hd => by
    obtain ⟨z, hz, rfl⟩ := List.mem_map.mp hd
    exact Nat.le_refl _)
theorem ne_nil {ns : List Str} (h : ¬ eqD (.lst (ns.map D.str)) (.lst []) = true) : 0 < ns.length := by
  cases ns with
  | nil => exact absurd (eqD_nil.mpr rfl) h
  | cons _ _ => exact Nat.succ_pos _
theorem pick_str {ns : List Str} {i : Nat} {x : D} (h : (ns.map D.str)[i]? = some x) : ∃ a, x = .str a ∧ a ∈ ns := by
  obtain ⟨a, ha, rfl⟩ := List.mem_map.mp (List.mem_of_getElem? h)
  exact ⟨a, rfl, ha⟩
def W14s : List Str := ["on", "round", "meet", "middle", "foot", "mirror", "turn", "other", "line", "line", "along", "upright", "circle", "free"]
theorem at_14 {i : Int} (h0 : 0 ≤ i) (h1 : i < 14) : ∃ w, atI (W14s.map D.str) i = some (.str w) := by
  obtain ⟨n, rfl⟩ := Int.eq_ofNat_of_zero_le h0
  have hn : n < W14s.length := by show n < 14; omega
  exact ⟨W14s[n], at_nat _ n _ (by rw [List.getElem?_map, List.getElem?_eq_getElem hn]; rfl)⟩
theorem okD_lf' {ds : List D} (h1 : ∀ d ∈ ds, tm d = true) (h2 : ∀ d ∈ ds, dep d ≤ 1) : okD (.lst ds) := by
  have h3 := deps_le h2
  refine okD_tm (show tms ds = true from tms_all h1) ?_
  show deps ds + 1 ≤ 60
  omega
theorem gz_set {k : List (Key × D)} {z y : Str} {d : D} (h : y ≠ z) : gz (setK (.inr z) d k) y = gz k y := by
  unfold gz
  rw [getK_setK (fun e => h (by injection e))]
theorem wv_set {M Ln : Str → Prop} {W Y : List (Key × D)} {w : Str} {ps : List D} {z : Str} {d : D} (h : ShpW M Ln w ps) (hz : ¬ M z) : wv W (setK (.inr z) d Y) w ps = wv W Y w ps := by
  have ne : ∀ y, M y → gz (setK (.inr z) d Y) y = gz Y y := fun y hy => gz_set fun e => hz (e ▸ hy)
  rcases h with ⟨_, rfl⟩ | ⟨hw, a, ha, rfl⟩ | ⟨hw, a, b, ha, hb, rfl⟩ | ⟨hw, a, b, ha, hb, hl, rfl⟩ | ⟨hw, a, b, c, ha, hb, hc, rfl⟩ | ⟨hw, a, b, i, ha, hb, rfl⟩
  · rfl
  · show gz W a + gz (setK (.inr z) d Y) a + 2 = gz W a + gz Y a + 2
    rw [ne a ha]
  · show (if mk w ["foot", "mirror"] then gz W a + 2 * gz W b else if mk w ["along", "upright"] then gz W a + gz (setK (.inr z) d Y) b else gz W a + gz W b) = (if mk w ["foot", "mirror"] then gz W a + 2 * gz W b else if mk w ["along", "upright"] then gz W a + gz Y b else gz W a + gz W b)
    rw [ne b hb]
  · show (if mk w ["foot", "mirror"] then gz W a + 2 * gz W b else if mk w ["along", "upright"] then gz W a + gz (setK (.inr z) d Y) b else gz W a + gz W b) = (if mk w ["foot", "mirror"] then gz W a + 2 * gz W b else if mk w ["along", "upright"] then gz W a + gz Y b else gz W a + gz W b)
    rw [ne b hb]
  · rfl
  · rfl
theorem Wt.set {k : List (Key × D)} {n : Int} {z y : Str} {d : D} (h : Wt k n y) (e : y ≠ z) : Wt (setK (.inr z) d k) n y := by
  obtain ⟨v, h1, h2⟩ := h
  exact ⟨v, by rw [getK_setK (fun q => e (by injection q))]; exact h1, h2⟩
theorem Wt.new {k : List (Key × D)} {n : Int} {z : Str} {v : Int} (h0 : 0 ≤ v) (h1 : v ≤ n) : Wt (setK (.inr z) (.int v) k) n z := ⟨v, getK_setK0 k, h0, h1⟩
theorem Wt.le {k : List (Key × D)} {n m : Int} {z : Str} (h : Wt k n z) (l : n ≤ m) : Wt k m z := by
  obtain ⟨v, h1, h2, h3⟩ := h
  exact ⟨v, h1, h2, Int.le_trans h3 l⟩
/-- the weights and the ways of steps drawn -/
structure Wy (L : List Stp) (W Y : List (Key × D)) : Prop where
  wl : W.length ≤ L.length
  yl : Y.length ≤ L.length
  w : ∀ z ∈ L.map Stp.nm, Wt W 99 z
  y : ∀ z ∈ knownL "L" L, Wt Y 198 z
  all : ∀ z c, getK (.inr z) Y = some c → ∃ v : Int, c = .int v ∧ 0 ≤ v ∧ v ≤ 198
theorem all_set {Y : List (Key × D)} {z : Str} {v : Int} (h : ∀ z c, getK (.inr z) Y = some c → ∃ v : Int, c = .int v ∧ 0 ≤ v ∧ v ≤ 198) (h0 : 0 ≤ v) (h1 : v ≤ 198) : ∀ y c, getK (.inr y) (setK (.inr z) (.int v) Y) = some c → ∃ v : Int, c = .int v ∧ 0 ≤ v ∧ v ≤ 198 := fun y c hc => by
  by_cases e : y = z
  · subst e
    rw [getK_setK0] at hc
    cases hc
    exact ⟨v, rfl, h0, h1⟩
  · rw [getK_setK (fun q => e (by injection q))] at hc
    exact h y c hc
/-- a step that goes on -/
structure Nx (L : List Stp) (z : Str) (s : Stp) : Prop where
  nm : s.nm = z
  shp : Shp (· ∈ L.map Stp.nm) (· ∈ knownL "L" L) s
  two : L.length < 2 → s.w = "free"
theorem nx_free (L : List Stp) (z : Str) : Nx L z ⟨"free", z, []⟩ := ⟨rfl, .inl ⟨rfl, rfl⟩, fun _ => rfl⟩
theorem known_snoc {σ : Str} {L : List Stp} {s : Stp} : knownL σ (L ++ [s]) = knownL σ L ++ (if sortOf s.w = σ then [s.nm] else []) := by
  unfold knownL
  rw [List.filter_append, List.map_append]
  congr 1
  show ([s].filter _).map _ = _
  by_cases q : sortOf s.w = σ
  · rw [List.filter_cons_of_pos (p := fun s : Stp => decide (sortOf s.w = σ)) (by simp [q]), if_pos q]; rfl
  · rw [List.filter_cons_of_neg (p := fun s : Stp => decide (sortOf s.w = σ)) (by simp [q]), if_neg q]; rfl
theorem sol_shp {M Ln : Str → Prop} {s : Stp} (h : Shp M Ln s) : solid s.d = true := by
  show solids (.str s.w :: .str s.nm :: s.ps) = true
  rcases h with ⟨_, hp⟩ | ⟨hw, a, ha, hp⟩ | ⟨hw, a, b, ha, hb, hp⟩ | ⟨hw, a, b, ha, hb, hl, hp⟩ | ⟨hw, a, b, c, ha, hb, hc, hp⟩ | ⟨hw, a, b, i, ha, hb, hp⟩ <;> (rw [hp]; rfl)
theorem Shp.word {M Ln : Str → Prop} {s : Stp} (h : Shp M Ln s) : s.w.length ≤ 40 := by
  have k : ∀ w ∈ (["free", "on", "round", "foot", "mirror", "meet", "middle", "line", "circle", "along", "upright", "other", "turn"] : List Str), w.length ≤ 40 := by decide
  refine k s.w ?_
  rcases h with ⟨hw, _⟩ | ⟨hw, _⟩ | ⟨hw, _⟩ | ⟨hw, _⟩ | ⟨hw, _⟩ | ⟨hw, _⟩
  · rw [hw]; decide
  · rcases hw with hw | hw <;> (rw [hw]; decide)
  · simp only [List.mem_cons, List.not_mem_nil, or_false] at hw
    rcases hw with h | h | h | h | h | h <;> (rw [h]; decide)
  · simp only [List.mem_cons, List.not_mem_nil, or_false] at hw
    rcases hw with h | h <;> (rw [h]; decide)
  · rw [hw]; decide
  · rw [hw]; decide
structure PgI (N : List Str) (i : Nat) (L : List Stp) : Prop where
  len : L.length = i
  nms : L.map Stp.nm = N.take i
  pg : Pg L
  two : min i 2 ≤ (knownL "P" L).length
theorem PgI.snoc {N : List Str} {i : Nat} {L : List Stp} {s : Stp} {z : Str} (p : PgI N i L) (hz : N[i]? = some z) (nd : N.Nodup) (low : ∀ z ∈ N, lowb z = true) (h14 : i < 14) (n : Nx L z s) : PgI N (i + 1) (L ++ [s]) ∧ z ∉ L.map Stp.nm := by
  have hlt := (List.getElem?_eq_some_iff.mp hz).1
  have nz : z ∉ L.map Stp.nm := fun h => by
    rw [p.nms] at h
    obtain ⟨j, hj, e⟩ := List.getElem_of_mem h
    rw [List.length_take] at hj
    rw [List.getElem_take] at e
    have := (List.getElem_inj (h₀ := by omega) (h₁ := hlt) nd).mp (e.trans ((List.getElem?_eq_some_iff.mp hz).2).symm)
    omega
  refine ⟨⟨by rw [List.length_append, p.len]; rfl, ?_, ⟨?_, ?_, by rw [List.length_append, p.len]; show i + 1 ≤ 14; omega, ?_⟩, ?_⟩, nz⟩
  · rw [List.map_append, p.nms, List.take_succ, hz]
    show _ ++ [s.nm] = _
    rw [n.nm]
    rfl
  · rw [List.map_append]
    refine List.nodup_append.mpr ⟨p.pg.nd, (List.nodup_cons.mpr ⟨List.not_mem_nil, List.nodup_nil⟩), fun a ha b hb e => ?_⟩
    have hb : b = s.nm := List.mem_singleton.mp hb
    subst e
    rw [hb, n.nm] at ha
    exact nz ha
  · intro t ht
    rcases List.mem_append.mp ht with h | h
    · exact p.pg.low t h
    · cases List.mem_singleton.mp h
      rw [n.nm]
      exact low z (List.mem_of_getElem? hz)
  · have m1 : ∀ y, y ∈ L.map Stp.nm → y ∈ (L ++ [s]).map Stp.nm := fun y h => by rw [List.map_append]; exact List.mem_append_left _ h
    have m2 : ∀ y, y ∈ knownL "L" L → y ∈ knownL "L" (L ++ [s]) := fun y h => by rw [known_snoc]; exact List.mem_append_left _ h
    intro t ht
    rcases List.mem_append.mp ht with h | h
    · exact (p.pg.shp t h).mono m1 m2
    · cases List.mem_singleton.mp h
      exact n.shp.mono m1 m2
  · rw [known_snoc, List.length_append]
    have := p.two
    by_cases h : i < 2
    · have hw := n.two (by rw [p.len]; exact h)
      rw [hw, if_pos (by decide)]
      show min (i + 1) 2 ≤ _ + 1
      omega
    · omega
theorem Shp.line {M Ln : Str → Prop} {s : Stp} (h : Shp M Ln s) (e : s.w = "line") : ∃ a b, M a ∧ M b ∧ s.ps = [.str a, .str b] := by
  rcases h with ⟨hw, hp⟩ | ⟨hw, a, ha, hp⟩ | ⟨hw, a, b, ha, hb, hp⟩ | ⟨hw, a, b, ha, hb, hl, hp⟩ | ⟨hw, a, b, c, ha, hb, hc, hp⟩ | ⟨hw, a, b, i, ha, hb, hp⟩
  · rw [e] at hw; exact absurd hw (by decide)
  · rw [e] at hw; exact absurd hw (by decide)
  · exact ⟨a, b, ha, hb, hp⟩
  · rw [e] at hw; exact absurd hw (by decide)
  · rw [e] at hw; exact absurd hw (by decide)
  · rw [e] at hw; exact absurd hw (by decide)
theorem Shp.alng {M Ln : Str → Prop} {s : Stp} (h : Shp M Ln s) (e : s.w ∈ (["along", "upright"] : List Str)) : ∃ a b, M a ∧ M b ∧ Ln b ∧ s.ps = [.str a, .str b] := by
  have e : s.w = "along" ∨ s.w = "upright" := by simpa using e
  rcases h with ⟨hw, hp⟩ | ⟨hw, a, ha, hp⟩ | ⟨hw, a, b, ha, hb, hp⟩ | ⟨hw, a, b, ha, hb, hl, hp⟩ | ⟨hw, a, b, c, ha, hb, hc, hp⟩ | ⟨hw, a, b, i, ha, hb, hp⟩
  · rcases e with e | e <;> (rw [e] at hw; exact absurd hw (by decide))
  · rcases e with e | e <;> (rw [e] at hw; exact absurd hw (by decide))
  · rcases e with e | e <;> (rw [e] at hw; exact absurd hw (by decide))
  · exact ⟨a, b, ha, hb, hl, hp⟩
  · rcases e with e | e <;> (rw [e] at hw; exact absurd hw (by decide))
  · rcases e with e | e <;> (rw [e] at hw; exact absurd hw (by decide))
theorem forms_w8 {w : Str} (h : w ∈ W8) : ∃ n : Nat, getK (.inr w) formsK = some (.int (n : Nat)) ∧ 2 ≤ n ∧ n ≤ 6 := by
  simp only [W8, List.mem_cons, List.not_mem_nil, or_false] at h
  rcases h with rfl | rfl | rfl | rfl | rfl | rfl | rfl | rfl
  · exact ⟨2, rfl, by decide, by decide⟩
  · exact ⟨3, rfl, by decide, by decide⟩
  · exact ⟨4, rfl, by decide, by decide⟩
  · exact ⟨4, rfl, by decide, by decide⟩
  · exact ⟨4, rfl, by decide, by decide⟩
  · exact ⟨6, rfl, by decide, by decide⟩
  · exact ⟨4, rfl, by decide, by decide⟩
  · exact ⟨2, rfl, by decide, by decide⟩
end K25
namespace K25
open PySem PySem.Spec PyProof.Rows L2 EL PH
def W14 : List Str := ["line", "on", "at", "row", "free", "same", "move", "out", "a", "circle", "none", "text", "i", "p"]
theorem nd_map {α β : Type} {f : α → β} {L : List α} (nd : L.Nodup) (inj : ∀ a ∈ L, ∀ b ∈ L, f a = f b → a = b) : (L.map f).Nodup := by
  rw [List.Nodup, List.pairwise_map]
  exact List.Pairwise.imp_of_mem (fun {a b} ha hb h e => h (inj a ha b hb e)) nd
theorem nm0 (a m : Nat) (ha : a < 8) (hm : m ≤ 14) : ((W14.drop a ++ W14.take a).take m).length = m ∧ ((W14.drop a ++ W14.take a).take m).Nodup ∧ ∀ z ∈ (W14.drop a ++ W14.take a).take m, lowb z = true := by
  have h : ∀ a : _root_.Fin 8, ((W14.drop a.1 ++ W14.take a.1).all lowb = true ∧ (W14.drop a.1 ++ W14.take a.1).length = 14) ∧ (W14.drop a.1 ++ W14.take a.1).Nodup := by decide +kernel
  obtain ⟨⟨h1, h2⟩, h3⟩ := h ⟨a, ha⟩
  dsimp only at h1 h2 h3
  exact ⟨by rw [List.length_take, h2]; omega, (List.take_sublist _ _).nodup h3, fun z hz => List.all_eq_true.mp h1 z (List.mem_of_mem_take hz)⟩
def cdk (i k : Nat) : Nat := 97 + (i + k) % 26
def ltk (i k : Nat) : Str := ⟨#[cdk i k]⟩
theorem ltk_len (i k : Nat) : (ltk i k).length = 1 := rfl
theorem ltk_sg (i k : Nat) : Sg AZ 1 (ltk i k) := sg_one (by unfold AZ cdk; omega)
theorem ltk_inj {i j k : Nat} (hj : j < 14) (hk : k < 14) {x y : Str} (h : ltk i j ++ x = ltk i k ++ y) : j = k := by
  have h : (ltk i j ++ x).cps.toList = (ltk i k ++ y).cps.toList := by rw [h]
  rw [app_list, app_list] at h
  have h : cdk i j :: x.cps.toList = cdk i k :: y.cps.toList := h
  injection h with h _
  unfold cdk at h
  omega
theorem app_left {A x y : Str} (h : A ++ x = A ++ y) : x.cps.toList = y.cps.toList := by
  have h : (A ++ x).cps.toList = (A ++ y).cps.toList := by rw [h]
  rw [app_list, app_list] at h
  exact List.append_cancel_left h
theorem ltk_mid {i j k : Nat} (hj : j < 14) (hk : k < 14) {A B : Str} (h : A ++ ltk i j ++ B = A ++ ltk i k ++ B) : j = k := by
  have h : (A ++ ltk i j ++ B).cps.toList = (A ++ ltk i k ++ B).cps.toList := by rw [h]
  rw [app_list, app_list, app_list, app_list] at h
  have h := List.append_cancel_left (List.append_cancel_right h)
  have h : [cdk i j] = [cdk i k] := h
  injection h with h _
  unfold cdk at h
  omega
theorem enum_ltk (i m : Nat) : enumD (((List.range m).map (ltk i)).map D.str) = (List.range m).map fun k => D.tup [.int (k : Nat), .str (ltk i k)] := by
  unfold enumD
  apply List.ext_getElem?
  intro n
  simp only [List.getElem?_map, List.getElem?_zipIdx, List.map_map]
  by_cases h : n < m
  · rw [List.getElem?_range h]
    simp
  · rw [List.getElem?_eq_none (by rw [List.length_range]; omega)]
    rfl
end K25
namespace K25
open PySem PySem.Spec PyProof.Rows L2 EL PH
section
variable {P : Program} {w : World} {K : PySem.W.Frag} {mg : Str → Option Value} {base : Heap}
abbrev GT__law_names (P : Program) (w : World) (base : Heap) (T : Tops K w mg) : Prop := FnOk P w K mg base CX0 2 T.f__law_names T.d__law_names ["_law_deck_here", "_law_many"] (spD K cl0 Deck 10 2 FNames)
theorem ok__law_names (T : Tops K w mg) (G__law_draw : GT__law_draw P w base T) : GT__law_names P w base T := by
  refine Fun.ok T.N__law_names.F sc__law_names (spD_len rfl) fun cdv A outer s H vs Q E hr h => bodyD (K := K) h (fun dk G xc DkAt hx hB => (ss_cons (s_set (i := 2) (ps_set (i := 2) sc__law_names.nd rfl (Or.inr rfl) d_str))
    (ss_cons (s_set (i := 3) (ps_set (i := 3) sc__law_names.nd rfl (Or.inl rfl) (d_callCc (cc := 10) rfl hB (pe_call G__law_draw (hr.mono (by decide)) rfl T.N__law_draw.m T.N__law_draw.F.kp T.N__law_draw.b .nil pass0 (a_cons (d_var 0 (pv 0)) (a_cons d_int a_nil))))))
    (ss_cons (s_set (i := 4) (ps_set (i := 4) sc__law_names.nd rfl (Or.inr rfl) (d_s1 (ok_join rfl) (pe_join d_str (d_f (f_lc (pe_lc (own := [("_law_k", 8)]) rfl sc__law_names.nd (i_rng1 (pi_range1 rfl T.z_range (a_cons (d_add rfl d_int (d_callCc (cc := 10) rfl hB (pe_call G__law_draw (hr.mono (by decide)) rfl T.N__law_draw.m T.N__law_draw.F.kp T.N__law_draw.b .nil pass0 (a_cons (d_var 0 (pv 0)) (a_cons d_int a_nil))))) a_nil))) (blkOk_by (own := [("_law_k", 8)]) (N := N_sc__law_names) (sc := defScope s__law_names) (by decide +kernel)) (fun _ _ _ _ _ => gx (vs := [8]) fun _ => (g_name (vs := [8]) (pg_name (i := 8) sc__law_names.nd rfl (Or.inl rfl)))) (fun _ _ _ _ _ => bx_yes) (fun _ _ _ _ _ => dx fun h0 => (d_item rfl (d_var 2 (pv 2)) (d_callCc (cc := 10) rfl (hB.withH h0) (pe_call G__law_draw (hr.mono (by decide)) rfl T.N__law_draw.m T.N__law_draw.F.kp T.N__law_draw.b .nil pass0 (a_cons (d_var 0 (pv 0)) (a_cons d_int a_nil)))) (fun _ _ => rfl))))))))))
    (ss_cons (s_set (i := 5) (ps_set (i := 5) sc__law_names.nd rfl (Or.inr rfl) (d_callCc (cc := 10) rfl hB (pe_call G__law_draw (hr.mono (by decide)) rfl T.N__law_draw.m T.N__law_draw.F.kp T.N__law_draw.b .nil pass0 (a_cons (d_var 0 (pv 0)) (a_cons (d_cb (ok_len rfl) (pe_callB call_lenD (by rfl) T.z_len (by decide +kernel) (a_cons (d_var 4 (pv 4)) a_nil))) a_nil))))))
    (ss_cons (s_if (b_cmp (op_eqPP hr.units) (ok_eqP rfl) (d_var 3 (pv 3)) d_int (nomark _)) (ss_cons (s_set (i := 6) (ps_set (i := 6) sc__law_names.nd rfl (Or.inl rfl) (d_f (f_lst (a_cons d_str (a_cons d_str (a_cons d_str (a_cons d_str (a_cons d_str (a_cons d_str (a_cons d_str (a_cons d_str (a_cons d_str (a_cons d_str (a_cons d_str (a_cons d_str (a_cons d_str (a_cons d_str a_nil))))))))))))))))))
    (ss_one (s_ret (d_sl rfl (pe_slice sl_D (d_add rfl (d_sl rfl (pe_slice sl_D (d_var 6 (pv 6)) (o_some (d_var 5 (pv 5))) o_none)) (d_sl rfl (pe_slice sl_D (d_var 6 (pv 6)) o_none (o_some (d_var 5 (pv 5)))))) o_none (o_some (d_var 1 (pv 1)))))))) ss_nil)
    (ss_cons (s_set (i := 7) (a_f (a_lc (ps_setLc (i := 7) (own := [("_law_k", 8)]) rfl sc__law_names.nd rfl rfl (sw_true rfl rfl rfl (by decide +kernel)) (i_rng1 (pi_range1 rfl T.z_range (a_cons (d_var 1 (pv 1)) a_nil))) (blkOk_by (own := [("_law_k", 8)]) (N := N_sc__law_names) (sc := defScope s__law_names) (by decide +kernel)) (fun _ _ _ _ _ => gx (vs := [8]) fun _ => (g_name (vs := [8]) (pg_name (i := 8) sc__law_names.nd rfl (Or.inl rfl)))) (fun _ _ _ _ _ => bx_yes) (fun _ _ _ _ _ => dx fun h0 => (d_item rfl (d_var 2 (pv 2)) (d_mod (d_add rfl (d_s1 ok_sindex (pe_m1 PySem.F.slot_str_index PySem.F.type_str_index mt_sindex (d_var 2 (pv 2)) (d_item rfl (d_var 4 (pv 4)) (d_var 5 (pv 5)) (fun _ _ => rfl)))) (d_var 8 (pv 8))) d_int) (fun _ _ => rfl)))))))
    (ss_cons (s_if (b_cmp (op_eqPP hr.units) (ok_eqP rfl) (d_var 3 (pv 3)) d_int (nomark _)) (ss_one (s_ret (d_f (f_lc (pe_lc (own := [("_law_letter", 9)]) rfl sc__law_names.nd (i_seq rfl (d_var 7 (pv 7))) (blkOk_by (own := [("_law_letter", 9)]) (N := N_sc__law_names) (sc := defScope s__law_names) (by decide +kernel)) (fun _ _ _ _ _ => gx (vs := [9]) fun _ => (g_name (vs := [9]) (pg_name (i := 9) sc__law_names.nd rfl (Or.inl rfl)))) (fun _ _ _ _ _ => bx_yes) (fun _ _ _ _ _ => dx fun h0 => (d_add rfl (d_add rfl (d_sl rfl (pe_slice sl_D (d_var 4 (pv 4)) o_none (o_some (d_var 5 (pv 5))))) (d_var 9 (pv 9))) (d_sl rfl (pe_slice sl_D (d_var 4 (pv 4)) (o_some (d_add rfl (d_var 5 (pv 5)) d_int)) o_none))))))))) ss_nil)
    (ss_one (s_ret (d_f (f_lc (pe_lc (own := [("_law_k", 8), ("_law_letter", 9)]) rfl sc__law_names.nd (i_enumB (pi_enumA rfl T.z_enumerate (a_cons (d_var 7 (pv 7)) a_nil))) (blkOk_by (own := [("_law_k", 8), ("_law_letter", 9)]) (N := N_sc__law_names) (sc := defScope s__law_names) (by decide +kernel)) (fun _ _ _ _ _ => gx (vs := [8, 9]) fun _ => (g_tup (bl_cons tame_n (bl_cons tame_n bl_nil)) (pg_tup (n := 2) rfl (gs_cons (g_name (vs := [8, 9]) (pg_name (i := 8) sc__law_names.nd rfl (Or.inl rfl))) (gs_cons (g_name (vs := [8, 9]) (pg_name (i := 9) sc__law_names.nd rfl (Or.inl rfl))) (gs_nil (vs := [8, 9])) (pgs_cons (g_name (vs := [8, 9]) (pg_name (i := 9) sc__law_names.nd rfl (Or.inl rfl))) (gs_nil (vs := [8, 9])))) (pgs_cons (g_name (vs := [8, 9]) (pg_name (i := 8) sc__law_names.nd rfl (Or.inl rfl))) (gs_cons (g_name (vs := [8, 9]) (pg_name (i := 9) sc__law_names.nd rfl (Or.inl rfl))) (gs_nil (vs := [8, 9])) (pgs_cons (g_name (vs := [8, 9]) (pg_name (i := 9) sc__law_names.nd rfl (Or.inl rfl))) (gs_nil (vs := [8, 9]))))))))) (fun _ _ _ _ _ => bx_yes) (fun _ _ _ _ _ => dx fun h0 => (d_add rfl (d_var 9 (pv 9)) (d_sl rfl (pe_slice sl_D (d_var 4 (pv 4)) o_none (o_some (d_mod (d_var 8 (pv 8)) d_int))))))))))))))))))) ?_
  rintro _ R xc - ⟨m, rfl, m0, m1, hR⟩
  refine ⟨rfl, by show 0 + 1 ≤ 10; decide, ⟨by decide, by decide⟩, fun way w0 w1 => ?_⟩
  refine ⟨rfl, by show 0 + 1 + 1 ≤ 10; decide, ⟨by decide, by decide⟩, fun u u0 u1 => ?_⟩
  obtain ⟨n, hn⟩ := Int.eq_ofNat_of_zero_le u0
  subst hn
  have hn : n < 7 := by omega
  refine ⟨⟨by omega, by omega⟩, ?_, ?_⟩
  · show (rngD 0 (1 + (n : Int)).toNat).length ≤ 1000000
    unfold rngD
    rw [List.length_map, List.length_range]
    omega
  show lcD _ _ _ _ (rngD 0 (1 + (n : Int)).toNat) [] _ _
  rw [show (1 + (n : Int)).toNat = n + 1 by omega]
  refine lc_inv (fun ds acc γ => ∃ (ys : List Str), (∃ f : Nat → D, ds = (List.range (n + 1 - ys.length)).map f) ∧ ys.length ≤ n + 1 ∧ acc = ys.map D.str ∧ (∀ y ∈ ys, Sg AZ 1 y ∧ y.length = 1) ∧
    γ = ⟨[.fz .dk, .fz (.int (m : Nat)), .fz (.str letters), .fz (.int way), .un, .un, .un, .un, .un, .un], 2 + ys.length⟩) ?_ ?_ _ _ _ ⟨[], ⟨_, rfl⟩, Nat.zero_le _, rfl, fun _ h => (by cases h), rfl⟩
  rotate_left
  · rintro d ds acc γ ⟨ys, ⟨f, e⟩, hl, rfl, hy, rfl⟩ next
    obtain ⟨q, hq⟩ : ∃ q, n + 1 - ys.length = q + 1 := by
      cases h : n + 1 - ys.length with
      | zero => rw [h] at e; cases e
      | succ q => exact ⟨q, rfl⟩
    rw [hq, List.range_succ_eq_map, List.map_cons, List.map_map] at e
    cases e
    refine ⟨fun _ => ?_, fun n => absurd trivial n⟩
    refine ⟨rfl, by show 2 + ys.length + 1 ≤ 10; omega, ⟨by decide, by decide⟩, fun i i0 i1 => ?_⟩
    obtain ⟨e1, e2⟩ := letter_at2 i i0 i1
    refine ⟨by show letters.length ≤ 1000000; rw [letters_len]; decide, _, e1, ?_⟩
    refine next _ _ ⟨ys ++ [⟨#[97 + i.toNat]⟩], ⟨_, by rw [List.length_append, show n + 1 - (ys.length + [(⟨#[97 + i.toNat]⟩ : Str)].length) = q by show n + 1 - (ys.length + 1) = q; omega]⟩, by rw [List.length_append]; show ys.length + 1 ≤ n + 1; omega, by rw [List.map_append]; rfl, fun y h => ?_, ?_⟩
    · rcases List.mem_append.mp h with h | h
      · exact hy y h
      · cases List.mem_singleton.mp h
        exact ⟨sg_one e2, rfl⟩
    · rw [List.length_append]; rfl
  rintro acc γ ⟨ys, ⟨f, e⟩, hl, rfl, hy, rfl⟩
  have h8 : ys.length = n + 1 := by
    cases q : n + 1 - ys.length with
    | zero => omega
    | succ m => rw [q, List.range_succ_eq_map] at e; cases e
  obtain ⟨j1, j2⟩ := join_az ys hy
  rw [h8] at j1 j2
  rw [h8]
  refine ⟨ys, rfl, ?_, ?_⟩
  · have : (ys.map (·.length)).sum = (Txt.join "" ys).length := by rw [join_len]; show _ = _ + (ys.length - 1) * 0; omega
    rw [this, j2]
    have : ("" : Str).length = 0 := rfl
    rw [this]
    omega
  generalize Txt.join "" ys = wd at *
  have sw : Sg AZ (n + 1) wd := j1
  have wl : wd.length = n + 1 := j2
  refine ⟨by omega, rfl, by show 2 + (n + 1) + 1 ≤ 10; omega, ⟨by show (0 : Int) < ((wd.length : Nat) : Int); omega, by show ((wd.length : Nat) : Int) < 2 ^ 60; omega⟩, fun at' a0 a1 => ?_⟩
  obtain ⟨a, rfl⟩ := Int.eq_ofNat_of_zero_le a0
  have ha : a < n + 1 := by
    have : (a : Int) < ((wd.length : Nat) : Int) := a1
    omega
  refine ⟨fun hp => ?_, fun hp => ?_⟩
  · have e1 : cutD (W14.map D.str) (some (a : Int)) none = (W14.drop a).map D.str := by rw [cutD_from, List.map_drop]
    have e2 : cutD (W14.map D.str) none (some (a : Int)) = (W14.take a).map D.str := by rw [cutD_to, List.map_take]
    have l14 : W14.length = 14 := rfl
    refine ⟨by show 14 ≤ 1000000; decide, ?_⟩
    refine ⟨?_, ?_⟩
    · show (cutD (W14.map D.str) (some (a : Int)) none).length + (cutD (W14.map D.str) none (some (a : Int))).length ≤ 1000000
      rw [e1, e2, List.length_map, List.length_map, List.length_drop, List.length_take, l14]
      omega
    · show R (.lst (cutD (cutD (W14.map D.str) (some (a : Int)) none ++ cutD (W14.map D.str) none (some (a : Int))) none (some (m : Int))))
      rw [e1, e2, ← List.map_append, cutD_to, ← List.map_take]
      obtain ⟨q1, q2, q3⟩ := nm0 a m (by omega) m1
      exact hR _ q1 q2 q3
  · refine ⟨⟨by omega, by omega⟩, ?_, ?_⟩
    · show (rngD 0 (m : Int).toNat).length ≤ 1000000
      unfold rngD
      rw [List.length_map, List.length_range]
      omega
    show lcD _ _ _ _ (rngD 0 (m : Int).toNat) [] _ _
    rw [show (m : Int).toNat = m by omega]
    have hg : wd.cps.toList[a]? = some (wd.cps.toList[a]'(by rw [sl_len]; omega)) := List.getElem?_eq_getElem _
    generalize wd.cps.toList[a]'(by rw [sl_len]; omega) = c at hg
    have hc : AZ c := j1.1 c (List.mem_of_getElem? hg)
    obtain ⟨i, rest, ho, hi⟩ := letter_ix c hc
    show lcD _ _ _ _ ((List.range m).map fun k : Nat => D.int (0 + k)) [] _ _
    refine lc_filt (fun k : Nat => D.int (0 + k)) (fun k => .str (ltk i k)) (fun _ => true) (List.range m) ?_ (List.range m) [] _ (fun _ h => h) ?_
    · intro k hk R R' k1 k2
      have hk := List.mem_range.mp hk
      refine ⟨fun _ => ?_, fun n => absurd trivial n⟩
      obtain ⟨e1, e2⟩ := letter_at2 ((((i : Nat) : Int) + (0 + (k : Int))) % 26) (Int.emod_nonneg _ (by decide)) (Int.emod_lt_of_pos _ (by decide))
      refine ⟨by show wd.length ≤ 1000000; omega, c, at_nat _ _ _ hg, i, rest, ho, by decide, by show letters.length ≤ 1000000; rw [letters_len]; decide, _, e1, ?_⟩
      rw [show 97 + ((((i : Nat) : Int) + (0 + (k : Int))) % 26).toNat = cdk i k by unfold cdk; omega]
      exact k1 rfl _ rfl
    rw [List.nil_append, List.filter_eq_self.mpr (fun _ _ => rfl)]
    have eL : (List.range m).map (fun k => D.str (ltk i k)) = ((List.range m).map (ltk i)).map D.str := by rw [List.map_map]; rfl
    rw [eL]
    have cA : ∀ k : Nat, (lowb (cutS wd none (some (a : Int)) ++ ltk i k ++ cutS wd (some ((a : Int) + 1)) none) = true) ∧ (cutS wd none (some (a : Int))).length + 1 ≤ 1000000 ∧ (cutS wd none (some (a : Int)) ++ ltk i k).length + (cutS wd (some ((a : Int) + 1)) none).length ≤ 1000000 := by
      intro k
      have la : (cutS wd none (some (a : Int))).length = a := cutS_to wd a (by omega)
      have lb : (cutS wd (some ((a : Int) + 1)) none).length = n + 1 - (a + 1) := by rw [show ((a : Int) + 1) = ((a + 1 : Nat) : Int) by omega, cutS_from wd (a + 1) (by omega), wl]
      refine ⟨lowb_of (((sw.cut _ _).app (ltk_sg i k)).app (sw.cut _ _)) (by rw [app_len, app_len, la, lb, ltk_len]; omega) (by rw [app_len, app_len, la, lb, ltk_len]; omega), by rw [la]; omega, by rw [app_len, la, lb, ltk_len]; omega⟩
    refine ⟨fun hq => ?_, fun hq => ?_⟩
    · refine ⟨by show (((List.range m).map (ltk i)).map D.str).length ≤ 1000000; rw [List.length_map, List.length_map, List.length_range]; omega, ?_⟩
      show lcD _ _ _ _ (((List.range m).map (ltk i)).map D.str) [] _ _
      rw [List.map_map]
      refine lc_filt (D.str ∘ ltk i) (fun k => .str (cutS wd none (some (a : Int)) ++ ltk i k ++ cutS wd (some ((a : Int) + 1)) none)) (fun _ => true) (List.range m) ?_ (List.range m) [] _ (fun _ h => h) ?_
      · intro k hk R R' k1 k2
        refine ⟨fun _ => ?_, fun n => absurd trivial n⟩
        have wb : wd.length ≤ 1000000 := by omega
        exact ⟨wb, (cA k).2.1, wb, (cA k).2.2, k1 rfl _ rfl⟩
      · rw [List.nil_append, List.filter_eq_self.mpr (fun _ _ => rfl)]
        have h := hR ((List.range m).map fun k => cutS wd none (some (a : Int)) ++ ltk i k ++ cutS wd (some ((a : Int) + 1)) none) (by rw [List.length_map, List.length_range])
          (nd_map List.nodup_range fun j hj k hk e => ltk_mid (by have := List.mem_range.mp hj; omega) (by have := List.mem_range.mp hk; omega) e)
          (fun z hz => by
            obtain ⟨k, _, rfl⟩ := List.mem_map.mp hz
            exact (cA k).1)
        rw [List.map_map] at h
        exact h
    · refine ⟨by show (enumD (((List.range m).map (ltk i)).map D.str)).length ≤ 1000000; rw [enum_ltk, List.length_map, List.length_range]; omega, ?_⟩
      show lcD _ _ _ _ (enumD (((List.range m).map (ltk i)).map D.str)) [] _ _
      rw [enum_ltk]
      have cB : ∀ k : Nat, lowb (ltk i k ++ cutS wd none (some ((k : Int) % 8))) = true ∧ (ltk i k).length + (cutS wd none (some ((k : Int) % 8))).length ≤ 1000000 := by
        intro k
        obtain ⟨e, he, h8⟩ : ∃ e : Nat, ((k : Int) % 8) = e ∧ e < 8 := ⟨k % 8, by omega, by omega⟩
        rw [he]
        have := (sw.cut none (some (e : Int))).2
        by_cases q : e ≤ n + 1
        · have le : (cutS wd none (some (e : Int))).length = e := cutS_to wd e (by omega)
          exact ⟨lowb_of ((ltk_sg i k).app (sw.cut _ _)) (by rw [app_len, ltk_len]; omega) (by rw [app_len, ltk_len, le]; omega), by rw [ltk_len, le]; omega⟩
        · exact ⟨lowb_of ((ltk_sg i k).app (sw.cut _ _)) (by rw [app_len, ltk_len]; omega) (by rw [app_len, ltk_len]; omega), by rw [ltk_len]; omega⟩
      refine lc_filt (fun k : Nat => D.tup [.int (k : Nat), .str (ltk i k)]) (fun k => .str (ltk i k ++ cutS wd none (some ((k : Int) % 8)))) (fun _ => true) (List.range m) ?_ (List.range m) [] _ (fun _ h => h) ?_
      · intro k hk R R' k1 k2
        refine ⟨fun _ => ?_, fun n => absurd trivial n⟩
        have wb : wd.length ≤ 1000000 := by omega
        exact ⟨by decide, wb, (cB k).2, k1 rfl _ rfl⟩
      · rw [List.nil_append, List.filter_eq_self.mpr (fun _ _ => rfl)]
        have h := hR ((List.range m).map fun k : Nat => ltk i k ++ cutS wd none (some ((k : Int) % 8))) (by rw [List.length_map, List.length_range])
          (nd_map List.nodup_range fun j hj k hk e => ltk_inj (by have := List.mem_range.mp hj; omega) (by have := List.mem_range.mp hk; omega) e)
          (fun z hz => by
            obtain ⟨k, _, rfl⟩ := List.mem_map.mp hz
            exact (cB k).1)
        rw [List.map_map] at h
        exact h
end
end K25
namespace K25
open PySem PySem.Spec PyProof.Rows L2 EL PH
section
variable {P : Program} {w : World} {K : PySem.W.Frag} {mg : Str → Option Value} {base : Heap}
abbrev GT__law_weigh (P : Program) (w : World) (base : Heap) (T : Tops K w mg) : Prop := FnOk P w K mg base CX0 1 T.f__law_weigh T.d__law_weigh ["_law_weights", "_law_step", "_law_ways"] (spD K cl0 Deck 0 3 FWeigh)
theorem ok__law_weigh (T : Tops K w mg)  : GT__law_weigh P w base T := by
  refine Fun.ok T.N__law_weigh.F sc__law_weigh (spD_len rfl) fun cdv A outer s H vs Q E hr h => bodyD (K := K) h (fun dk G xc DkAt hx hB => (ss_cons (s_par (ps_par (i := 3) (j := 4) rfl sc__law_weigh.nd rfl rfl (by decide) rfl rfl (a_cons (d_item rfl (d_var 1 (pv 1)) d_int (fun _ _ => rfl)) (a_cons (d_f (f_lc (pe_lc (own := [("_law_one", 5)]) rfl sc__law_weigh.nd (i_seq rfl (d_sl rfl (pe_slice sl_D (d_var 1 (pv 1)) (o_some d_int) o_none))) (blkOk_by (own := [("_law_one", 5)]) (N := N_sc__law_weigh) (sc := defScope s__law_weigh) (by decide +kernel)) (fun _ _ _ _ _ => gx (vs := [5]) fun _ => (g_name (vs := [5]) (pg_name (i := 5) sc__law_weigh.nd rfl (Or.inl rfl)))) (fun _ _ _ _ _ => bx_one fun h0 => (b_val (d_cb (ok_isi rfl kt_str) (pe_callB (call_isiB (T := "str")) (by rfl) T.z_isinstance (by decide +kernel) (a_cons (d_var 5 (pv 5)) (a_cons (d_opq (pe_bltn (by rfl) T.z_str (by decide +kernel) (show RelV (.ty "str") (.type "str") from rfl))) a_nil)))))) (fun _ _ _ _ _ => dx fun h0 => (d_dget (pe_dget (hu_of hr) (d_var 0 (pv 0)) (d_var 5 (pv 5)) (fun _ _ => rfl))))))) a_nil)) (by rfl)))
    (ss_cons (s_if (b_cmp (op_eqPP hr.units) (ok_eqP rfl) (d_var 3 (pv 3)) d_str (nomark _)) (ss_one (s_ret (d_cb ok_int1 (pe_callTy call_int1 (by rfl) T.z_int (by decide +kernel) (a_cons (d_cmp op_gt ok_gtP (d_cb ok_lenK (pe_callB L2.call_lenD (by rfl) T.z_len (by decide +kernel) (a_cons (d_var 0 (pv 0)) a_nil))) d_int (nomark _)) a_nil))))) ss_nil)
    (ss_cons (s_if (b_cmp op_in_seq (ok_inP rfl) (d_var 3 (pv 3)) (d_tup (a_cons d_str (a_cons d_str a_nil))) (by rfl)) (ss_one (s_ret (d_add rfl (d_add rfl (d_item rfl (d_var 4 (pv 4)) d_int (fun _ _ => rfl)) (d_dget2 (pe_dget2 (hu_of hr) (d_var 2 (pv 2)) (d_item rfl (d_var 1 (pv 1)) d_int (fun _ _ => rfl)) d_int ⟨rfl, rfl, rfl, rfl⟩))) d_int))) ss_nil)
    (ss_cons (s_if (b_cmp op_in_seq (ok_inP rfl) (d_var 3 (pv 3)) (d_tup (a_cons d_str (a_cons d_str a_nil))) (by rfl)) (ss_one (s_ret (d_add rfl (d_item rfl (d_var 4 (pv 4)) d_int (fun _ _ => rfl)) (d_mul d_int (d_item rfl (d_var 4 (pv 4)) d_int (fun _ _ => rfl)))))) ss_nil)
    (ss_cons (s_if (b_cmp (op_eqPP hr.units) (ok_eqP rfl) (d_var 3 (pv 3)) d_str (nomark _)) (ss_one (s_ret (d_add rfl (d_add rfl (d_mul d_int (d_item rfl (d_var 4 (pv 4)) d_int (fun _ _ => rfl))) (d_item rfl (d_var 4 (pv 4)) d_int (fun _ _ => rfl))) (d_item rfl (d_var 4 (pv 4)) d_int (fun _ _ => rfl))))) ss_nil)
    (ss_one (s_ret (d_add rfl (d_item rfl (d_var 4 (pv 4)) d_int (fun _ _ => rfl)) (d_ifE (b_cmp op_in_seq (ok_inP rfl) (d_var 3 (pv 3)) (d_tup (a_cons d_str (a_cons d_str a_nil))) (by rfl)) (d_dget (pe_dget (hu_of hr) (d_var 2 (pv 2)) (d_item rfl (d_var 1 (pv 1)) d_int (fun _ _ => rfl)) (fun _ _ => rfl))) (d_item rfl (d_var 4 (pv 4)) d_int (fun _ _ => rfl)))))))))))) ?_
  rintro _ R xc - ⟨W, Y, s, rfl, hs, hY, hl, hR⟩
  obtain ⟨w, nm, ps⟩ := s
  have hcut : EL.cutD (D.str w :: D.str nm :: ps) (some 2) none = ps := cutD_2
  refine ⟨_, at_0, ?_⟩
  refine ⟨(by show (EL.cutD (D.str w :: D.str nm :: ps) (some 2) none).length ≤ 1000000; rw [hcut]; have : ps.length ≤ 3 := hl; omega), ?_⟩
  show lcD _ _ _ _ (EL.cutD (D.str w :: D.str nm :: ps) (some 2) none) [] _ _
  rw [hcut]
  have inw : ∀ {ns : List Str}, w ∈ ns → (inDs (.str w) (ns.map D.str) = true ↔ false = false) := fun h => by rw [inDs_str, mk_iff]; exact iff_of_true h rfl
  have niw : ∀ {ns : List Str}, w ∉ ns → ¬ (inDs (.str w) (ns.map D.str) = true ↔ false = false) := fun h => by rw [inDs_str, mk_iff]; exact fun k => h (k.mpr rfl)
  have hs : ShpW (Wt W 100) (Wt Y 200) w ps := hs
  have hR : ∀ v : Int, v = wv W Y w ps → 0 ≤ v → v ≤ 1000 → (w = "free" → v ≤ 1) → R (.int v) := hR
  clear hcut
  rcases hs with ⟨hw, hp⟩ | ⟨hw, a, ⟨va, ha, a0, a1⟩, hp⟩ | ⟨hw, a, b, ⟨va, ha, a0, a1⟩, ⟨vb, hb, b0, b1⟩, hp⟩ | ⟨hw, a, b, ⟨va, ha, a0, a1⟩, ⟨vb, hb, b0, b1⟩, ⟨vl, hlb, l0, l1⟩, hp⟩ | ⟨hw, a, b, c, ⟨va, ha, a0, a1⟩, ⟨vb, hb, b0, b1⟩, ⟨vc, hc, c0, c1⟩, hp⟩ | ⟨hw, a, b, i, ⟨va, ha, a0, a1⟩, ⟨vb, hb, b0, b1⟩, hp⟩
  · skip
    subst hp
    refine ⟨fun _ => fun b hb => ?_, fun n => absurd hw n⟩
    have hb : b = true ↔ ((W.length : Nat) : Int) > 1 := hb
    refine hR _ ?_ ?_ ?_ fun _ => ?_
    · show _ = (if 1 < W.length then (1 : Int) else 0)
      by_cases q : 1 < W.length
      · rw [if_pos q, hb.mpr (by omega)]; rfl
      · rw [if_neg q]
        cases b with
        | true => have := hb.mp rfl; omega
        | false => rfl
    all_goals cases b <;> decide
  · skip
    subst hp
    have nf : ¬ w = "free" := by rcases hw with h | h <;> (rw [h]; decide)
    refine ⟨_, rfl, fun _ => ⟨_, ha, ?_⟩, fun n => (n rfl).elim⟩
    refine ⟨fun h => absurd h nf, fun _ => ⟨Nat.le_of_ble_eq_true rfl, ⟨rfl, rfl⟩, fun _ => ?_, fun n => absurd (inw (ns := ["on", "round"]) (by simpa using hw)) n⟩⟩
    have a2 : atI [D.str w, D.str nm, D.str a] 2 = some (D.str a) := at_nat _ 2 _ rfl
    refine ⟨_, at_0, ⟨_, rfl⟩, _, a2, fun c hc => ?_, fun hc => ?_⟩
    · obtain ⟨v, rfl, v0, v1⟩ := hY _ _ hc
      exact hR _ (by show _ = gz W a + gz Y a + 2; rw [gz_of ha, gz_of hc]) (by omega) (by omega) fun h => absurd h nf
    · exact hR _ (by show _ = gz W a + gz Y a + 2; rw [gz_of ha, gz_none hc]) (by omega) (by omega) fun h => absurd h nf
  · skip
    subst hp
    have nf : ¬ w = "free" := fun h => by rw [h] at hw; revert hw; decide
    have nr : w ∉ (["on", "round"] : List Str) := fun h => by
      simp only [List.mem_cons, List.not_mem_nil, or_false] at h
      rcases h with h | h <;> (rw [h] at hw; revert hw; decide)
    have no : ¬ w = "other" := fun h => by rw [h] at hw; revert hw; decide
    have na : w ∉ (["along", "upright"] : List Str) := fun h => by
      simp only [List.mem_cons, List.not_mem_nil, or_false] at h
      rcases h with h | h <;> (rw [h] at hw; revert hw; decide)
    refine ⟨_, rfl, fun _ => ⟨_, ha, _, rfl, fun _ => ⟨_, hb, ?_⟩, fun n => (n rfl).elim⟩, fun n => (n rfl).elim⟩
    refine ⟨fun h => absurd h nf, fun _ => ⟨Nat.le_of_ble_eq_true rfl, ⟨rfl, rfl⟩, fun h => absurd h (niw nr), fun _ => ⟨Nat.le_of_ble_eq_true rfl, ⟨rfl, rfl⟩, fun hq => ?_, fun hq => ⟨fun h => absurd h no, fun _ => ?_⟩⟩⟩⟩
    · exact ⟨_, at_0, _, at_1, mulx_ok (a := 8) (b := 8) (by decide) (by omega) (by decide), hR _ (by show _ = (if mk w ["foot", "mirror"] then gz W a + 2 * gz W b else _); rw [in_t (ns := ["foot", "mirror"]) (neg := false) hq, gz_of ha, gz_of hb]; rfl) (by omega) (by omega) fun h => absurd h nf⟩
    · exact ⟨_, at_0, Nat.le_of_ble_eq_true rfl, ⟨rfl, rfl⟩, fun h => absurd h (niw na), fun _ => ⟨_, at_1, hR _ (by show _ = (if mk w ["foot", "mirror"] then gz W a + 2 * gz W b else if mk w ["along", "upright"] then gz W a + gz Y b else gz W a + gz W b); rw [in_f (ns := ["foot", "mirror"]) (neg := false) hq, in_f (ns := ["along", "upright"]) (neg := false) (niw na), gz_of ha, gz_of hb]; rfl) (by omega) (by omega) fun h => absurd h nf⟩⟩
  · skip
    subst hp
    have nf : ¬ w = "free" := fun h => by rw [h] at hw; revert hw; decide
    have nr : w ∉ (["on", "round"] : List Str) := fun h => by
      simp only [List.mem_cons, List.not_mem_nil, or_false] at h
      rcases h with h | h <;> (rw [h] at hw; revert hw; decide)
    have no : ¬ w = "other" := fun h => by rw [h] at hw; revert hw; decide
    have nm' : w ∉ (["foot", "mirror"] : List Str) := fun h => by
      simp only [List.mem_cons, List.not_mem_nil, or_false] at h
      rcases h with h | h <;> (rw [h] at hw; revert hw; decide)
    have a3 : atI [D.str w, D.str nm, D.str a, D.str b] 3 = some (D.str b) := at_nat _ 3 _ rfl
    refine ⟨_, rfl, fun _ => ⟨_, ha, _, rfl, fun _ => ⟨_, hb, ?_⟩, fun n => (n rfl).elim⟩, fun n => (n rfl).elim⟩
    refine ⟨fun h => absurd h nf, fun _ => ⟨Nat.le_of_ble_eq_true rfl, ⟨rfl, rfl⟩, fun h => absurd h (niw nr), fun _ => ⟨Nat.le_of_ble_eq_true rfl, ⟨rfl, rfl⟩, fun h => absurd h (niw nm'), fun _ => ⟨fun h => absurd h no, fun _ => ?_⟩⟩⟩⟩
    exact ⟨_, at_0, Nat.le_of_ble_eq_true rfl, ⟨rfl, rfl⟩, fun _ => ⟨_, a3, _, hlb, hR _ (by show _ = (if mk w ["foot", "mirror"] then gz W a + 2 * gz W b else if mk w ["along", "upright"] then gz W a + gz Y b else gz W a + gz W b); rw [in_f (ns := ["foot", "mirror"]) (neg := false) (niw nm'), in_t (ns := ["along", "upright"]) (neg := false) (inw hw), gz_of ha, gz_of hlb]; rfl) (by omega) (by omega) fun h => absurd h nf⟩, fun n => absurd (inw hw) n⟩
  · skip
    subst hp hw
    have a2 : ∀ x y z : D, atI [x, y, z] 2 = some z := fun x y z => at_nat _ 2 _ rfl
    refine ⟨_, rfl, fun _ => ⟨_, ha, _, rfl, fun _ => ⟨_, hb, _, rfl, fun _ => ⟨_, hc, ?_⟩, fun n => (n rfl).elim⟩, fun n => (n rfl).elim⟩, fun n => (n rfl).elim⟩
    refine ⟨fun h => absurd h (by decide : ¬ ("other" : Str) = "free"), fun _ => ⟨Nat.le_of_ble_eq_true rfl, ⟨rfl, rfl⟩, fun h => absurd h (niw (ns := ["on", "round"]) (by decide)), fun _ => ⟨Nat.le_of_ble_eq_true rfl, ⟨rfl, rfl⟩, fun h => absurd h (niw (ns := ["foot", "mirror"]) (by decide)), fun _ => ⟨fun _ => ?_, fun n => absurd rfl n⟩⟩⟩⟩
    exact ⟨_, at_0, mulx_ok (a := 8) (b := 8) (by decide) (by omega) (by decide), _, at_1, _, a2 _ _ _, hR _ (by show _ = 2 * gz W a + gz W b + gz W c; rw [gz_of ha, gz_of hb, gz_of hc]) (by omega) (by omega) fun h => absurd h (by decide : ¬ ("other" : Str) = "free")⟩
  · skip
    subst hp hw
    refine ⟨_, rfl, fun _ => ⟨_, ha, _, rfl, fun _ => ⟨_, hb, _, rfl, fun h => absurd h (by decide), fun _ => ?_⟩, fun n => (n rfl).elim⟩, fun n => (n rfl).elim⟩
    refine ⟨fun h => absurd h (by decide : ¬ ("turn" : Str) = "free"), fun _ => ⟨Nat.le_of_ble_eq_true rfl, ⟨rfl, rfl⟩, fun h => absurd h (niw (ns := ["on", "round"]) (by decide)), fun _ => ⟨Nat.le_of_ble_eq_true rfl, ⟨rfl, rfl⟩, fun h => absurd h (niw (ns := ["foot", "mirror"]) (by decide)), fun _ => ⟨fun h => absurd h (by decide : ¬ ("turn" : Str) = "other"), fun _ => ?_⟩⟩⟩⟩
    exact ⟨_, at_0, Nat.le_of_ble_eq_true rfl, ⟨rfl, rfl⟩, fun h => absurd h (niw (ns := ["along", "upright"]) (by decide)), fun _ => ⟨_, at_1, hR _ (by show _ = gz W a + gz W b; rw [gz_of ha, gz_of hb]) (by omega) (by omega) fun h => absurd h (by decide : ¬ ("turn" : Str) = "free")⟩⟩
end
end K25
namespace K25
open PySem PySem.Spec PyProof.Rows L2 EL PH
section
variable {P : Program} {w : World} {K : PySem.W.Frag} {mg : Str → Option Value} {base : Heap}
abbrev GT__law_two (P : Program) (w : World) (base : Heap) (T : Tops K w mg) : Prop := FnOk P w K mg base CX0 2 T.f__law_two T.d__law_two ["_law_deck_here", "_law_some"] (spD K cl0 Deck 2 2 FTwo)
theorem ok__law_two (T : Tops K w mg) (G__law_draw : GT__law_draw P w base T) : GT__law_two P w base T := by
  refine Fun.ok T.N__law_two.F sc__law_two (spD_len rfl) fun cdv A outer s H vs Q E hr h => bodyD (K := K) h (fun dk G xc DkAt hx hB => (ss_cons (s_own (i := 2) (ps_set (i := 2) sc__law_two.nd rfl (Or.inl rfl) (f_listOf rfl (pe_callTy call_list_of (by rfl) T.z_list (by decide +kernel) (a_cons (d_var 1 (pv 1)) a_nil)))))
    (ss_cons (s_set (i := 3) (ps_set (i := 3) sc__law_two.nd rfl (Or.inl rfl) (d_mut ok_popAtM (pe_bm PySem.F.plainAttrs_list PySem.F.slot_list_pop PySem.F.type_list_pop mt_popAt (pv 2) (a_cons (d_lend (d_callCc (cc := 2) rfl hB (pe_call G__law_draw (hr.mono (by decide)) rfl T.N__law_draw.m T.N__law_draw.F.kp T.N__law_draw.b .nil pass0 (a_cons (d_var 0 (pv 0)) (a_cons (d_cb (ok_len rfl) (pe_callB call_lenD (by rfl) T.z_len (by decide +kernel) (a_cons (d_var 2 (pv 2)) a_nil))) a_nil))))) a_nil)))))
    (ss_one (s_ret (d_tup (a_cons (d_var 3 (pv 3)) (a_cons (d_mut ok_popAtM (pe_bm PySem.F.plainAttrs_list PySem.F.slot_list_pop PySem.F.type_list_pop mt_popAt (pv 2) (a_cons (d_lend (d_callCc (cc := 2) rfl hB (pe_call G__law_draw (hr.mono (by decide)) rfl T.N__law_draw.m T.N__law_draw.F.kp T.N__law_draw.b .nil pass0 (a_cons (d_var 0 (pv 0)) (a_cons (d_cb (ok_len rfl) (pe_callB call_lenD (by rfl) T.z_len (by decide +kernel) (a_cons (d_var 2 (pv 2)) a_nil))) a_nil))))) a_nil))) a_nil)))))))) ?_
  rintro _ R xc - ⟨ns, rfl, h2, h20, hR⟩
  intro p
  have ll : (ns.map D.str).length = ns.length := List.length_map ..
  refine ⟨⟨_, _, rfl⟩, rfl, by show 0 + 1 ≤ 2; decide, ⟨by show (0 : Int) < ((ns.map D.str).length : Nat); rw [ll]; omega, by show (((ns.map D.str).length : Nat) : Int) < 2 ^ 60; rw [ll]; omega⟩, fun i i0 i1 => ⟨rfl, [], rfl, ?_⟩⟩
  have i1 : i < (((ns.map D.str).length : Nat) : Int) := i1
  rw [ll] at i1
  obtain ⟨a, ha⟩ : ∃ a, ns[i.toNat]? = some a := ⟨ns[i.toNat]'(by omega), List.getElem?_eq_getElem _⟩
  have ma := List.mem_of_getElem? ha
  have he : (ns.map D.str).eraseIdx i.toNat = (ns.eraseIdx i.toNat).map D.str := erase_map D.str ns i.toNat
  have le : (ns.eraseIdx i.toNat).length = ns.length - 1 := List.length_eraseIdx_of_lt (by omega)
  refine ⟨⟨by omega, by omega⟩, i.toNat, .str a, by rw [ll]; exact seq_ix i0 i1, by rw [List.getElem?_map, ha]; rfl, ?_⟩
  rw [he]
  generalize hm : ns.eraseIdx i.toNat = ms at *
  have lm : (ms.map D.str).length = ms.length := List.length_map ..
  refine ⟨⟨_, _, rfl⟩, rfl, by show 0 + 1 + 1 ≤ 2; decide, ⟨by show (0 : Int) < ((ms.map D.str).length : Nat); rw [lm]; omega, by show (((ms.map D.str).length : Nat) : Int) < 2 ^ 60; rw [lm]; omega⟩, fun j j0 j1 => ⟨rfl, [], rfl, ?_⟩⟩
  have j1 : j < (((ms.map D.str).length : Nat) : Int) := j1
  rw [lm] at j1
  obtain ⟨b, hb⟩ : ∃ b, ms[j.toNat]? = some b := ⟨ms[j.toNat]'(by omega), List.getElem?_eq_getElem _⟩
  have mb : b ∈ ns := by
    have := List.mem_of_getElem? hb
    rw [← hm] at this
    exact List.mem_of_mem_eraseIdx this
  refine ⟨⟨by omega, by omega⟩, j.toNat, .str b, by rw [lm]; exact seq_ix j0 j1, by rw [List.getElem?_map, hb]; rfl, ?_⟩
  exact ⟨Nat.le_of_ble_eq_true rfl, hR a b ma mb⟩
end
end K25
namespace K25
open PySem PySem.Spec PyProof.Rows L2 EL PH
section
variable {P : Program} {w : World} {K : PySem.W.Frag} {mg : Str → Option Value} {base : Heap}
abbrev GT__law_others (P : Program) (w : World) (base : Heap) (T : Tops K w mg) : Prop := FnOk P w K mg base CX0 1 T.f__law_others T.d__law_others ["_law_plan_here"] (spD K cl0 Deck 0 1 FOthers)
theorem ok__law_others (T : Tops K w mg)  : GT__law_others P w base T := by
  refine Fun.ok T.N__law_others.F sc__law_others (spD_len rfl) fun cdv A outer s H vs Q E hr h => bodyD (K := K) h (fun dk G xc DkAt hx hB => (ss_cons (s_own (i := 1) (ps_set (i := 1) sc__law_others.nd rfl (Or.inl rfl) (f_lst a_nil)))
    (ss_cons (s_for (vs := [2]) (ps_for PassesOwn.never rfl (i_seq rfl (d_f (f_lc (pe_lc (own := [("_law_step", 5)]) rfl sc__law_others.nd (i_seq rfl (d_var 0 (pv 0))) (blkOk_by (own := [("_law_step", 5)]) (N := N_sc__law_others) (sc := defScope s__law_others) (by decide +kernel)) (fun _ _ _ _ _ => gx (vs := [5]) fun _ => (g_name (vs := [5]) (pg_name (i := 5) sc__law_others.nd rfl (Or.inl rfl)))) (fun _ _ _ _ _ => bx_one fun h0 => (b_cmp (op_eqPP hr.units) (ok_eqP rfl) (d_item rfl (d_var 5 (pv 5)) d_int (fun _ _ => rfl)) d_str (nomark _))) (fun _ _ _ _ _ => dx fun h0 => (d_var 5 (pv 5))))))) (g_name (vs := [2]) (pg_name (i := 2) sc__law_others.nd rfl (Or.inl rfl)))
    (ss_one (s_for (vs := [3]) (ps_for PassesOwn.never rfl (i_seq rfl (d_var 0 (pv 0))) (g_name (vs := [3]) (pg_name (i := 3) sc__law_others.nd rfl (Or.inl rfl)))
    (ss_cons (s_set (i := 4) (ps_set (i := 4) sc__law_others.nd rfl (Or.inl rfl) (d_ifE (b_cmp (op_eqPP hr.units) (ok_eqP rfl) (d_item rfl (d_var 3 (pv 3)) d_int (fun _ _ => rfl)) d_str (nomark _)) (d_sl rfl (pe_slice sl_D (d_var 3 (pv 3)) (o_some d_int) (o_some d_int))) (d_sl rfl (pe_slice sl_D (d_var 3 (pv 3)) (o_some d_int) (o_some d_int))))))
    (ss_one (s_if (PW.pt (bw_and (b_cmp op_in_seq (ok_inP rfl) (d_item rfl (d_var 3 (pv 3)) d_int (fun _ _ => rfl)) (d_tup (a_cons d_str (a_cons d_str (a_cons d_str a_nil)))) (by rfl)) (bw_and1 (b_cmp op_in_seq (ok_inP rfl) (d_item rfl (d_var 2 (pv 2)) d_int (fun _ _ => rfl)) (d_var 4 (pv 4)) (by rfl))))) (ss_one (s_expr (ps_expr (d_mut ok_appM (pe_bm PySem.F.plainAttrs_list PySem.F.slot_list_append PySem.F.type_list_append mt_append (pv 1) (a_cons (d_tup (a_cons (d_item rfl (d_var 3 (pv 3)) d_int (fun _ _ => rfl)) (a_cons (d_item rfl (d_var 2 (pv 2)) d_int (fun _ _ => rfl)) (a_cons (d_item rfl (d_var 2 (pv 2)) d_int (fun _ _ => rfl)) a_nil)))) a_nil)))))) ss_nil))))))))
    (ss_one (s_ret (d_var 1 (pv 1))))))) ?_
  rintro _ R xc - ⟨L, rfl, hL, hR⟩
  have hlL := hL.len
  refine ⟨Nat.zero_le _, fun p => ⟨(by show (L.map Stp.d).length ≤ 1000000; rw [List.length_map]; omega), ?_⟩⟩
  show lcD _ _ _ _ (L.map Stp.d) [] _ _
  refine lc_filt Stp.d Stp.d (fun s : Stp => decide (s.w = "circle")) L ?_ L [] _ (fun _ h => h) ?_
  · intro s hs R R' k1 k2
    exact ⟨_, at_0, fun hq => k1 (decide_eq_true hq) _ rfl, fun hq => k2 (decide_eq_false hq) _ rfl⟩
  rw [List.nil_append]
  have lf : (L.filter fun s : Stp => decide (s.w = "circle")).length ≤ 14 := Nat.le_trans (List.length_filter_le _ _) hL.len
  generalize hC : (L.filter fun s : Stp => decide (s.w = "circle")) = C at *
  have mC : ∀ s ∈ C, s ∈ L ∧ s.w = "circle" := fun s hs => by
    rw [← hC] at hs
    obtain ⟨a, b⟩ := List.mem_filter.mp hs
    exact ⟨a, of_decide_eq_true b⟩
  show forD _ _ _ (C.map Stp.d) _
  refine for_at Stp.d C (fun i γ => ∃ (T : List D) (x2 x3 x4 x5 : Sl), T = (C.take i).flatMap (oF L) ∧ T.length ≤ 14 * i ∧ (∀ t ∈ T, ∃ a b c, a ∈ L.map Stp.nm ∧ b ∈ L.map Stp.nm ∧ c ∈ L.map Stp.nm ∧ t = .tup [.str a, .str b, .str c]) ∧ γ = ⟨[.fz (.lst (L.map Stp.d)), .own p T, x2, x3, x4, x5], 0⟩) ?_ ?_ _ ⟨[], _, _, _, _, rfl, Nat.le_refl _, (fun _ h => by cases h), rfl⟩
  · rintro γ ⟨T, x2, x3, x4, x5, eT, hl, hT, rfl⟩
    have e : T = othersL L := by rw [eT, List.take_length]; unfold othersL; rw [hC]
    subst e
    exact hR (by have : (othersL L).length ≤ 14 * C.length := hl; omega) hT
  · rintro i c ds γ hi ⟨T, x2, x3, x4, x5, eT, hl, hT, rfl⟩ next
    obtain ⟨cL, cw⟩ := mC c (List.mem_of_getElem? hi)
    obtain ⟨ca, cb, hca, hcb, hcp⟩ := (hL.shp c cL).circle cw
    have a3 : atI (D.str c.w :: D.str c.nm :: c.ps) 3 = some (.str cb) := by rw [hcp]; exact at_nat _ 3 _ rfl
    have hi14 : i < C.length := (List.getElem?_eq_some_iff.mp hi).1
    show forD _ _ _ (L.map Stp.d) _
    refine for_at Stp.d L (fun j γ => ∃ (T : List D) (x3 x4 : Sl), T = (C.take i).flatMap (oF L) ++ ((L.take j).filter (oT c)).map (oG c) ∧ T.length ≤ 14 * i + j ∧ (∀ t ∈ T, ∃ a b c, a ∈ L.map Stp.nm ∧ b ∈ L.map Stp.nm ∧ c ∈ L.map Stp.nm ∧ t = .tup [.str a, .str b, .str c]) ∧ γ = ⟨[.fz (.lst (L.map Stp.d)), .own p T, .fz c.d, x3, x4, x5], 0⟩) ?_ ?_ _ ⟨T, _, _, by rw [eT]; simp, by omega, hT, rfl⟩
    · rintro γ ⟨T, x3, x4, eT, hl, hT, rfl⟩
      refine next _ ⟨T, _, _, _, _, ?_, by omega, hT, rfl⟩
      rw [eT, List.take_length, List.take_succ, hi, List.flatMap_append]
      show _ = _ ++ (oF L c ++ [])
      rw [List.append_nil]
      rfl
    · rintro j l es γ hj ⟨T, x3, x4, eT, hl, hT, rfl⟩ next2
      have lL := List.mem_of_getElem? hj
      have fl := (hL.shp l lL).flat
      have hj14 : j < L.length := (List.getElem?_eq_some_iff.mp hj).1
      have cut4 : EL.cutD (D.str l.w :: D.str l.nm :: l.ps) (some 2) (some 4) = l.ps.take 2 := cutD_at 2 4
      have cut3 : EL.cutD (D.str l.w :: D.str l.nm :: l.ps) (some 2) (some 3) = l.ps.take 1 := cutD_at 2 3
      have hi1 : 14 * i ≤ 14 * 13 := by omega
      have fc4 : (EL.cutD (D.str l.w :: D.str l.nm :: l.ps) (some 2) (some 4)).all flatD = true := by rw [cut4]; exact flat_take fl _
      have fc3 : (EL.cutD (D.str l.w :: D.str l.nm :: l.ps) (some 2) (some 3)).all flatD = true := by rw [cut3]; exact flat_take fl _
      have eC : oC c = .str cb := by unfold oC; rw [hcp]; rfl
      have yes : oT c l = true → T ++ [.tup [.str l.nm, .str c.nm, .str cb]] = (C.take i).flatMap (oF L) ++ ((L.take (j + 1)).filter (oT c)).map (oG c) := fun q => by
        rw [oth_step hj, if_pos q, ← List.append_assoc, ← eT]
        unfold oG
        rw [eC]
      have no : ¬ oT c l = true → T = (C.take i).flatMap (oF L) ++ ((L.take (j + 1)).filter (oT c)).map (oG c) := fun q => by
        rw [oth_step hj, if_neg q, List.append_nil]
        exact eT
      have both : ∀ {qs : List D}, mk l.w ["line", "along", "upright"] = true → inDs (.str cb) qs = true → qs = thr l → oT c l = true := fun h1 h2 e => by
        subst e
        unfold oT
        rw [eC, h1, h2]
        rfl
      have second : ∀ {qs : List D}, oT c l = true → qs = thr l → inDs (.str cb) qs = true := fun q e => by
        subst e
        unfold oT at q
        rw [eC, Bool.and_eq_true] at q
        exact q.2
      have first : oT c l = true → mk l.w ["line", "along", "upright"] = true := fun q => by
        unfold oT at q
        rw [Bool.and_eq_true] at q
        exact q.1
      refine ⟨_, at_0, fun hw => ?_, fun hw => ?_⟩
      · have th : EL.cutD (D.str l.w :: D.str l.nm :: l.ps) (some 2) (some 4) = thr l := by rw [cut4]; unfold thr; rw [if_pos hw]
        exact (⟨_, at_0, Nat.le_of_ble_eq_true rfl, ⟨rfl, rfl⟩, fun h1 => ⟨_, a3, ⟨rfl, fc4⟩, fun h2 => ⟨⟨_, _, rfl⟩, _, at_1, _, at_1, _, a3, Nat.le_of_ble_eq_true rfl, (by omega : T.length < 1000000), next2 _ ⟨T ++ [.tup [.str l.nm, .str c.nm, .str cb]], _, _, yes (both (in_t (ns := ["line", "along", "upright"]) (neg := false) h1) (h2.mpr rfl) th), by rw [List.length_append]; show T.length + 1 ≤ _; omega, fun t ht => (List.mem_append.mp ht).elim (hT t) fun ht => ⟨l.nm, c.nm, cb, List.mem_map.mpr ⟨l, lL, rfl⟩, List.mem_map.mpr ⟨c, cL, rfl⟩, hcb, List.mem_singleton.mp ht⟩, rfl⟩⟩, fun h2 => next2 _ ⟨T, _, _, no (fun q => h2 (iff_of_true (second q th) rfl)), by omega, hT, rfl⟩⟩, fun h1 => ⟨fun h => h.elim, fun _ => next2 _ ⟨T, _, _, no (fun q => Bool.false_ne_true ((in_f (ns := ["line", "along", "upright"]) (neg := false) h1).symm.trans (first q))), by omega, hT, rfl⟩⟩⟩)
      · have th : EL.cutD (D.str l.w :: D.str l.nm :: l.ps) (some 2) (some 3) = thr l := by rw [cut3]; unfold thr; rw [if_neg hw]
        exact (⟨_, at_0, Nat.le_of_ble_eq_true rfl, ⟨rfl, rfl⟩, fun h1 => ⟨_, a3, ⟨rfl, fc3⟩, fun h2 => ⟨⟨_, _, rfl⟩, _, at_1, _, at_1, _, a3, Nat.le_of_ble_eq_true rfl, (by omega : T.length < 1000000), next2 _ ⟨T ++ [.tup [.str l.nm, .str c.nm, .str cb]], _, _, yes (both (in_t (ns := ["line", "along", "upright"]) (neg := false) h1) (h2.mpr rfl) th), by rw [List.length_append]; show T.length + 1 ≤ _; omega, fun t ht => (List.mem_append.mp ht).elim (hT t) fun ht => ⟨l.nm, c.nm, cb, List.mem_map.mpr ⟨l, lL, rfl⟩, List.mem_map.mpr ⟨c, cL, rfl⟩, hcb, List.mem_singleton.mp ht⟩, rfl⟩⟩, fun h2 => next2 _ ⟨T, _, _, no (fun q => h2 (iff_of_true (second q th) rfl)), by omega, hT, rfl⟩⟩, fun h1 => ⟨fun h => h.elim, fun _ => next2 _ ⟨T, _, _, no (fun q => Bool.false_ne_true ((in_f (ns := ["line", "along", "upright"]) (neg := false) h1).symm.trans (first q))), by omega, hT, rfl⟩⟩⟩)
end
end K25
namespace K25
open PySem PySem.Spec PyProof.Rows L2 EL PH
section
variable {P : Program} {w : World} {K : PySem.W.Frag} {mg : Str → Option Value} {base : Heap}
abbrev GT__law_some_step (P : Program) (w : World) (base : Heap) (T : Tops K w mg) : Prop := FnOk P w K mg base CX0 3 T.f__law_some_step T.d__law_some_step ["_law_deck_here", "_law_plan_here", "_law_name"] (spD K cl0 Deck 6 3 FSome)
theorem ok__law_some_step (T : Tops K w mg) (G__law_known : GT__law_known P w base T) (G__law_draw : GT__law_draw P w base T) (G__law_two : GT__law_two P w base T) (G__law_pick : GT__law_pick P w base T) (G__law_others : GT__law_others P w base T) : GT__law_some_step P w base T := by
  refine Fun.ok T.N__law_some_step.F sc__law_some_step (spD_len rfl) fun cdv A outer s H vs Q E hr h => bodyD (K := K) h (fun dk G xc DkAt hx hB => (ss_cons (s_asg (vs := [3, 4, 5]) (ps_asg (d_f (f_lc (pe_lc (own := [("_law_sort", 9)]) rfl sc__law_some_step.nd (i_seq rfl d_str) (blkOk_by (own := [("_law_sort", 9)]) (N := N_sc__law_some_step) (sc := defScope s__law_some_step) (by decide +kernel)) (fun _ _ _ _ _ => gx (vs := [9]) fun _ => (g_name (vs := [9]) (pg_name (i := 9) sc__law_some_step.nd rfl (Or.inl rfl)))) (fun _ _ _ _ _ => bx_yes) (fun _ _ _ _ _ => dx fun h0 => (d_call (hB.withH h0) (pe_call G__law_known (hr.mono (by decide)) rfl T.N__law_known.m T.N__law_known.F.kp T.N__law_known.b .nil pass0 (a_cons (d_var 1 (pv 1)) (a_cons (d_var 9 (pv 9)) a_nil)))))))) (g_lst (bl_cons tame_n (bl_cons tame_n (bl_cons tame_n bl_nil))) (pg_lst (n := 3) rfl (gs_cons (g_name (vs := [3, 4, 5]) (pg_name (i := 3) sc__law_some_step.nd rfl (Or.inl rfl))) (gs_cons (g_name (vs := [3, 4, 5]) (pg_name (i := 4) sc__law_some_step.nd rfl (Or.inl rfl))) (gs_cons (g_name (vs := [3, 4, 5]) (pg_name (i := 5) sc__law_some_step.nd rfl (Or.inl rfl))) (gs_nil (vs := [3, 4, 5])) (pgs_cons (g_name (vs := [3, 4, 5]) (pg_name (i := 5) sc__law_some_step.nd rfl (Or.inl rfl))) (gs_nil (vs := [3, 4, 5])))) (pgs_cons (g_name (vs := [3, 4, 5]) (pg_name (i := 4) sc__law_some_step.nd rfl (Or.inl rfl))) (gs_cons (g_name (vs := [3, 4, 5]) (pg_name (i := 5) sc__law_some_step.nd rfl (Or.inl rfl))) (gs_nil (vs := [3, 4, 5])) (pgs_cons (g_name (vs := [3, 4, 5]) (pg_name (i := 5) sc__law_some_step.nd rfl (Or.inl rfl))) (gs_nil (vs := [3, 4, 5])))))) (pgs_cons (g_name (vs := [3, 4, 5]) (pg_name (i := 3) sc__law_some_step.nd rfl (Or.inl rfl))) (gs_cons (g_name (vs := [3, 4, 5]) (pg_name (i := 4) sc__law_some_step.nd rfl (Or.inl rfl))) (gs_cons (g_name (vs := [3, 4, 5]) (pg_name (i := 5) sc__law_some_step.nd rfl (Or.inl rfl))) (gs_nil (vs := [3, 4, 5])) (pgs_cons (g_name (vs := [3, 4, 5]) (pg_name (i := 5) sc__law_some_step.nd rfl (Or.inl rfl))) (gs_nil (vs := [3, 4, 5])))) (pgs_cons (g_name (vs := [3, 4, 5]) (pg_name (i := 4) sc__law_some_step.nd rfl (Or.inl rfl))) (gs_cons (g_name (vs := [3, 4, 5]) (pg_name (i := 5) sc__law_some_step.nd rfl (Or.inl rfl))) (gs_nil (vs := [3, 4, 5])) (pgs_cons (g_name (vs := [3, 4, 5]) (pg_name (i := 5) sc__law_some_step.nd rfl (Or.inl rfl))) (gs_nil (vs := [3, 4, 5]))))))))))))
    (ss_cons (s_set (i := 6) (ps_set (i := 6) sc__law_some_step.nd rfl (Or.inl rfl) (d_item rfl (d_f (f_lst (a_cons d_str (a_cons d_str (a_cons d_str (a_cons d_str (a_cons d_str (a_cons d_str (a_cons d_str (a_cons d_str (a_cons d_str (a_cons d_str (a_cons d_str (a_cons d_str (a_cons d_str (a_cons d_str a_nil)))))))))))))))) (d_callCc (cc := 6) rfl hB (pe_call G__law_draw (hr.mono (by decide)) rfl T.N__law_draw.m T.N__law_draw.F.kp T.N__law_draw.b .nil pass0 (a_cons (d_var 0 (pv 0)) (a_cons d_int a_nil)))) (fun _ _ => rfl))))
    (ss_cons (s_asg (vs := [7, 8]) (ps_asg (d_callCc (cc := 6) rfl hB (pe_call G__law_two (hr.mono (by decide)) rfl T.N__law_two.m T.N__law_two.F.kp T.N__law_two.b .nil pass0 (a_cons (d_var 0 (pv 0)) (a_cons (d_var 3 (pv 3)) a_nil)))) (g_tup (bl_cons tame_n (bl_cons tame_n bl_nil)) (pg_tup (n := 2) rfl (gs_cons (g_name (vs := [7, 8]) (pg_name (i := 7) sc__law_some_step.nd rfl (Or.inl rfl))) (gs_cons (g_name (vs := [7, 8]) (pg_name (i := 8) sc__law_some_step.nd rfl (Or.inl rfl))) (gs_nil (vs := [7, 8])) (pgs_cons (g_name (vs := [7, 8]) (pg_name (i := 8) sc__law_some_step.nd rfl (Or.inl rfl))) (gs_nil (vs := [7, 8])))) (pgs_cons (g_name (vs := [7, 8]) (pg_name (i := 7) sc__law_some_step.nd rfl (Or.inl rfl))) (gs_cons (g_name (vs := [7, 8]) (pg_name (i := 8) sc__law_some_step.nd rfl (Or.inl rfl))) (gs_nil (vs := [7, 8])) (pgs_cons (g_name (vs := [7, 8]) (pg_name (i := 8) sc__law_some_step.nd rfl (Or.inl rfl))) (gs_nil (vs := [7, 8]))))))))))
    (ss_cut (s_if (b_cmp (op_eqPP hr.units) (ok_eqP rfl) (d_var 6 (pv 6)) d_str (nomark _)) (ss_one (s_ret (d_tup (a_cons (d_var 6 (pv 6)) (a_cons (d_var 2 (pv 2)) a_nil))))) ss_nil)
    (ss_cut (s_if (PW.pt (bw_and (b_cmp (op_eqPP hr.units) (ok_eqP rfl) (d_var 6 (pv 6)) d_str (nomark _)) (bw_and1 (b_cmp (op_nePP hr.units) (ok_neP rfl) (d_var 4 (pv 4)) (d_f (f_lst a_nil)) (nomark _))))) (ss_one (s_ret (d_tup (a_cons (d_var 6 (pv 6)) (a_cons (d_var 2 (pv 2)) (a_cons (d_callCc (cc := 6) rfl hB (pe_call G__law_pick (hr.mono (by decide)) rfl T.N__law_pick.m T.N__law_pick.F.kp T.N__law_pick.b .nil pass0 (a_cons (d_var 0 (pv 0)) (a_cons (d_var 4 (pv 4)) a_nil)))) a_nil)))))) ss_nil)
    (ss_cut (s_if (PW.pt (bw_and (b_cmp (op_eqPP hr.units) (ok_eqP rfl) (d_var 6 (pv 6)) d_str (nomark _)) (bw_and1 (b_cmp (op_nePP hr.units) (ok_neP rfl) (d_var 5 (pv 5)) (d_f (f_lst a_nil)) (nomark _))))) (ss_one (s_ret (d_tup (a_cons (d_var 6 (pv 6)) (a_cons (d_var 2 (pv 2)) (a_cons (d_callCc (cc := 6) rfl hB (pe_call G__law_pick (hr.mono (by decide)) rfl T.N__law_pick.m T.N__law_pick.F.kp T.N__law_pick.b .nil pass0 (a_cons (d_var 0 (pv 0)) (a_cons (d_var 5 (pv 5)) a_nil)))) a_nil)))))) ss_nil)
    (ss_cut (s_if (PW.pt (bw_and (b_cmp (op_eqPP hr.units) (ok_eqP rfl) (d_var 6 (pv 6)) d_str (nomark _)) (bw_and1 (b_cmp op_gt ok_gtP (d_cb (ok_len rfl) (pe_callB call_lenD (by rfl) T.z_len (by decide +kernel) (a_cons (d_var 4 (pv 4)) a_nil))) d_int (nomark _))))) (ss_one (s_ret (d_add rfl (d_tup (a_cons (d_var 6 (pv 6)) (a_cons (d_var 2 (pv 2)) a_nil))) (d_callCc (cc := 6) rfl hB (pe_call G__law_two (hr.mono (by decide)) rfl T.N__law_two.m T.N__law_two.F.kp T.N__law_two.b .nil pass0 (a_cons (d_var 0 (pv 0)) (a_cons (d_var 4 (pv 4)) a_nil))))))) ss_nil)
    (ss_cut (s_if (PW.pt (bw_and (b_cmp op_in_seq (ok_inP rfl) (d_var 6 (pv 6)) (d_tup (a_cons d_str (a_cons d_str (a_cons d_str (a_cons d_str a_nil))))) (by rfl)) (bw_and1 (b_cmp (op_nePP hr.units) (ok_neP rfl) (d_var 4 (pv 4)) (d_f (f_lst a_nil)) (nomark _))))) (ss_one (s_ret (d_tup (a_cons (d_var 6 (pv 6)) (a_cons (d_var 2 (pv 2)) (a_cons (d_var 7 (pv 7)) (a_cons (d_callCc (cc := 6) rfl hB (pe_call G__law_pick (hr.mono (by decide)) rfl T.N__law_pick.m T.N__law_pick.F.kp T.N__law_pick.b .nil pass0 (a_cons (d_var 0 (pv 0)) (a_cons (d_var 4 (pv 4)) a_nil)))) a_nil))))))) ss_nil)
    (ss_cut (s_if (b_cmp (op_eqPP hr.units) (ok_eqP rfl) (d_var 6 (pv 6)) d_str (nomark _)) (ss_one (s_ret (d_tup (a_cons (d_var 6 (pv 6)) (a_cons (d_var 2 (pv 2)) (a_cons (d_var 7 (pv 7)) (a_cons (d_var 8 (pv 8)) (a_cons (d_add rfl d_int (d_callCc (cc := 6) rfl hB (pe_call G__law_draw (hr.mono (by decide)) rfl T.N__law_draw.m T.N__law_draw.F.kp T.N__law_draw.b .nil pass0 (a_cons (d_var 0 (pv 0)) (a_cons d_int a_nil))))) a_nil)))))))) ss_nil)
    (ss_cut (s_if (PW.pt (bw_and (b_cmp (op_eqPP hr.units) (ok_eqP rfl) (d_var 6 (pv 6)) d_str (nomark _)) (bw_and1 (b_cmp (op_nePP hr.units) (ok_neP rfl) (d_call hB (pe_call G__law_others (hr.mono (by decide)) rfl T.N__law_others.m T.N__law_others.F.kp T.N__law_others.b .nil pass0 (a_cons (d_var 1 (pv 1)) a_nil))) (d_f (f_lst a_nil)) (nomark _))))) (ss_one (s_ret (d_add rfl (d_tup (a_cons (d_var 6 (pv 6)) (a_cons (d_var 2 (pv 2)) a_nil))) (d_callCc (cc := 6) rfl hB (pe_call G__law_pick (hr.mono (by decide)) rfl T.N__law_pick.m T.N__law_pick.F.kp T.N__law_pick.b .nil pass0 (a_cons (d_var 0 (pv 0)) (a_cons (d_call hB (pe_call G__law_others (hr.mono (by decide)) rfl T.N__law_others.m T.N__law_others.F.kp T.N__law_others.b .nil pass0 (a_cons (d_var 1 (pv 1)) a_nil))) a_nil))))))) ss_nil)
    (ss_one (s_ret (d_tup (a_cons (d_ifE (b_cmp op_in_seq (ok_inP rfl) (d_var 6 (pv 6)) (d_tup (a_cons d_str (a_cons d_str a_nil))) (by rfl)) (d_var 6 (pv 6)) d_str) (a_cons (d_var 2 (pv 2)) (a_cons (d_var 7 (pv 7)) (a_cons (d_var 8 (pv 8)) a_nil)))))))))))))))))) ?_
  rintro _ R xc - ⟨L, nm, rfl, hL, h2, hR⟩
  have hlL := hL.len
  have low : ∀ σ, ∀ z ∈ knownL σ L, lowb z = true := fun σ z hz => by
    obtain ⟨t, ht, rfl⟩ := List.mem_map.mp hz
    exact hL.low t (List.mem_filter.mp ht).1
  have lown : ∀ z ∈ L.map Stp.nm, gd z = true := fun z hz => by
    obtain ⟨t, ht, rfl⟩ := List.mem_map.mp hz
    exact lowb_gd (hL.low t ht)
  refine ⟨Nat.le_of_ble_eq_true rfl, ?_⟩
  suffices hh : lcD (bN 9) bYes (dCall 2 FKnown noX (aCons (dVar 1) (aCons (dVar 9) aNil))) [9] ((["P", "L", "C"] : List Str).map D.str) [] _ _ from hh
  refine lc_filt D.str (fun σ => .lst ((knownL σ L).map D.str)) (fun _ => true) ["P", "L", "C"] ?_ ["P", "L", "C"] [] _ (fun _ h => h) ?_
  · intro σ hσ R R' k1 k2
    refine ⟨fun _ => ⟨rfl, L, σ, _, rfl, .inr rfl, by omega, by simpa using hσ, k1 rfl _ rfl⟩, fun n => absurd trivial n⟩
  rw [List.nil_append, List.filter_eq_self.mpr (fun _ _ => rfl)]
  refine ⟨Nat.le_of_ble_eq_true rfl, rfl, by show 0 + 1 ≤ 6; decide, ⟨by decide, by decide⟩, fun i i0 i1 => ?_⟩
  obtain ⟨w, hw⟩ := at_14 i0 i1
  refine ⟨_, hw, ?_⟩
  refine ⟨rfl, by show 0 + 1 + 2 ≤ 6; decide, knownL "P" L, rfl, h2, by have := known_le (σ := "P") hlL; omega, fun p o hp ho => ?_⟩
  have hp' := known_sub hp
  have ho' := known_sub ho
  have skip : ∀ {R2 : Gm → Prop} {γ : Gm} {A : Prop}, R2 γ → (False → A) ∧ (¬ False → R2 γ) := fun h => ⟨fun h => h.elim, fun _ => h⟩
  refine ⟨fun γ => ∃ x9, γ = ⟨[.fz .dk, .fz (.lst (L.map Stp.d)), .fz (.str nm), .fz (.lst ((knownL "P" L).map D.str)), .fz (.lst ((knownL "L" L).map D.str)), .fz (.lst ((knownL "C" L).map D.str)), .fz (.str w), .fz (.str p), .fz (.str o), x9], 3⟩, ?_, ?_⟩
  · exact ⟨fun h => ⟨Nat.le_of_ble_eq_true rfl, hR ⟨w, nm, []⟩ rfl (.inl ⟨h, rfl⟩)⟩, fun _ => ⟨_, rfl⟩⟩
  rintro γ ⟨x9, rfl⟩
  refine ⟨fun γ => ∃ x9, γ = ⟨[.fz .dk, .fz (.lst (L.map Stp.d)), .fz (.str nm), .fz (.lst ((knownL "P" L).map D.str)), .fz (.lst ((knownL "L" L).map D.str)), .fz (.lst ((knownL "C" L).map D.str)), .fz (.str w), .fz (.str p), .fz (.str o), x9], 3⟩, ?_, ?_⟩
  · refine ⟨fun h1 => ⟨Nat.zero_le _, ⟨okD_nm (low "L"), okD_n⟩, fun h2 => ?_, fun _ => ⟨_, rfl⟩⟩, fun _ => skip ⟨_, rfl⟩⟩
    have h2 := ne_nil h2
    refine ⟨rfl, by show 3 + 1 ≤ 6; decide, _, .inl rfl, ⟨by rw [List.length_map]; exact h2, by rw [List.length_map]; have := known_le (σ := "L") hlL; omega⟩, fun i x hi => ?_⟩
    obtain ⟨a, rfl, ha⟩ := pick_str hi
    exact ⟨Nat.le_of_ble_eq_true rfl, hR ⟨w, nm, [.str a]⟩ rfl (.inr (.inl ⟨.inl h1, a, known_sub ha, rfl⟩))⟩
  rintro γ ⟨x9, rfl⟩
  refine ⟨fun γ => ∃ x9, γ = ⟨[.fz .dk, .fz (.lst (L.map Stp.d)), .fz (.str nm), .fz (.lst ((knownL "P" L).map D.str)), .fz (.lst ((knownL "L" L).map D.str)), .fz (.lst ((knownL "C" L).map D.str)), .fz (.str w), .fz (.str p), .fz (.str o), x9], 3⟩, ?_, ?_⟩
  · refine ⟨fun h1 => ⟨Nat.zero_le _, ⟨okD_nm (low "C"), okD_n⟩, fun h2 => ?_, fun _ => ⟨_, rfl⟩⟩, fun _ => skip ⟨_, rfl⟩⟩
    have h2 := ne_nil h2
    refine ⟨rfl, by show 3 + 1 ≤ 6; decide, _, .inl rfl, ⟨by rw [List.length_map]; exact h2, by rw [List.length_map]; have := known_le (σ := "C") hlL; omega⟩, fun i x hi => ?_⟩
    obtain ⟨a, rfl, ha⟩ := pick_str hi
    exact ⟨Nat.le_of_ble_eq_true rfl, hR ⟨w, nm, [.str a]⟩ rfl (.inr (.inl ⟨.inr h1, a, known_sub ha, rfl⟩))⟩
  rintro γ ⟨x9, rfl⟩
  refine ⟨fun γ => ∃ x9, γ = ⟨[.fz .dk, .fz (.lst (L.map Stp.d)), .fz (.str nm), .fz (.lst ((knownL "P" L).map D.str)), .fz (.lst ((knownL "L" L).map D.str)), .fz (.lst ((knownL "C" L).map D.str)), .fz (.str w), .fz (.str p), .fz (.str o), x9], 3⟩, ?_, ?_⟩
  · refine ⟨fun h1 => ⟨fun h2 => ?_, fun _ => ⟨_, rfl⟩⟩, fun _ => skip ⟨_, rfl⟩⟩
    have h2 : ((((knownL "L" L).map D.str).length : Nat) : Int) > 1 := h2
    rw [List.length_map] at h2
    refine ⟨Nat.le_of_ble_eq_true rfl, rfl, by show 3 + 2 ≤ 6; decide, knownL "L" L, rfl, by omega, by have := known_le (σ := "L") hlL; omega, fun a b ha hb => ⟨Nat.le_of_ble_eq_true rfl, ?_⟩⟩
    exact hR ⟨w, nm, [.str a, .str b]⟩ rfl (.inr (.inr (.inl ⟨by show w ∈ _; rw [show w = "meet" from h1]; decide, a, b, known_sub ha, known_sub hb, rfl⟩)))
  rintro γ ⟨x9, rfl⟩
  refine ⟨fun γ => ∃ x9, γ = ⟨[.fz .dk, .fz (.lst (L.map Stp.d)), .fz (.str nm), .fz (.lst ((knownL "P" L).map D.str)), .fz (.lst ((knownL "L" L).map D.str)), .fz (.lst ((knownL "C" L).map D.str)), .fz (.str w), .fz (.str p), .fz (.str o), x9], 3⟩, ?_, ?_⟩
  · refine ⟨Nat.le_of_ble_eq_true rfl, ⟨rfl, rfl⟩, fun h1 => ⟨Nat.zero_le _, ⟨okD_nm (low "L"), okD_n⟩, fun h2 => ?_, fun _ => ⟨_, rfl⟩⟩, fun _ => skip ⟨_, rfl⟩⟩
    have h2 := ne_nil h2
    have h1 : w ∈ (["foot", "mirror", "along", "upright"] : List Str) := mk_iff.mp (in_t (ns := ["foot", "mirror", "along", "upright"]) (neg := false) h1)
    refine ⟨rfl, by show 3 + 1 ≤ 6; decide, _, .inl rfl, ⟨by rw [List.length_map]; exact h2, by rw [List.length_map]; have := known_le (σ := "L") hlL; omega⟩, fun i x hi => ?_⟩
    obtain ⟨a, rfl, ha⟩ := pick_str hi
    refine ⟨Nat.le_of_ble_eq_true rfl, hR ⟨w, nm, [.str p, .str a]⟩ rfl ?_⟩
    by_cases e : w ∈ (["foot", "mirror"] : List Str)
    · refine .inr (.inr (.inl ⟨?_, p, a, hp', known_sub ha, rfl⟩))
      show w ∈ (["foot", "mirror", "meet", "middle", "line", "circle"] : List Str)
      simp only [List.mem_cons, List.not_mem_nil, or_false] at e ⊢
      rcases e with e | e <;> simp [e]
    · refine .inr (.inr (.inr (.inl ⟨?_, p, a, hp', known_sub ha, ha, rfl⟩)))
      show w ∈ (["along", "upright"] : List Str)
      simp only [List.mem_cons, List.not_mem_nil, or_false] at e h1 ⊢
      rcases h1 with h | h | h | h
      · exact absurd (.inl h) e
      · exact absurd (.inr h) e
      · exact .inl h
      · exact .inr h
  rintro γ ⟨x9, rfl⟩
  refine ⟨fun γ => ∃ x9, γ = ⟨[.fz .dk, .fz (.lst (L.map Stp.d)), .fz (.str nm), .fz (.lst ((knownL "P" L).map D.str)), .fz (.lst ((knownL "L" L).map D.str)), .fz (.lst ((knownL "C" L).map D.str)), .fz (.str w), .fz (.str p), .fz (.str o), x9], 3⟩, ?_, ?_⟩
  · refine ⟨fun h1 => ⟨rfl, by show 3 + 1 ≤ 6; decide, ⟨by decide, by decide⟩, fun i i0 i1 => ⟨Nat.le_of_ble_eq_true rfl, ?_⟩⟩, fun _ => ⟨_, rfl⟩⟩
    exact hR ⟨w, nm, [.str p, .str o, .int (1 + i)]⟩ rfl (.inr (.inr (.inr (.inr (.inr ⟨h1, p, o, 1 + i, hp', ho', rfl⟩)))))
  rintro γ ⟨x9, rfl⟩
  refine ⟨fun γ => ∃ x9, γ = ⟨[.fz .dk, .fz (.lst (L.map Stp.d)), .fz (.str nm), .fz (.lst ((knownL "P" L).map D.str)), .fz (.lst ((knownL "L" L).map D.str)), .fz (.lst ((knownL "C" L).map D.str)), .fz (.str w), .fz (.str p), .fz (.str o), x9], 3⟩, ?_, ?_⟩
  · refine ⟨fun h1 => ⟨rfl, L, rfl, hL, fun hl hT => ⟨Nat.zero_le _, ⟨okD_lf' (fun d hd => ?_) (fun d hd => ?_), okD_n⟩, fun h2 => ?_, fun _ => ⟨_, rfl⟩⟩⟩, fun _ => skip ⟨_, rfl⟩⟩
    · obtain ⟨a, b, c, ha, hb, hc, rfl⟩ := hT d hd
      show (gd a && (gd b && (gd c && true))) = true
      rw [lown a ha, lown b hb, lown c hc]
      rfl
    · obtain ⟨a, b, c, ha, hb, hc, rfl⟩ := hT d hd
      exact Nat.le_refl _
    · refine ⟨Nat.le_of_ble_eq_true rfl, rfl, L, rfl, hL, fun _ _ => ?_⟩
      have h0 : 0 < (othersL L).length := by
        cases q : othersL L with
        | nil => rw [q] at h2; exact absurd (eqD_nil.mpr rfl) h2
        | cons _ _ => exact Nat.succ_pos _
      refine ⟨rfl, by show 3 + 1 ≤ 6; decide, _, .inl rfl, ⟨h0, by omega⟩, fun i x hi => ?_⟩
      obtain ⟨a, b, c, ha, hb, hc, rfl⟩ := hT x (List.mem_of_getElem? hi)
      exact ⟨Nat.le_of_ble_eq_true rfl, hR ⟨w, nm, [.str a, .str b, .str c]⟩ rfl (.inr (.inr (.inr (.inr (.inl ⟨h1, a, b, c, ha, hb, hc, rfl⟩)))))⟩
  rintro γ ⟨x9, rfl⟩
  refine ⟨Nat.le_of_ble_eq_true rfl, ⟨rfl, rfl⟩, fun h1 => ⟨Nat.le_of_ble_eq_true rfl, ?_⟩, fun _ => ⟨Nat.le_of_ble_eq_true rfl, ?_⟩⟩
  · refine hR ⟨w, nm, [.str p, .str o]⟩ rfl (.inr (.inr (.inl ⟨?_, p, o, hp', ho', rfl⟩)))
    have h1 : w ∈ (["middle", "circle"] : List Str) := mk_iff.mp (in_t (ns := ["middle", "circle"]) (neg := false) h1)
    show w ∈ (["foot", "mirror", "meet", "middle", "line", "circle"] : List Str)
    simp only [List.mem_cons, List.not_mem_nil, or_false] at h1 ⊢
    rcases h1 with h | h <;> simp [h]
  · exact hR ⟨"line", nm, [.str p, .str o]⟩ rfl (.inr (.inr (.inl ⟨(by decide : ("line" : Str) ∈ (["foot", "mirror", "meet", "middle", "line", "circle"] : List Str)), p, o, hp', ho', rfl⟩)))
end
end K25
namespace K25
open PySem PySem.Spec PyProof.Rows L2 EL PH
section
variable {P : Program} {w : World} {K : PySem.W.Frag} {mg : Str → Option Value} {base : Heap}
abbrev GT__law_plan (P : Program) (w : World) (base : Heap) (T : Tops K w mg) : Prop := FnOk P w K mg base CX0 4 T.f__law_plan T.d__law_plan ["_law_deck_here", "_law_many", "_law_heavy"] (spD K cl0 Deck 100 3 FPlan)
theorem ok__law_plan (T : Tops K w mg) (G__law_names : GT__law_names P w base T) (G__law_draw : GT__law_draw P w base T) (G__law_some_step : GT__law_some_step P w base T) (G__law_weigh : GT__law_weigh P w base T) : GT__law_plan P w base T := by
  refine Fun.ok T.N__law_plan.F sc__law_plan (spD_len rfl) fun cdv A outer s H vs Q E hr h => bodyD (K := K) h (fun dk G xc DkAt hx hB => (ss_cons (s_set (i := 3) (ps_set (i := 3) sc__law_plan.nd rfl (Or.inl rfl) (d_callCc (cc := 100) rfl hB (pe_call G__law_names (hr.mono (by decide)) rfl T.N__law_names.m T.N__law_names.F.kp T.N__law_names.b .nil pass0 (a_cons (d_var 0 (pv 0)) (a_cons (d_var 1 (pv 1)) a_nil))))))
    (ss_cons (s_set (i := 4) (ps_set (i := 4) sc__law_plan.nd rfl (Or.inl rfl) (d_cb ok_min2 (pe_callB (call_min2 rfl) (by rfl) T.z_min (by decide +kernel) (a_cons (d_var 1 (pv 1)) (a_cons (d_add rfl d_int (d_callCc (cc := 100) rfl hB (pe_call G__law_draw (hr.mono (by decide)) rfl T.N__law_draw.m T.N__law_draw.F.kp T.N__law_draw.b .nil pass0 (a_cons (d_var 0 (pv 0)) (a_cons d_int a_nil))))) a_nil))))))
    (ss_cons (s_parL2D (i := 5) (j := 6) (l := 7) (by decide) (by decide) (by decide) (ps_par3 rfl sc__law_plan.nd rfl rfl rfl (by decide) (by decide) (by decide) rfl rfl rfl (pa_cons (pe_lst pa_nil) (pa_cons pe_dnewK (pa_cons pe_dnewK pa_nil))) (by rfl)))
    (ss_cons (s_for (vs := [8, 9]) (ps_for PassesOwn.never rfl (i_enumB (pi_enumA rfl T.z_enumerate (a_cons (d_var 3 (pv 3)) a_nil))) (g_tup (bl_cons tame_n (bl_cons tame_n bl_nil)) (pg_tup (n := 2) rfl (gs_cons (g_name (vs := [8, 9]) (pg_name (i := 8) sc__law_plan.nd rfl (Or.inl rfl))) (gs_cons (g_name (vs := [8, 9]) (pg_name (i := 9) sc__law_plan.nd rfl (Or.inl rfl))) (gs_nil (vs := [8, 9])) (pgs_cons (g_name (vs := [8, 9]) (pg_name (i := 9) sc__law_plan.nd rfl (Or.inl rfl))) (gs_nil (vs := [8, 9])))) (pgs_cons (g_name (vs := [8, 9]) (pg_name (i := 8) sc__law_plan.nd rfl (Or.inl rfl))) (gs_cons (g_name (vs := [8, 9]) (pg_name (i := 9) sc__law_plan.nd rfl (Or.inl rfl))) (gs_nil (vs := [8, 9])) (pgs_cons (g_name (vs := [8, 9]) (pg_name (i := 9) sc__law_plan.nd rfl (Or.inl rfl))) (gs_nil (vs := [8, 9]))))))))
    (ss_cons (s_set (i := 10) (ps_set (i := 10) sc__law_plan.nd rfl (Or.inl rfl) (d_tup (a_cons d_str (a_cons (d_var 9 (pv 9)) a_nil)))))
    (ss_cut (s_if (b_cmp op_ge ok_geP (d_var 8 (pv 8)) (d_var 4 (pv 4)) (nomark _)) (ss_one (s_set (i := 10) (ps_set (i := 10) sc__law_plan.nd rfl (Or.inl rfl) (d_lend (d_callCc (cc := 100) rfl hB (pe_call G__law_some_step (hr.mono (by decide)) rfl T.N__law_some_step.m T.N__law_some_step.F.kp T.N__law_some_step.b .nil pass0 (a_cons (d_var 0 (pv 0)) (a_cons (d_var 5 (pv 5)) (a_cons (d_var 9 (pv 9)) a_nil))))))))) ss_nil)
    (ss_cut (s_if (b_lend (b_cmp op_gt ok_gtP (d_call hB (pe_call G__law_weigh (hr.mono (by decide)) rfl T.N__law_weigh.m T.N__law_weigh.F.kp T.N__law_weigh.b .nil pass0 (a_cons (d_var 6 (pv 6)) (a_cons (d_var 10 (pv 10)) (a_cons (d_var 7 (pv 7)) a_nil))))) (d_var 2 (pv 2)) (nomark _))) (ss_one (s_set (i := 10) (ps_set (i := 10) sc__law_plan.nd rfl (Or.inl rfl) (d_tup (a_cons d_str (a_cons (d_var 9 (pv 9)) a_nil)))))) ss_nil)
    (ss_cut (s_if (b_cmp (op_eqPP hr.units) (ok_eqP rfl) (d_item rfl (d_var 10 (pv 10)) d_int (fun _ _ => rfl)) d_str (nomark _)) (ss_one (s_dset (i := 7) (ps_dput (hu_of hr) (pv 7) (d_var 9 (pv 9)) (d_lend (d_add rfl (d_dget (pe_dget (hu_of hr) (d_var 6 (pv 6)) (d_item rfl (d_var 10 (pv 10)) d_int (fun _ _ => rfl)) (fun _ _ => rfl))) (d_dget (pe_dget (hu_of hr) (d_var 6 (pv 6)) (d_item rfl (d_var 10 (pv 10)) d_int (fun _ _ => rfl)) (fun _ _ => rfl))))) rfl))) ss_nil)
    (ss_cut (s_if (b_cmp op_in_seq (ok_inP rfl) (d_item rfl (d_var 10 (pv 10)) d_int (fun _ _ => rfl)) (d_tup (a_cons d_str (a_cons d_str a_nil))) (by rfl)) (ss_one (s_dset (i := 7) (ps_dput (hu_of hr) (pv 7) (d_var 9 (pv 9)) (d_lend (d_dget (pe_dget (hu_of hr) (d_var 7 (pv 7)) (d_item rfl (d_var 10 (pv 10)) d_int (fun _ _ => rfl)) (fun _ _ => rfl)))) rfl))) ss_nil)
    (ss_cons (s_dset (i := 6) (ps_dput (hu_of hr) (pv 6) (d_var 9 (pv 9)) (d_lend (d_call hB (pe_call G__law_weigh (hr.mono (by decide)) rfl T.N__law_weigh.m T.N__law_weigh.F.kp T.N__law_weigh.b .nil pass0 (a_cons (d_var 6 (pv 6)) (a_cons (d_var 10 (pv 10)) (a_cons (d_var 7 (pv 7)) a_nil)))))) rfl))
    (ss_one (s_expr (ps_expr (d_mut ok_appM (pe_bm PySem.F.plainAttrs_list PySem.F.slot_list_append PySem.F.type_list_append mt_append (pv 5) (a_cons (d_var 10 (pv 10)) a_nil))))))))))))))
    (ss_one (s_ret (d_cb (ok_tupOf rfl) (pe_callTy call_tuple_of (by rfl) T.z_tuple (by decide +kernel) (a_cons (d_var 5 (pv 5)) a_nil)))))))))) ?_
  rintro _ R xc - ⟨m, rfl, h3, h12, hR⟩
  refine ⟨rfl, by show 0 + 10 ≤ 100; decide, m, rfl, by omega, by omega, fun N hN nd hlow => ?_⟩
  refine ⟨rfl, by show 0 + 10 + 1 ≤ 100; decide, ⟨by decide, by decide⟩, fun u u0 u1 => ?_⟩
  intro p q r
  obtain ⟨f, hf⟩ : ∃ f, f = min ((m : Nat) : Int) (2 + u) := ⟨_, rfl⟩
  have f2 : 2 ≤ f := by omega
  show forD _ _ _ (enumD (N.map D.str)) ⟨[.fz .dk, .fz (.int (m : Nat)), .fz (.int 99), .fz (.lst (N.map D.str)), .fz (.int (min ((m : Nat) : Int) (2 + u))), .own p [], .ownD q [], .ownD r [], .un, .un, .un], 11⟩
  rw [enum_strs, ← hf]
  clear hf
  refine for_at (fun p : Str × Nat => D.tup [.int (p.2 : Nat), .str p.1]) (N.zipIdx 0) (fun i γ => ∃ (L : List Stp) (W Y : List (Key × D)) (x8 x9 x10 : Sl) (c : Nat), PgI N i L ∧ Wy L W Y ∧ c ≤ 11 + 6 * i ∧ γ = ⟨[.fz .dk, .fz (.int (m : Nat)), .fz (.int 99), .fz (.lst (N.map D.str)), .fz (.int f), .own p (L.map Stp.d), .ownD q W, .ownD r Y, x8, x9, x10], c⟩) ?_ ?_ _ ⟨[], [], [], _, _, _, 11, ⟨rfl, rfl, ⟨List.nodup_nil, (fun _ h => by cases h), by decide, (fun _ h => by cases h)⟩, Nat.zero_le _⟩, ⟨Nat.le_refl _, Nat.le_refl _, (fun _ h => by cases h), (fun _ h => by cases h), (fun _ _ h => by cases h)⟩, Nat.le_refl _, rfl⟩
  · rintro γ ⟨L, W, Y, x8, x9, x10, c, hP, hW, hc, rfl⟩
    have e : (N.zipIdx 0).length = m := by rw [List.length_zipIdx, hN]
    rw [e] at hP
    have h2 := hP.two
    exact hR L ⟨hP.pg.nd, hP.pg.low, hP.pg.len, fun s hs => (hP.pg.shp s hs).word⟩ hP.len (by omega)
  · rintro i ⟨z, k⟩ ds γ hi ⟨L, W, Y, x8, x9, x10, c, hP, hW, hc, rfl⟩ next
    obtain ⟨hz, ek⟩ : N[i]? = some z ∧ k = i := by
      rw [List.getElem?_zipIdx] at hi
      cases q : N[i]? with
      | none => rw [q] at hi; cases hi
      | some y => rw [q] at hi; cases hi; exact ⟨rfl, by omega⟩
    subst ek
    have hi12 : k < 12 := by have := (List.getElem?_eq_some_iff.mp hz).1; omega
    refine ⟨Nat.le_of_ble_eq_true rfl, ?_⟩
    refine ⟨fun γ => ∃ (s : Stp) (c' : Nat), Nx L z s ∧ c' ≤ c + 6 ∧ γ = ⟨[.fz .dk, .fz (.int (m : Nat)), .fz (.int 99), .fz (.lst (N.map D.str)), .fz (.int f), .own p (L.map Stp.d), .ownD q W, .ownD r Y, .fz (.int (k : Nat)), .fz (.str z), .fz s.d], c'⟩, ?_, ?_⟩
    · refine ⟨fun h => ?_, fun _ => ⟨⟨"free", z, []⟩, c, nx_free L z, by omega, rfl⟩⟩
      have h : (f : Int) ≤ (k : Int) := h
      refine ⟨rfl, by show c + 6 ≤ 100; omega, L, z, rfl, hP.pg, by have := hP.two; omega, fun s e hs => ⟨sol_shp hs, [], rfl, s, c + 6, ⟨e, hs, fun h2 => by rw [hP.len] at h2; omega⟩, Nat.le_refl _, rfl⟩⟩
    rintro γ ⟨s, c', hs, hc', rfl⟩
    have sW : ∀ {s : Stp} {Y' : List (Key × D)}, Nx L z s → (∀ y ∈ knownL "L" L, Wt Y' 198 y) → Shp (Wt W 100) (Wt Y' 200) s := fun n hy => n.shp.mono (fun y h => (hW.w y h).le (by decide)) (fun y h => (hy y h).le (by decide))
    have aW : ∀ {Y' : List (Key × D)}, (∀ z c, getK (.inr z) Y' = some c → ∃ v : Int, c = .int v ∧ 0 ≤ v ∧ v ≤ 198) → ∀ z c, getK (.inr z) Y' = some c → ∃ v : Int, c = .int v ∧ 0 ≤ v ∧ v ≤ 200 := fun h z c hc => by
      obtain ⟨v, a, b, d⟩ := h z c hc
      exact ⟨v, a, b, by omega⟩
    refine ⟨fun γ => ∃ (s : Stp), Nx L z s ∧ (s.w = "free" ∨ wv W Y s.w s.ps ≤ 99) ∧ γ = ⟨[.fz .dk, .fz (.int (m : Nat)), .fz (.int 99), .fz (.lst (N.map D.str)), .fz (.int f), .own p (L.map Stp.d), .ownD q W, .ownD r Y, .fz (.int (k : Nat)), .fz (.str z), .fz s.d], c'⟩, ?_, ?_⟩
    · refine ⟨rfl, W, Y, s, rfl, sW hs hW.y, aW hW.all, hs.shp.le, fun v e v0 v1 vf => ⟨[], rfl, fun hq => ⟨Nat.le_of_ble_eq_true rfl, ⟨"free", z, []⟩, nx_free L z, .inl rfl, rfl⟩, fun hq => ⟨s, hs, .inr ?_, rfl⟩⟩⟩
      have hq : ¬ v > 99 := hq
      omega
    clear hs
    rintro γ ⟨s, hs, hv, rfl⟩
    obtain ⟨hP', nz⟩ := hP.snoc hz nd hlow (by omega) hs
    refine ⟨fun γ => ∃ (Y1 : List (Key × D)), (¬ s.w = "line" → Y1 = Y) ∧ (s.w = "line" → ∃ v : Int, Y1 = setK (.inr z) (.int v) Y ∧ 0 ≤ v ∧ v ≤ 198) ∧ γ = ⟨[.fz .dk, .fz (.int (m : Nat)), .fz (.int 99), .fz (.lst (N.map D.str)), .fz (.int f), .own p (L.map Stp.d), .ownD q W, .ownD r Y1, .fz (.int (k : Nat)), .fz (.str z), .fz s.d], c'⟩, ?_, ?_⟩
    · refine ⟨_, at_0, fun hw => ?_, fun hw => ⟨Y, fun _ => rfl, fun h => absurd h hw, rfl⟩⟩
      obtain ⟨a, b, ha, hb, hp⟩ := hs.shp.line hw
      obtain ⟨va, wa, a0, a1⟩ := hW.w a ha
      obtain ⟨vb, wb, b0, b1⟩ := hW.w b hb
      have i2 : atI (D.str s.w :: D.str s.nm :: s.ps) 2 = some (.str a) := by rw [hp]; exact at_nat _ 2 _ rfl
      have i3 : atI (D.str s.w :: D.str s.nm :: s.ps) 3 = some (.str b) := by rw [hp]; exact at_nat _ 3 _ rfl
      exact ⟨_, i2, _, wa, _, i3, _, wb, rfl, [], rfl, ⟨_, _, rfl⟩, by show Y.length < 1000000; have := hW.yl; rw [hP.len] at this; omega, _, fun h => absurd hw h, fun _ => ⟨va + vb, rfl, by omega, by omega⟩, rfl⟩
    rintro γ ⟨Y1, hY1, hY1', rfl⟩
    refine ⟨fun γ => ∃ (Y2 : List (Key × D)), (Y2 = Y ∧ ¬ sortOf s.w = "L" ∨ ∃ v : Int, Y2 = setK (.inr z) (.int v) Y ∧ 0 ≤ v ∧ v ≤ 198) ∧ γ = ⟨[.fz .dk, .fz (.int (m : Nat)), .fz (.int 99), .fz (.lst (N.map D.str)), .fz (.int f), .own p (L.map Stp.d), .ownD q W, .ownD r Y2, .fz (.int (k : Nat)), .fz (.str z), .fz s.d], c'⟩, ?_, ?_⟩
    · refine ⟨_, at_0, Nat.le_of_ble_eq_true rfl, ⟨rfl, rfl⟩, fun hq => ?_, fun hq => ?_⟩
      · have hq : s.w ∈ (["along", "upright"] : List Str) := mk_iff.mp (in_t (ns := ["along", "upright"]) (neg := false) hq)
        have nl : ¬ s.w = "line" := fun h => by rw [h] at hq; exact absurd hq (by decide)
        have eY := hY1 nl
        subst eY
        obtain ⟨a, b, ha, hb, hl, hp⟩ := hs.shp.alng hq
        obtain ⟨vb, wb, b0, b1⟩ := hW.y b hl
        have i3 : atI (D.str s.w :: D.str s.nm :: s.ps) 3 = some (.str b) := by rw [hp]; exact at_nat _ 3 _ rfl
        exact ⟨_, i3, _, wb, rfl, [], rfl, ⟨_, _, rfl⟩, by show Y1.length < 1000000; have := hW.yl; rw [hP.len] at this; omega, _, .inr ⟨vb, rfl, b0, b1⟩, rfl⟩
      · have hq : mk s.w ["along", "upright"] = false := in_f (ns := ["along", "upright"]) (neg := false) hq
        refine ⟨Y1, ?_, rfl⟩
        by_cases hw : s.w = "line"
        · exact .inr (hY1' hw)
        · refine .inl ⟨hY1 hw, fun h => ?_⟩
          have h := decide_eq_true h
          rw [sort_L] at h
          have h := mk_iff.mp h
          have n1 : s.w ∉ (["along", "upright"] : List Str) := fun q => by rw [mk_iff.mpr q] at hq; cases hq
          simp only [List.mem_cons, List.not_mem_nil, or_false] at h n1
          rcases h with h | h | h
          · exact hw h
          · exact n1 (.inl h)
          · exact n1 (.inr h)
    rintro γ ⟨Y2, hY2, rfl⟩
    have nzL : z ∉ knownL "L" L := fun h => nz (known_sub h)
    have y2 : ∀ y ∈ knownL "L" L, Wt Y2 198 y := fun y hy => by
      rcases hY2 with ⟨e, _⟩ | ⟨v, e, _, _⟩
      · rw [e]; exact hW.y y hy
      · rw [e]; exact (hW.y y hy).set fun q => nzL (q ▸ hy)
    have all2 : ∀ z c, getK (.inr z) Y2 = some c → ∃ v : Int, c = .int v ∧ 0 ≤ v ∧ v ≤ 198 := by
      rcases hY2 with ⟨e, _⟩ | ⟨v, e, v0, v1⟩
      · rw [e]; exact hW.all
      · rw [e]; exact all_set hW.all v0 v1
    have ewv : wv W Y2 s.w s.ps = wv W Y s.w s.ps := by
      rcases hY2 with ⟨e, _⟩ | ⟨v, e, v0, v1⟩
      · rw [e]
      · rw [e]; exact wv_set hs.shp nz
    refine ⟨rfl, W, Y2, s, rfl, sW hs y2, aW all2, hs.shp.le, fun v e v0 v1 vf => ⟨rfl, [], rfl, ⟨_, _, rfl⟩, by show W.length < 1000000; have := hW.wl; rw [hP.len] at this; omega, ?_⟩⟩
    have v99 : v ≤ 99 := by
      rcases hv with h | h
      · have := vf h; omega
      · rw [e, ewv]; exact h
    refine ⟨⟨_, _, rfl⟩, by show (L.map Stp.d).length < 1000000; rw [List.length_map, hP.len]; omega, next _ ⟨L ++ [s], setK (.inr z) (.int v) W, Y2, _, _, _, c', hP', ⟨?_, ?_, ?_, ?_, all2⟩, by omega, by rw [List.map_append]; rfl⟩⟩
    · rw [List.length_append]
      exact Nat.le_trans (setK_len W) (Nat.succ_le_succ hW.wl)
    · rw [List.length_append]
      rcases hY2 with ⟨e, _⟩ | ⟨v, e, v0, v1⟩
      · rw [e]; exact Nat.le_succ_of_le hW.yl
      · rw [e]; exact Nat.le_trans (setK_len Y) (Nat.succ_le_succ hW.yl)
    · intro y hy
      rw [List.map_append] at hy
      rcases List.mem_append.mp hy with hy | hy
      · exact (hW.w y hy).set fun q => nz (q ▸ hy)
      · have hy : y = s.nm := List.mem_singleton.mp hy
        rw [hy, hs.nm]
        exact Wt.new v0 v99
    · intro y hy
      rw [known_snoc] at hy
      rcases List.mem_append.mp hy with hy | hy
      · exact y2 y hy
      · rcases hY2 with ⟨e, ne⟩ | ⟨v, e, v0, v1⟩
        · rw [if_neg ne] at hy
          cases hy
        · by_cases q : sortOf s.w = "L"
          · rw [if_pos q] at hy
            have hy : y = s.nm := List.mem_singleton.mp hy
            rw [hy, hs.nm, e]
            exact Wt.new v0 v1
          · rw [if_neg q] at hy
            cases hy
end
end K25
namespace K25
open PySem PySem.Spec PyProof.Rows L2 EL PH
section
variable {P : Program} {w : World} {K : PySem.W.Frag} {mg : Str → Option Value} {base : Heap}
abbrev GT__law_claim (P : Program) (w : World) (base : Heap) (T : Tops K w mg) : Prop := FnOk P w K mg base CX0 3 T.f__law_claim T.d__law_claim ["_law_deck_here", "_law_plan_here"] (spD K cl0 Deck 8 2 FClaim)
theorem ok__law_claim (T : Tops K w mg) (G__law_known : GT__law_known P w base T) (G__law_pick : GT__law_pick P w base T) (G__law_forms : GT__law_forms P w base T) : GT__law_claim P w base T := by
  refine Fun.ok T.N__law_claim.F sc__law_claim (spD_len rfl) fun cdv A outer s H vs Q E hr h => bodyD (K := K) h (fun dk G xc DkAt hx hB => (ss_cons (s_asg (vs := [2, 3]) (ps_asg (d_tup (a_cons (d_call hB (pe_call G__law_known (hr.mono (by decide)) rfl T.N__law_known.m T.N__law_known.F.kp T.N__law_known.b .nil pass0 (a_cons (d_var 1 (pv 1)) (a_cons d_str a_nil)))) (a_cons (d_add rfl (d_call hB (pe_call G__law_known (hr.mono (by decide)) rfl T.N__law_known.m T.N__law_known.F.kp T.N__law_known.b .nil pass0 (a_cons (d_var 1 (pv 1)) (a_cons d_str a_nil)))) (d_call hB (pe_call G__law_known (hr.mono (by decide)) rfl T.N__law_known.m T.N__law_known.F.kp T.N__law_known.b .nil pass0 (a_cons (d_var 1 (pv 1)) (a_cons d_str a_nil))))) a_nil))) (g_tup (bl_cons tame_n (bl_cons tame_n bl_nil)) (pg_tup (n := 2) rfl (gs_cons (g_name (vs := [2, 3]) (pg_name (i := 2) sc__law_claim.nd rfl (Or.inr rfl))) (gs_cons (g_name (vs := [2, 3]) (pg_name (i := 3) sc__law_claim.nd rfl (Or.inl rfl))) (gs_nil (vs := [2, 3])) (pgs_cons (g_name (vs := [2, 3]) (pg_name (i := 3) sc__law_claim.nd rfl (Or.inl rfl))) (gs_nil (vs := [2, 3])))) (pgs_cons (g_name (vs := [2, 3]) (pg_name (i := 2) sc__law_claim.nd rfl (Or.inr rfl))) (gs_cons (g_name (vs := [2, 3]) (pg_name (i := 3) sc__law_claim.nd rfl (Or.inl rfl))) (gs_nil (vs := [2, 3])) (pgs_cons (g_name (vs := [2, 3]) (pg_name (i := 3) sc__law_claim.nd rfl (Or.inl rfl))) (gs_nil (vs := [2, 3]))))))))))
    (ss_cons (s_set (i := 4) (ps_set (i := 4) sc__law_claim.nd rfl (Or.inl rfl) (d_callCc (cc := 8) rfl hB (pe_call G__law_pick (hr.mono (by decide)) rfl T.N__law_pick.m T.N__law_pick.F.kp T.N__law_pick.b .nil pass0 (a_cons (d_var 0 (pv 0)) (a_cons (d_f (f_sortD (pe_callB (call_sortedD rfl) (by rfl) T.z_sorted (by decide +kernel) (a_cons (d_call0 hB (pe_call0 G__law_forms (hr.mono (by decide)) rfl T.N__law_forms.m T.N__law_forms.F.kp T.N__law_forms.b .nil pass0)) a_nil)))) a_nil))))))
    (ss_cons (s_own (i := 5) (a_lc (ps_setLc (i := 5) (own := [("_law_k", 6)]) rfl sc__law_claim.nd rfl rfl (sw_true rfl rfl rfl (by decide +kernel)) (i_rng1 (pi_range1 rfl T.z_range (a_cons (d_dget (pe_dget (hu_of hr) (d_call0 hB (pe_call0 G__law_forms (hr.mono (by decide)) rfl T.N__law_forms.m T.N__law_forms.F.kp T.N__law_forms.b .nil pass0)) (d_var 4 (pv 4)) (fun _ _ => rfl))) a_nil))) (blkOk_by (own := [("_law_k", 6)]) (N := N_sc__law_claim) (sc := defScope s__law_claim) (by decide +kernel)) (fun _ _ _ _ _ => gx (vs := [6]) fun _ => (g_name (vs := [6]) (pg_name (i := 6) sc__law_claim.nd rfl (Or.inl rfl)))) (fun _ _ _ _ _ => bx_yes) (fun _ _ _ _ _ => dx fun h0 => (d_callCc (cc := 8) rfl (hB.withH h0) (pe_call G__law_pick (hr.mono (by decide)) rfl T.N__law_pick.m T.N__law_pick.F.kp T.N__law_pick.b .nil pass0 (a_cons (d_var 0 (pv 0)) (a_cons (d_var 2 (pv 2)) a_nil))))))))
    (ss_cut (s_if (PW.pt (bw_and (b_cmp (op_eqPP hr.units) (ok_eqP rfl) (d_var 4 (pv 4)) d_str (nomark _)) (bw_and1 (b_cmp (op_nePP hr.units) (ok_neP rfl) (d_var 3 (pv 3)) (d_f (f_lst a_nil)) (nomark _))))) (ss_one (s_setIt (i := 5) (ps_asg (d_callCc (cc := 8) rfl hB (pe_call G__law_pick (hr.mono (by decide)) rfl T.N__law_pick.m T.N__law_pick.F.kp T.N__law_pick.b .nil pass0 (a_cons (d_var 0 (pv 0)) (a_cons (d_var 3 (pv 3)) a_nil)))) (pg_sub (pv 5) d_int set_list)))) ss_nil)
    (ss_one (s_ret (d_add rfl (d_tup (a_cons (d_var 4 (pv 4)) a_nil)) (d_cb (ok_tupOf rfl) (pe_callTy call_tuple_of (by rfl) T.z_tuple (by decide +kernel) (a_cons (d_var 5 (pv 5)) a_nil))))))))))) ?_
  rintro _ R xc - ⟨L, rfl, hL, h2, hR⟩
  have hl := hL.len
  have ll : ∀ σ, ((knownL σ L).map D.str).length ≤ 14 := fun σ => by rw [List.length_map]; exact known_le hl
  have low : ∀ σ, ∀ z ∈ knownL σ L, lowb z = true := fun σ z hz => by
    obtain ⟨t, ht, rfl⟩ := List.mem_map.mp hz
    exact hL.low t (List.mem_filter.mp ht).1
  refine ⟨rfl, L, "P", _, rfl, .inl rfl, by omega, .inl rfl, rfl, L, "L", _, rfl, .inl rfl, by omega, .inr (.inl rfl), rfl, L, "C", _, rfl, .inl rfl, by omega, .inr (.inr rfl), (by have h1 := ll "L"; have h2 := ll "C"; omega), Nat.le_of_ble_eq_true rfl, ?_⟩
  have nmlow : ∀ z ∈ knownL "L" L ++ knownL "C" L, lowb z = true := fun z hz => (List.mem_append.mp hz).elim (low "L" z) (low "C" z)
  have oL : ((knownL "L" L ++ knownL "C" L).map D.str).length ≤ 28 := by rw [List.map_append, List.length_append]; have h1 := ll "L"; have h2 := ll "C"; omega
  refine ⟨rfl, rfl, W8, rfl, by decide, fun ys py => ?_⟩
  have ly : (ys.map D.str).length = 8 := by rw [List.length_map, py.length_eq]; rfl
  refine ⟨rfl, by show 0 + 1 ≤ 8; decide, _, .inl rfl, ⟨by rw [ly]; decide, by rw [ly]; decide⟩, fun i x hi => ?_⟩
  obtain ⟨w, rfl, hw⟩ := pick_str hi
  have hw := py.mem_iff.mp hw
  obtain ⟨n, hn, n2, n6⟩ := forms_w8 hw
  refine ⟨rfl, rfl, _, hn, ⟨by omega, by omega⟩, by show (rngD 0 ((n : Nat) : Int).toNat).length ≤ 1000000; unfold rngD; rw [List.length_map, List.length_range]; omega, ?_⟩
  rw [← List.map_append]
  generalize knownL "L" L ++ knownL "C" L = O at *
  have hP := ll "P"
  rw [List.length_map] at hP oL
  have lowP := low "P"
  generalize knownL "P" L = PP at *
  show lcD _ _ _ _ (rngD 0 ((n : Nat) : Int).toNat) [] _ _
  rw [show ((n : Nat) : Int).toNat = n from rfl]
  refine lc_inv (fun ds acc γ => ∃ (ys : List Str), (∃ f : Nat → D, ds = (List.range (n - ys.length)).map f) ∧ ys.length ≤ n ∧ acc = ys.map D.str ∧ (∀ y ∈ ys, lowb y = true) ∧
    γ = ⟨[.fz .dk, .fz (.tup (L.map Stp.d)), .fz (.lst (PP.map D.str)), .fz (.lst (O.map D.str)), .fz (.str w), .un, .un], 1 + ys.length⟩) ?_ ?_ _ _ _ ⟨[], ⟨_, rfl⟩, Nat.zero_le _, rfl, fun _ h => (by cases h), rfl⟩
  rotate_left
  · rintro d ds acc γ ⟨ys, ⟨f, e⟩, hl2, rfl, hy, rfl⟩ next
    obtain ⟨m, hm⟩ : ∃ m, n - ys.length = m + 1 := by
      cases q : n - ys.length with
      | zero => rw [q] at e; cases e
      | succ m => exact ⟨m, rfl⟩
    rw [hm, List.range_succ_eq_map, List.map_cons, List.map_map] at e
    cases e
    refine ⟨fun _ => ?_, fun n => absurd trivial n⟩
    refine ⟨rfl, by show 1 + ys.length + 1 ≤ 8; omega, _, .inl rfl, ⟨by rw [List.length_map]; omega, by rw [List.length_map]; omega⟩, fun i x hi => ?_⟩
    obtain ⟨a, rfl, ha⟩ := pick_str hi
    refine next _ _ ⟨ys ++ [a], ⟨_, by rw [List.length_append, show n - (ys.length + [a].length) = m by show n - (ys.length + 1) = m; omega]⟩, by rw [List.length_append]; show ys.length + 1 ≤ n; omega, by rw [List.map_append]; rfl, fun y h => ?_, by rw [List.length_append]; rfl⟩
    rcases List.mem_append.mp h with h | h
    · exact hy y h
    · rw [List.mem_singleton.mp h]; exact lowP a ha
  rintro acc γ ⟨ys, ⟨f, e⟩, hl2, rfl, hy, rfl⟩
  have hn2 : ys.length = n := by
    cases q : n - ys.length with
    | zero => omega
    | succ m => rw [q, List.range_succ_eq_map] at e; cases e
  intro p
  refine ⟨fun γ => ∃ (ys : List Str) (c : Nat), ys.length ≤ 6 ∧ (∀ y ∈ ys, lowb y = true) ∧ γ = ⟨[.fz .dk, .fz (.tup (L.map Stp.d)), .fz (.lst (PP.map D.str)), .fz (.lst (O.map D.str)), .fz (.str w), .own p (ys.map D.str), .un], c⟩, ?_, ?_⟩
  · refine ⟨fun h1 => ⟨Nat.zero_le _, ⟨okD_nm nmlow, okD_n⟩, fun h3 => ?_, fun _ => ⟨ys, _, by omega, hy, rfl⟩⟩, fun _ => ⟨fun h => h.elim, fun _ => ⟨ys, _, by omega, hy, rfl⟩⟩⟩
    have h3 := ne_nil h3
    refine ⟨rfl, by show 1 + ys.length + 1 ≤ 8; omega, _, .inl rfl, ⟨by rw [List.length_map]; exact h3, by rw [List.length_map]; omega⟩, fun i x hi => ?_⟩
    obtain ⟨a, rfl, ha⟩ := pick_str hi
    refine ⟨⟨_, _, rfl⟩, 1, ?_, ?_⟩
    · rw [List.length_map]
      unfold ixN
      rw [if_pos (by decide), if_pos (by omega)]
      rfl
    · refine ⟨ys.set 1 a, _, by rw [List.length_set]; omega, fun y h => ?_, by rw [← List.map_set]; rfl⟩
      rcases List.mem_or_eq_of_mem_set h with h | h
      · exact hy y h
      · rw [h]; exact nmlow a ha
  rintro γ ⟨zs, c, hl6, hz, rfl⟩
  refine ⟨Nat.le_of_ble_eq_true rfl, ?_⟩
  exact ⟨(by show 1 + (zs.map D.str).length ≤ 1000000; rw [List.length_map]; omega), hR w zs hw hl6 hz⟩
end
end K25
namespace K25
open PySem PySem.Spec PyProof.Rows L2 EL PH
theorem pln_nil : Pln [] := ⟨List.nodup_nil, (fun _ h => by cases h), by decide, (fun _ h => by cases h)⟩
theorem at10 : (10 : Nat) = 10 := rfl
theorem pl_kd {x : D} (h : kd 0 x = true) (hw : wx x ≤ 100000) : pl x := by
  refine ⟨?_, fun z e => by subst e; rw [wx_str] at hw; omega⟩
  cases x <;> first | rfl | cases h
/-- what law asks of -/
structure Ask (d : D) : Prop where
  g : plG d
  s : showX d
theorem ask_tup {xs : List D} (k : kds 0 xs = true) (wt : wxs xs ≤ 15000) (dp : dpxs xs ≤ 50) (ln : xs.length ≤ 1000) (g : ∀ z, D.str z ∈ xs → gd z = true) : Ask (.tup xs) :=
  ⟨⟨⟨⟨rfl, fun z e => nomatch e⟩, fun ys e => by cases e; exact ⟨ln, fun x hx => pl_kd (kds_all.mp k x hx) (by have := wxs_mem hx; omega)⟩⟩, fun ys z e hz => by cases e; exact g z hz⟩, showX_kd (m := 0) (by decide) k (by rw [wx_tup]; exact wt) (by rw [dpx_tup]; omega)⟩
theorem ask_nt {d : D} (h : kd 0 d = true) (hw : wx d ≤ 15000) (hd : dpx d ≤ 60) (nt : ∀ xs, d ≠ .tup xs) : Ask d :=
  ⟨⟨⟨pl_kd h (by omega), fun ys e => absurd e (nt ys)⟩, fun ys z e => absurd e (nt ys)⟩, showX_kd (m := 0) (by decide) h hw hd⟩
theorem ask_str {z : Str} (h : Asc z) (hl : z.length ≤ 30000) : Ask (.str z) := by
  refine ⟨⟨⟨⟨rfl, fun y e => by cases e; omega⟩, fun ys e => nomatch e⟩, fun ys y e => nomatch e⟩, rfl, by simp only [pyX, PyData.showable], by simp only [pyX, PyData.depth]; decide, ?_⟩
  simp only [pyX, PyData.shown]
  have := StrLaws.reprText_len z fun c hc => Nat.lt_of_lt_of_le (h c hc) (by decide)
  omega
theorem ask_dct {xs : List D} (k : kds 0 xs = true) (wt : wxs xs ≤ 15000) (dp : dpxs xs ≤ 50) : Ask (.dct [(.inl 0, .tup xs)]) := by
  obtain ⟨a, b, c⟩ := kd_ok (m := 0) (by decide) (.tup xs) k
  have hw : (pyX (.tup xs)).weight ≤ 15000 := show wx (.tup xs) ≤ 15000 by rw [wx_tup]; exact wt
  have hd : (pyX (.tup xs)).depth ≤ 51 := show dpx (.tup xs) ≤ 51 by rw [dpx_tup]; omega
  have e : pyX (.dct [(.inl 0, .tup xs)]) = .dict [(.int 0, pyX (.tup xs))] := by simp only [pyX, pyXk, keyP]
  refine ⟨⟨⟨⟨rfl, fun y e => nomatch e⟩, fun ys e => nomatch e⟩, fun ys y e => nomatch e⟩, ?_, ?_, ?_, ?_⟩
  · show (isX (.tup xs) && true) = true
    rw [a]; rfl
  · rw [e]
    simp only [PyData.showable, PyData.showableKv, b]
    decide
  · rw [e]
    simp only [PyData.depth, PyData.depthKv]
    omega
  · rw [e]
    have h0 : PyData.leavesShort 50 (.int 0) = true := by decide +kernel
    have := PyData.shown_le 50 (by decide) (.dict [(.int 0, pyX (.tup xs))]) (by simp only [PyData.leavesShort, PyData.leavesShortKv, c, Bool.and_true]; simpa only [PyData.leavesShort] using h0)
    have e2 : (PyData.dict [(.int 0, pyX (.tup xs))]).weight ≤ 15010 := by
      simp only [PyData.weight, PyData.weightKv]
      have : (PyData.int 0).weight ≤ 8 := by decide +kernel
      simp only [PyData.weight] at this
      omega
    omega
/-- what a claim is -/
theorem it_claim {w : Str} {ns : List Str} (hw : lowb w = true) (hl : ns.length ≤ 6) (hn : ∀ z ∈ ns, lowb z = true) : It 80 (.str w :: ns.map D.str) ∧ dpxs (.str w :: ns.map D.str) = 0 ∧ (D.str w :: ns.map D.str).length ≤ 7 := by
  have all : ∀ x ∈ (D.str w :: ns.map D.str), ∃ z, x = .str z ∧ lowb z = true := fun x hx => by
    rcases List.mem_cons.mp hx with rfl | hx
    · exact ⟨w, rfl, hw⟩
    · obtain ⟨z, hz, rfl⟩ := List.mem_map.mp hx
      exact ⟨z, rfl, hn z hz⟩
  have w8 : ∀ x ∈ (D.str w :: ns.map D.str), wx x ≤ 8 := fun x hx => by
    obtain ⟨z, rfl, hz⟩ := all x hx
    rw [wx_str]
    exact (lowb_iff.mp hz).2.2
  have d0 : dpxs (D.str w :: ns.map D.str) ≤ 0 := dpxs_le.mpr fun x hx => by
    obtain ⟨z, rfl, hz⟩ := all x hx
    exact Nat.le_refl _
  have ln : (D.str w :: ns.map D.str).length ≤ 7 := by rw [List.length_cons, List.length_map]; omega
  have ww := wxs_le w8
  refine ⟨⟨kds_all.mpr fun x hx => ?_, by omega, fun x hx => by have := w8 x hx; omega, by omega, by omega, fun z hz => ?_⟩, by omega, ln⟩
  · obtain ⟨z, rfl, hz⟩ := all x hx
    exact List.all_eq_true.mpr fun c hc => decide_eq_true ((lowb_iff.mp hz).1 c hc).lt
  · obtain ⟨y, e, hy⟩ := all _ hz
    cases e
    exact lowb_gd hy
theorem Ot.it {xs ys : List D} (I : It 80 xs) (d0 : dpxs xs = 0) (l7 : xs.length ≤ 7) (O : Ot 80 xs ys) : It 360 ys ∧ dpxs ys ≤ 1 ∧ ys.length ≤ 8 := by
  have := O.dp
  have := O.len
  have := O.wt
  exact ⟨⟨O.k, O.wt, fun x hx => O.el x hx, by omega, by omega, O.gd⟩, by omega, by omega⟩
theorem It.ask {w : Nat} {xs : List D} (I : It w xs) (hw : w ≤ 15000) : Ask (.tup xs) := ask_tup I.k (by have := I.wt; omega) (by have := I.dp; omega) (by have := I.len; omega) I.gd
theorem outB {w : Nat} {xs : List D} {R : D → Prop} (I : It w xs) (hw : w ≤ 400) (ht : ∀ ys, Ot w xs ys → R (.tup ys)) (hR : ∀ d, Ask d → (∀ ys, d ≠ .tup ys) → R d) : OutB w xs R := by
  have h1 := I.wt
  have h2 := I.dp
  exact ⟨ht, hR _ (ask_nt I.k (by rw [wx_lst]; omega) (by rw [dpx_lst]; omega) (fun _ e => nomatch e)) (fun _ e => nomatch e),
    fun z hz hl => hR _ (ask_str hz (by omega)) (fun _ e => nomatch e), hR _ (ask_dct I.k (by omega) (by omega)) (fun _ e => nomatch e)⟩
theorem Ot.ask {w : Nat} {xs ys : List D} (I : It w xs) (hw : w ≤ 1000) (O : Ot w xs ys) : Ask (.tup ys) := by
  have h1 := O.wt
  have h2 := O.dp
  have h3 := O.len
  have h4 := I.dp
  have h5 := I.len
  exact ask_tup O.k (by omega) (by omega) (by omega) O.gd
def Consts : List D := [.non, .int 0, .str "", .tup [], .lst [], .dct [], .bl true, .str "same a b", .tup [.tup []], .tup [.lst []]]
theorem consts_ask : ∀ d ∈ Consts, Ask d := by
  intro d hd
  simp only [Consts, List.mem_cons, List.not_mem_nil, or_false] at hd
  rcases hd with rfl | rfl | rfl | rfl | rfl | rfl | rfl | rfl | rfl | rfl
  · exact ask_nt rfl (by decide +kernel) (by decide +kernel) (fun _ e => nomatch e)
  · exact ask_nt (by decide +kernel) (by decide +kernel) (by decide +kernel) (fun _ e => nomatch e)
  · exact ask_str (fun c hc => by cases hc) (by decide)
  · exact ask_tup rfl (by decide +kernel) (by decide +kernel) (by decide) (fun _ h => by cases h)
  · exact ask_nt rfl (by decide +kernel) (by decide +kernel) (fun _ e => nomatch e)
  · exact ask_nt rfl (by decide +kernel) (by decide +kernel) (fun _ e => nomatch e)
  · exact ask_nt rfl (by decide +kernel) (by decide +kernel) (fun _ e => nomatch e)
  · exact ask_str (asc_of _ (by decide +kernel)) (by decide +kernel)
  · exact ask_tup rfl (by decide +kernel) (by decide +kernel) (by decide) (fun z h => by cases List.mem_singleton.mp h)
  · exact ask_tup rfl (by decide +kernel) (by decide +kernel) (by decide) (fun z h => by cases List.mem_singleton.mp h)
def clD (c : Str × List Str) : D := .tup (.str c.1 :: c.2.map D.str)
def OkC (c : Str × List Str) : Prop := lowb c.1 = true ∧ c.2.length ≤ 6 ∧ ∀ z ∈ c.2, lowb z = true
theorem okC_ask {c : Str × List Str} (h : OkC c) : Ask (clD c) := (it_claim h.1 h.2.1 h.2.2).1.ask (by decide)
theorem w8_low {w : Str} (h : w ∈ W8) : lowb w = true := by
  have k : W8.all lowb = true := by decide +kernel
  exact List.all_eq_true.mp k w h
theorem solids_strs : ∀ zs : List Str, solids (zs.map D.str) = true
  | [] => rfl
  | _ :: zs => by show (true && solids (zs.map D.str)) = true; rw [solids_strs zs]; rfl
theorem solids_cl : ∀ Cs : List (Str × List Str), solids (Cs.map clD) = true
  | [] => rfl
  | c :: Cs => by
    show ((true && solids (c.2.map D.str)) && solids (Cs.map clD)) = true
    rw [solids_strs, solids_cl Cs]
    rfl
theorem isi_nt {d : D} (h : (tyN d).isSome = true) (nt : ∀ xs, d ≠ .tup xs) {R : D → Prop} (k : R (.bl false)) : isiF "tuple" [d, .non] R := by
  cases d with
  | non => show R (.bl (tyIs "tuple" "NoneType")); rw [show tyIs "tuple" "NoneType" = false by decide +kernel]; exact k
  | bl b => show R (.bl (tyIs "tuple" "bool")); rw [show tyIs "tuple" "bool" = false by decide +kernel]; exact k
  | int i => show R (.bl (tyIs "tuple" "int")); rw [show tyIs "tuple" "int" = false by decide +kernel]; exact k
  | str z => show R (.bl (tyIs "tuple" "str")); rw [show tyIs "tuple" "str" = false by decide +kernel]; exact k
  | tup xs => exact absurd rfl (nt xs)
  | lst xs => show R (.bl (tyIs "tuple" "list")); rw [show tyIs "tuple" "list" = false by decide +kernel]; exact k
  | dct kvs => show R (.bl (tyIs "tuple" "dict")); rw [show tyIs "tuple" "dict" = false by decide +kernel]; exact k
  | _ => cases h
theorem isi_tup {xs : List D} {R : D → Prop} (k : R (.bl true)) : isiF "tuple" [.tup xs, .non] R := by
  show R (.bl (tyIs "tuple" "tuple")); rw [show tyIs "tuple" "tuple" = true by decide +kernel]; exact k
theorem ask_all {ys : List D} (h : ∀ y ∈ ys, Ask y) : ∀ y ∈ ys ++ Consts, Ask y := List.forall_mem_append.mpr ⟨h, consts_ask⟩
theorem say_none : ¬ SayS [] (.tup [.str "same", .str "a", .str "a"]) := by
  rintro ⟨w, n, ns, e, hn, hl, h⟩
  cases ns with
  | nil => simp at e
  | cons z ns =>
    have e : D.tup [.str "same", .str "a", .str "a"] = .tup (.str w :: .str z :: ns.map D.str) := e
    injection e with e
    injection e with e1 e
    injection e1 with e1
    subst e1
    have e2 : ptsN "same" = some 2 := rfl
    rw [e2] at hn
    injection hn with hn
    subst hn
    have h := h 0 z rfl
    have : fitB 2 0 (sortAt [] z) = false := rfl
    rw [this] at h
    cases h
end K25
namespace K25
open PySem PySem.Spec PyProof.Rows L2 EL PH
section
variable {P : Program} {w : World} {K : PySem.W.Frag} {mg : Str → Option Value} {base : Heap}
def spLaw (K : PySem.W.Frag) : Sp := fun vs H Q _ => ∃ (a : Addr) (ns : List Int), vs = [.ref a] ∧ SqL K H a (ns.map V.int) ∧ ns.length ≤ 63 ∧ ∀ H', Q (.bl true) H'
abbrev GT_law (P : Program) (w : World) (base : Heap) (T : Tops K w mg) : Prop := PH.FnG P w K mg base CX0 5 T.f_law T.d_law ["_law_script"] (spLaw K)
theorem ok_law (T : Tops K w mg) (G__law_deck : FnOk P w K mg base CX0 1 T.f__law_deck T.d__law_deck ["_law_script"] (spDeck K)) (G__law_plan : GT__law_plan P w base T) (G__law_draw : GT__law_draw P w base T) (G__law_claim : GT__law_claim P w base T) (G__law_bent : GT__law_bent P w base T) (G__law_known : GT__law_known P w base T) (G__law_right : GT__law_right P w base T) (G_is_saying : GT_is_saying P w base T) : GT_law P w base T := by
  refine Fun.okG T.N_law.F sc_law ?_ ?_
  · rintro vs H Q E ⟨a, ns, rfl, _⟩
    rfl
  intro cdv A outer s H vs Q E hg hr h
  obtain ⟨a, ns, rfl, hs, hl, hQ⟩ := h
  refine ⟨_, pss_cons (ps_set (i := 1) sc_law.nd rfl (Or.inr rfl) (pe_call G__law_deck (hr.mono (by decide)) rfl T.N__law_deck.m T.N__law_deck.F.kp T.N__law_deck.b .nil pass0 (pa_cons (pv 0) pa_nil)))
    (ss_x (K := K) (cl := cl0) (DkF := Deck) fun dk H0 G0 hB => (ss_cons (s_for (vs := [2]) (ps_for PassesOwn.never rfl (i_rng1 (pi_range1 rfl T.z_range (a_cons d_int a_nil))) (g_name (vs := [2]) (pg_name (i := 2) sc_law.nd rfl (Or.inl rfl)))
    (ss_cons (s_set (i := 3) (ps_set (i := 3) sc_law.nd rfl (Or.inr rfl) (d_callCc (cc := 2 ^ 50) rfl hB (pe_call G__law_plan (hr.mono (by decide)) rfl T.N__law_plan.m T.N__law_plan.F.kp T.N__law_plan.b .nil pass0 (a_cons (d_var 1 (pv 1)) (a_cons (d_add rfl d_int (d_callCc (cc := 2 ^ 50) rfl hB (pe_call G__law_draw (hr.mono (by decide)) rfl T.N__law_draw.m T.N__law_draw.F.kp T.N__law_draw.b .nil pass0 (a_cons (d_var 1 (pv 1)) (a_cons d_int a_nil))))) (a_cons d_int a_nil)))))))
    (ss_cons (s_own (i := 4) (a_lc (ps_setLc (i := 4) (own := [("_law_again", 9)]) rfl sc_law.nd rfl rfl (sw_true rfl rfl rfl (by decide +kernel)) (i_rng1 (pi_range1 rfl T.z_range (a_cons d_int a_nil))) (blkOk_by (own := [("_law_again", 9)]) (N := N_sc_law) (sc := defScope s_law) (by decide +kernel)) (fun _ _ _ _ _ => gx (vs := [9]) fun _ => (g_name (vs := [9]) (pg_name (i := 9) sc_law.nd rfl (Or.inl rfl)))) (fun _ _ _ _ _ => bx_yes) (fun _ _ _ _ _ => dx fun h0 => (d_callCc (cc := 2 ^ 50) rfl (hB.withH h0) (pe_call G__law_claim (hr.mono (by decide)) rfl T.N__law_claim.m T.N__law_claim.F.kp T.N__law_claim.b .nil pass0 (a_cons (d_var 1 (pv 1)) (a_cons (d_var 3 (pv 3)) a_nil))))))))
    (ss_cons (s_for (vs := [5]) (ps_for PassesOwn.never rfl (i_seq rfl (d_f (f_lend (f_slL rfl (pe_slice sl_list (d_var 4 (pv 4)) o_none (o_some d_int)))))) (g_name (vs := [5]) (pg_name (i := 5) sc_law.nd rfl (Or.inl rfl)))
    (ss_cons (s_set (i := 6) (ps_set (i := 6) sc_law.nd rfl (Or.inl rfl) (d_cmp (op_eqPP hr.units) (ok_eqP rfl) (d_callCc (cc := 2 ^ 50) rfl hB (pe_call G__law_draw (hr.mono (by decide)) rfl T.N__law_draw.m T.N__law_draw.F.kp T.N__law_draw.b .nil pass0 (a_cons (d_var 1 (pv 1)) (a_cons d_int a_nil)))) d_int (nomark _))))
    (ss_cons (s_set (i := 7) (ps_set (i := 7) sc_law.nd rfl (Or.inl rfl) (d_callCc (cc := 2 ^ 50) rfl hB (pe_callG G__law_bent hg (hr.mono (by decide)) rfl T.N__law_bent.m T.N__law_bent.F.kp T.N__law_bent.b (a_cons (d_var 1 (pv 1)) (a_cons (d_var 3 (pv 3)) (a_cons (d_var 5 (pv 5)) a_nil)))))))
    (ss_one (s_expr (ps_expr (d_mut ok_appM (pe_bm PySem.F.plainAttrs_list PySem.F.slot_list_append PySem.F.type_list_append mt_append (pv 4) (a_cons (d_ifE (PW.pt (bw_and (b_val (d_var 6 (pv 6))) (bw_and1 (b_val (d_cb (ok_isi rfl kt_tuple) (pe_callB (call_isiB (T := "tuple")) (by rfl) T.z_isinstance (by decide +kernel) (a_cons (d_var 7 (pv 7)) (a_cons (d_opq (pe_bltn (by rfl) T.z_tuple (by decide +kernel) (show RelV (.ty "tuple") (.type "tuple") from rfl))) a_nil)))))))) (d_callCc (cc := 2 ^ 50) rfl hB (pe_callG G__law_bent hg (hr.mono (by decide)) rfl T.N__law_bent.m T.N__law_bent.F.kp T.N__law_bent.b (a_cons (d_var 1 (pv 1)) (a_cons (d_var 3 (pv 3)) (a_cons (d_var 7 (pv 7)) a_nil))))) (d_var 7 (pv 7))) a_nil))))))))))
    (ss_cons (s_set (i := 8) (ps_set (i := 8) sc_law.nd rfl (Or.inl rfl) (d_sl rfl (pe_slice sl_D (d_call hB (pe_call G__law_known (hr.mono (by decide)) rfl T.N__law_known.m T.N__law_known.F.kp T.N__law_known.b .nil pass0 (a_cons (d_var 3 (pv 3)) (a_cons d_str a_nil)))) o_none (o_some d_int)))))
    (ss_cons (s_own (i := 4) (ps_set (i := 4) sc_law.nd rfl (Or.inl rfl) (f_cat (d_var 4 (pv 4)) (d_f (f_lst (a_cons (d_add rfl (d_tup (a_cons d_str a_nil)) (d_cb (ok_tupOf rfl) (pe_callTy call_tuple_of (by rfl) T.z_tuple (by decide +kernel) (a_cons (d_var 8 (pv 8)) a_nil)))) (a_cons (d_add rfl (d_tup (a_cons d_str a_nil)) (d_cb (ok_tupOf rfl) (pe_callTy call_tuple_of (by rfl) T.z_tuple (by decide +kernel) (a_cons (d_var 8 (pv 8)) a_nil)))) (a_cons (d_add rfl (d_tup (a_cons d_str a_nil)) (d_cb (ok_tupOf rfl) (pe_callTy call_tuple_of (by rfl) T.z_tuple (by decide +kernel) (a_cons (d_var 8 (pv 8)) a_nil)))) a_nil))))))))
    (ss_cons (s_own (i := 4) (ps_set (i := 4) sc_law.nd rfl (Or.inl rfl) (f_cat (d_var 4 (pv 4)) (d_f (f_lst (a_cons d_non (a_cons d_int (a_cons d_str (a_cons (d_tup a_nil) (a_cons (d_f (f_lst a_nil)) (a_cons (d_fd (f_dnew pe_dnewK)) (a_cons d_bl (a_cons d_str (a_cons (d_tup (a_cons (d_tup a_nil) a_nil)) (a_cons (d_tup (a_cons (d_f (f_lst a_nil)) a_nil)) a_nil)))))))))))))))
    (ss_one (s_if (b_lend (b_cmp (op_nePP hr.units) (ok_neP rfl) (d_f (f_lc (pe_lc (own := [("_law_it", 5)]) rfl sc_law.nd (i_seq rfl (d_var 4 (pv 4))) (blkOk_by (own := [("_law_it", 5)]) (N := N_sc_law) (sc := defScope s_law) (by decide +kernel)) (fun _ _ _ _ _ => gx (vs := [5]) fun _ => (g_name (vs := [5]) (pg_name (i := 5) sc_law.nd rfl (Or.inl rfl)))) (fun _ _ _ _ _ => bx_one fun h0 => (b_not (b_val (d_call (hB.withH h0) (pe_callG G__law_right hg (hr.mono (by decide)) rfl T.N__law_right.m T.N__law_right.F.kp T.N__law_right.b (a_cons (d_var 3 (pv 3)) (a_cons (d_var 5 (pv 5)) a_nil))))))) (fun _ _ _ _ _ => dx fun h0 => (d_var 5 (pv 5)))))) (d_f (f_lst a_nil)) (nomark _))) (ss_one (s_ret d_bl)) ss_nil))))))))))
    (ss_one (s_ret (d_cmp op_isPP ok_isP (d_call hB (pe_call G_is_saying (hr.mono (by decide)) rfl T.N_is_saying.m T.N_is_saying.F.kp T.N_is_saying.b .nil pass0 (a_cons (d_tup a_nil) (a_cons (d_tup (a_cons d_str (a_cons d_str (a_cons d_str a_nil)))) a_nil)))) d_bl (nomark _)))))), ?_⟩
  refine ⟨_, rfl, ?_⟩
  dsimp only [tNil, tC, tCons]
  refine ⟨a, ns, rfl, hs, hl, fun H1 d c s1 nd nc Dk => ?_⟩
  refine ⟨deckLaw, deckUp, some (d, c), H1, noDk H1 d c, noDk H1 d c, ⟨[.un, .fz .dk, .un, .un, .un, .un, .un, .un, .un, .un], 0⟩, ⟨fun _ => False, fun r _ => r = .bl true, fun _ => False, fun _ => False⟩, deck_in deckLaw deckUp Dk (Nat.zero_le _) rfl ?_, ?_, ?_⟩
  · intro i s e
    match i, e with
    | 0, e => exact .inl (by simpa using e.symm)
    | 1, e => exact .inr ⟨by simpa using e.symm, rfl⟩
    | i + 2, e =>
      refine .inl ?_
      simp at e
      have h2 := List.mem_of_getElem? e
      simpa using h2
  rotate_left
  · exact ⟨fun _ _ _ _ q => q.elim, fun r γ G' σ v H' q _ _ rv => by
      subst q
      cases rpBl rv
      exact hQ H', fun _ _ _ _ q => q.elim, fun _ _ _ _ q => q.elim⟩
  refine ⟨⟨by decide, by decide⟩, ?_⟩
  show forD _ _ _ (rngD 0 4) _
  refine for_rng (fun k γ => ∃ (x y z u v m q r : Sl) (n : Nat), n ≤ 300 * k ∧ γ = ⟨[.un, .fz .dk, x, y, z, u, v, m, q, r], n⟩) ?_ ?_ _ ⟨_, _, _, _, _, _, _, _, 0, Nat.le_refl _, rfl⟩
  · rintro γ ⟨x, y, z, u, v, m, q, r, n, hn, rfl⟩
    have pW : plW (.tup [.str "same", .str "a", .str "a"]) := ((ask_tup (xs := [.str "same", .str "a", .str "a"]) rfl (by decide +kernel) (by decide +kernel) (by decide) (fun z h => by
      simp only [List.mem_cons, List.not_mem_nil, or_false] at h
      rcases h with h | h | h <;> (cases h; decide +kernel))).g).1
    repeat (refine ⟨Nat.le_of_ble_eq_true rfl, ?_⟩)
    refine ⟨rfl, [], _, rfl, pln_nil, pW, fun b hb => ?_⟩
    have : b = false := by
      cases b with
      | false => rfl
      | true => exact absurd (hb.mp rfl) say_none
    subst this
    intro b2 hb2
    rw [hb2.mpr Iff.rfl]
  rintro k ds γ hk ⟨x, y, z, u, v, m, q, r, n, hn, rfl⟩ next
  refine ⟨rfl, by show n + 1 ≤ 2 ^ 50; omega, ⟨by decide, by decide⟩, fun u0 u00 u01 => ?_⟩
  obtain ⟨m0, hm0⟩ : ∃ m0 : Nat, (3 : Int) + u0 = (m0 : Nat) := ⟨(3 + u0).toNat, by omega⟩
  refine ⟨rfl, by show n + 1 + 100 ≤ 2 ^ 50; omega, m0, by show [D.dk, .int (3 + u0), .int 99] = _; rw [hm0], by omega, by omega, fun L hL hlen hP => ?_⟩
  refine ⟨⟨by decide, by decide⟩, by decide, ?_⟩
  show lcD _ _ _ _ (rngD 0 6) [] _ _
  refine lc_inv (fun ds acc γ => ∃ (Cs : List (Str × List Str)) (z u v m q : Sl), ds.length + Cs.length = 6 ∧ acc = Cs.map clD ∧ (∀ c ∈ Cs, OkC c) ∧
    γ = ⟨[.un, .fz .dk, .fz (.int (0 + (k : Int))), .fz (.tup (L.map Stp.d)), z, u, v, m, q, .un], n + 101 + 8 * Cs.length⟩) ?_ ?_ _ _ _ ⟨[], _, _, _, _, _, rfl, rfl, fun _ h => (by cases h), rfl⟩
  rotate_left
  · rintro d ds acc γ ⟨Cs, z, u, v, m, q, hl, rfl, hC, rfl⟩ next1
    have hl : ds.length + 1 + Cs.length = 6 := hl
    refine ⟨fun _ => ?_, fun n => absurd trivial n⟩
    refine ⟨rfl, by show n + 101 + 8 * Cs.length + 8 ≤ 2 ^ 50; omega, L, rfl, hL, hP, fun w ns hw hn hz => ?_⟩
    refine next1 _ _ ⟨Cs ++ [(w, ns)], _, _, _, _, _, by rw [List.length_append]; show ds.length + (Cs.length + 1) = 6; omega, by rw [List.map_append]; rfl, fun c hc => ?_, by rw [List.length_append]; rfl⟩
    rcases List.mem_append.mp hc with hc | hc
    · exact hC c hc
    · cases List.mem_singleton.mp hc
      exact ⟨w8_low hw, hn, hz⟩
  rintro acc γ ⟨Cs, z, u, v, m, q, hl, rfl, hC, rfl⟩
  have hl : Cs.length = 6 := by
    have : 0 + Cs.length = 6 := hl
    omega
  rw [hl]
  intro p
  have eC : cutD (Cs.map clD) none (some 6) = Cs.map clD := by
    have h : cutD (Cs.map clD) none (some ((6 : Nat) : Int)) = (Cs.map clD).take 6 := cutD_to 6
    rw [List.take_of_length_le (by rw [List.length_map]; omega)] at h
    exact h
  have lC : (Cs.map clD).length = 6 := by rw [List.length_map, hl]
  refine ⟨?_, [], rfl, ?_⟩
  · show solids (cutD (Cs.map clD) none (some 6)) = true
    rw [eC]
    exact solids_cl Cs
  show forD _ _ _ (cutD (Cs.map clD) none (some 6)) _
  rw [eC]
  refine for_at clD Cs (fun j γ => ∃ (ys : List D) (x z u v q : Sl) (c : Nat), ys.length = 6 + j ∧ (∀ y ∈ ys, Ask y) ∧ c ≤ n + 149 + 9 * j ∧ γ = ⟨[.un, .fz .dk, x, .fz (.tup (L.map Stp.d)), .own p ys, z, u, v, q, .un], c⟩) ?_ ?_ _ ⟨Cs.map clD, _, _, _, _, _, _, lC, fun y hy => ?_, ?_, rfl⟩
  rotate_left
  · rintro j c es γ hj ⟨ys, x, z, u, v, q, ct, hy, hA, hc, rfl⟩ next2
    have hj6 : j < 6 := by have := (List.getElem?_eq_some_iff.mp hj).1; omega
    have oc := hC c (List.mem_of_getElem? hj)
    obtain ⟨I, d0, l7⟩ := it_claim oc.1 oc.2.1 oc.2.2
    refine ⟨rfl, by show ct + 1 ≤ 2 ^ 50; omega, ⟨by decide, by decide⟩, fun tw t0 t1 => ?_⟩
    refine fun b hb => ⟨rfl, by show ct + 1 + 4 ≤ 2 ^ 50; omega, L, .str c.1 :: c.2.map D.str, 80, rfl, hL, by omega, I, outB I (by decide) (fun zs O => ?_) (fun d dA dn => ?_)⟩
    · have zA : Ask (.tup zs) := O.ask I (by decide)
      obtain ⟨I2, d2, l8⟩ := O.it I d0 l7
      have one : ∀ d x5 x6 x7 (ct' : Nat), Ask d → ct' ≤ ct + 9 → _ := fun d x5 x6 x7 ct' dA hc' => next2 ⟨[.un, .fz .dk, x, .fz (.tup (L.map Stp.d)), .own p (ys ++ [d]), x5, x6, x7, q, .un], ct'⟩ ⟨ys ++ [d], _, _, _, _, _, _, by rw [List.length_append, hy]; rfl, List.forall_mem_append.mpr ⟨hA, fun y h => by cases List.mem_singleton.mp h; exact dA⟩, by omega, rfl⟩
      refine ⟨⟨_, _, rfl⟩, fun hb1 => ⟨_, rfl, isi_tup ⟨fun _ => ?_, fun h => absurd rfl h⟩⟩, fun _ => ⟨fun h => h.elim, fun _ => ⟨(by show ys.length < 1000000; omega), one _ _ _ _ _ zA (by show ct + 1 + 4 ≤ ct + 9; omega)⟩⟩⟩
      refine ⟨rfl, by show ct + 1 + 4 + 4 ≤ 2 ^ 50; omega, L, zs, 360, rfl, hL, by omega, I2, outB I2 (by decide) (fun zs2 O2 => ?_) (fun d dA dn => ?_)⟩
      · exact ⟨(by show ys.length < 1000000; omega), one _ _ _ _ _ (O2.ask I2 (by decide)) (by show ct + 1 + 4 + 4 ≤ ct + 9; omega)⟩
      · exact ⟨(by show ys.length < 1000000; omega), one _ _ _ _ _ dA (by show ct + 1 + 4 + 4 ≤ ct + 9; omega)⟩
    · have one : ∀ x5 x6 x7 (ct' : Nat), ct' ≤ ct + 9 → _ := fun x5 x6 x7 ct' hc' => next2 ⟨[.un, .fz .dk, x, .fz (.tup (L.map Stp.d)), .own p (ys ++ [d]), x5, x6, x7, q, .un], ct'⟩ ⟨ys ++ [d], _, _, _, _, _, _, by rw [List.length_append, hy]; rfl, List.forall_mem_append.mpr ⟨hA, fun y h => by cases List.mem_singleton.mp h; exact dA⟩, by omega, rfl⟩
      refine ⟨⟨_, _, rfl⟩, fun hb1 => ⟨_, rfl, isi_nt dA.g.1.1.1 dn ?_⟩, fun _ => ⟨fun h => h.elim, fun _ => ?_⟩⟩
      rotate_left
      · exact ⟨(by show ys.length < 1000000; omega), one _ _ _ _ (by show ct + 1 + 4 ≤ ct + 9; omega)⟩
      refine ⟨(fun h => nomatch h), fun _ => ?_⟩
      exact ⟨(by show ys.length < 1000000; omega), one _ _ _ _ (by show ct + 1 + 4 ≤ ct + 9; omega)⟩
  · obtain ⟨c, hc, rfl⟩ := List.mem_map.mp hy
    exact okC_ask (hC c hc)
  · show n + 101 + 8 * 6 ≤ n + 149 + 9 * 0
    omega
  rintro γ ⟨ys, x, z, u, v, q, ct, hy, hA, hc, rfl⟩
  have hyl : ys.length = 12 := by rw [hl] at hy; exact hy
  have hPl : (knownL "P" L).length ≤ 14 := known_le hL.len
  refine ⟨rfl, L, "P", _, rfl, .inl rfl, by have := hL.len; omega, .inl rfl, ?_⟩
  have eK : cutD ((knownL "P" L).map D.str) none (some 2) = ((knownL "P" L).take 2).map D.str := by
    have h : cutD ((knownL "P" L).map D.str) none (some ((2 : Nat) : Int)) = _ := cutD_to 2
    rw [List.map_take]
    exact h
  have lK : (1 : Nat) + ((knownL "P" L).take 2).length ≤ 1000000 := by rw [List.length_take]; omega
  have lK1 : ([D.str "same"] : List D).length + (cutD ((knownL "P" L).map D.str) none (some 2)).length ≤ 1000000 := by rw [eK, List.length_map]; exact lK
  have o1 : (1 : Nat) ≤ 1000000 := by decide
  refine ⟨o1, lK1, o1, lK1, o1, lK1, Nat.le_of_ble_eq_true rfl, by show ys.length + 3 ≤ 1000000; omega, fun p2 => ?_⟩
  rw [eK]
  have nA : ∀ w : Str, lowb w = true → Ask (.tup ([.str w] ++ ((knownL "P" L).take 2).map D.str)) := fun w hw => okC_ask (c := (w, (knownL "P" L).take 2)) ⟨hw, by show ((knownL "P" L).take 2).length ≤ 6; rw [List.length_take]; omega, fun z hz => by
    obtain ⟨t, ht, rfl⟩ := List.mem_map.mp (known_sub (List.mem_of_mem_take hz))
    exact hL.low t ht⟩
  have Q3 : ∀ y ∈ ys ++ [D.tup ([.str "same"] ++ ((knownL "P" L).take 2).map D.str), D.tup ([.str "at"] ++ ((knownL "P" L).take 2).map D.str), D.tup ([.str "unlike"] ++ ((knownL "P" L).take 2).map D.str)], Ask y := List.forall_mem_append.mpr ⟨hA, fun y hy => by
    simp only [List.mem_cons, List.not_mem_nil, or_false] at hy
    rcases hy with rfl | rfl | rfl
    · exact nA _ (by decide +kernel)
    · exact nA _ (by decide +kernel)
    · exact nA _ (by decide +kernel)⟩
  have lZ : (ys ++ [D.tup ([.str "same"] ++ ((knownL "P" L).take 2).map D.str), D.tup ([.str "at"] ++ ((knownL "P" L).take 2).map D.str), D.tup ([.str "unlike"] ++ ((knownL "P" L).take 2).map D.str)]).length = 15 := by rw [List.length_append, hyl]; rfl
  generalize (ys ++ [D.tup ([.str "same"] ++ ((knownL "P" L).take 2).map D.str), D.tup ([.str "at"] ++ ((knownL "P" L).take 2).map D.str), D.tup ([.str "unlike"] ++ ((knownL "P" L).take 2).map D.str)]) = Z at Q3 lZ ⊢
  repeat (refine ⟨Nat.le_of_ble_eq_true rfl, ?_⟩)
  refine ⟨by show Z.length + 10 ≤ 1000000; omega, fun p3 => ?_⟩
  have hZ : ∀ y ∈ (Z ++ ([.non, .int 0, .str "", .tup [], .lst [], .dct [], .bl true, .str "same a b", .tup [.tup []], .tup [.lst []]] : List D)), Ask y := ask_all Q3
  have lW : (Z ++ ([.non, .int 0, .str "", .tup [], .lst [], .dct [], .bl true, .str "same a b", .tup [.tup []], .tup [.lst []]] : List D)).length = 25 := by rw [List.length_append, lZ]; rfl
  generalize (Z ++ ([.non, .int 0, .str "", .tup [], .lst [], .dct [], .bl true, .str "same a b", .tup [.tup []], .tup [.lst []]] : List D)) = W at hZ lW ⊢
  refine ⟨by show W.length ≤ 1000000; omega, ?_⟩
  suffices hh : lcD (bN 5) (bNot (bVal (dCall 2 FRight noX (aCons (dVar 3) (aCons (dVar 5) aNil))))) (dVar 5) [5] (W.map id) [] _ _ by rw [List.map_id] at hh; exact hh
  refine lc_filt id id (fun _ => false) W ?_ W [] _ (fun _ h => h) ?_
  · intro d hd R R' k1 k2
    have a := hZ d hd
    exact ⟨rfl, L, d, rfl, hL, a.g, a.s, fun h => (h rfl).elim, fun _ => k2 rfl _ rfl⟩
  rw [List.nil_append, List.filter_eq_nil_iff.mpr (fun _ _ => by decide)]
  have ok0 : okD (D.lst []) := by constructor <;> decide +kernel
  refine ⟨Nat.zero_le _, ⟨ok0, ok0⟩, [5], rfl, fun h => absurd (show eqD (D.lst []) (D.lst []) = true by decide +kernel) h, fun _ => ?_⟩
  exact next _ ⟨_, _, _, _, _, _, _, _, ct, by omega, rfl⟩
end
end K25
namespace K25
open PySem PySem.Spec PyProof.Rows L2 EL PH
section
variable {P : Program} {w : World} {K : PySem.W.Frag} {mg : Str → Option Value} {base : Heap}
theorem all_law (T : Tops K w mg) : GT_law P w base T :=
  have G__law_deck := ok_deck (w := w) (base := base) (P := P) T.N__law_deck.F T.z_list T.z_sum
  have G__law_draw := ok__law_draw (w := w) (base := base) (P := P) T
  have G_is_name : GT_is_name P w base T := ok_is_name T 
  have G_sort_of : GT_sort_of P w base T := ok_sort_of T 
  have G_sorts_by_name : GT_sorts_by_name P w base T := ok_sorts_by_name T G_sort_of
  have G_names_wanted : GT_names_wanted P w base T := ok_names_wanted T 
  have G_fits_place : GT_fits_place P w base T := ok_fits_place T 
  have G_is_saying_by_form : GT_is_saying_by_form P w base T := ok_is_saying_by_form T G_names_wanted G_is_name
  have G_is_saying : GT_is_saying P w base T := ok_is_saying T G_is_saying_by_form G_sorts_by_name G_fits_place
  have G__law_forms : GT__law_forms P w base T := ok__law_forms T 
  have G__law_known : GT__law_known P w base T := ok__law_known T 
  have G__law_due : GT__law_due P w base T := ok__law_due T G__law_forms G__law_known
  have G__law_right : GT__law_right P w base T := ok__law_right T G_is_saying G__law_due
  have G__law_pick : GT__law_pick P w base T := ok__law_pick T G__law_draw
  have G__law_odd : GT__law_odd P w base T := ok__law_odd T G__law_pick
  have G__law_bent : GT__law_bent P w base T := ok__law_bent T G__law_draw G__law_odd G__law_pick
  have G__law_names : GT__law_names P w base T := ok__law_names T G__law_draw
  have G__law_weigh : GT__law_weigh P w base T := ok__law_weigh T 
  have G__law_two : GT__law_two P w base T := ok__law_two T G__law_draw
  have G__law_others : GT__law_others P w base T := ok__law_others T 
  have G__law_some_step : GT__law_some_step P w base T := ok__law_some_step T G__law_known G__law_draw G__law_two G__law_pick G__law_others
  have G__law_plan : GT__law_plan P w base T := ok__law_plan T G__law_names G__law_draw G__law_some_step G__law_weigh
  have G__law_claim : GT__law_claim P w base T := ok__law_claim T G__law_known G__law_pick G__law_forms
  ok_law T G__law_deck G__law_plan G__law_draw G__law_claim G__law_bent G__law_known G__law_right G_is_saying
end
theorem fns_mk {K : PySem.W.Frag} {h : Heap} {mg : Str → Option Value} {x : Str} {i : Nat} {ps : List Str} {f : Addr} {oc : Value} {od an : Option Addr} {osl : Array (Option Value)} {kV doc pm cdv ct : Value} (X : K.In h) (G : h.Ns mainGlobals mg)
    (a : PySem.W.nsIn K mainGlobals x = some (some (.ref f)))
    (l : K.lookup f = some ⟨oc, od, .func (PySem.W.fnOf x x (defArgs (topS i)) (defBody (topS i)) (defScope (topS i)) .none kV doc pm an cdv ct), osl⟩) (c : PySem.W.codeIn K cdv x = true) (k : PySem.W.keepIn K (.ref f) = true)
    (hb : ∀ (kV doc pm : Value) (an : Option Addr) (cdv ct : Value) (us : List Value), us.length = ps.length → bindArgs (PySem.W.fnOf x x (defArgs (topS i)) (defBody (topS i)) (defScope (topS i)) .none kV doc pm an cdv ct) ⟨us, []⟩ = pure (ps.zip us)) :
    Fns K mg f (PySem.W.fnOf x x (defArgs (topS i)) (defBody (topS i)) (defScope (topS i)) .none kV doc pm an cdv ct) x i ps :=
  ⟨fun_mk (st := topS i) l c k, (fun_mk (st := topS i) l c k).binds hb, PySem.W.mg_of X G a⟩
theorem all_mk {P : Program} {w : World} {K : PySem.W.Frag} {h : Heap} {mg : Str → Option Value} {fa : Addr} (X : K.In h) (G : h.Ns mainGlobals mg) (hfa : mg "law" = some (.ref fa))
    {f3 f4 f5 f8 f9 f10 f11 f13 f14 f15 f16 f17 f18 f19 f20 f21 f22 f23 f24 f25 f26 f27 f28 f29 adPOINTS adMAKES : Addr} {od3 an3 od4 an4 od5 an5 od8 an8 od9 an9 od10 an10 od11 an11 od13 an13 od14 an14 od15 an15 od16 an16 od17 an17 od18 an18 od19 an19 od20 an20 od21 an21 od22 an22 od23 an23 od24 an24 od25 an25 od26 an26 od27 an27 od28 an28 od29 an29 : Option Addr} {sl3 sl4 sl5 sl8 sl9 sl10 sl11 sl13 sl14 sl15 sl16 sl17 sl18 sl19 sl20 sl21 sl22 sl23 sl24 sl25 sl26 sl27 sl28 sl29 : Array (Option Value)} {oc3 kV3 dc3 pm3 cd3 ct3 oc4 kV4 dc4 pm4 cd4 ct4 oc5 kV5 dc5 pm5 cd5 ct5 oc8 kV8 dc8 pm8 cd8 ct8 oc9 kV9 dc9 pm9 cd9 ct9 oc10 kV10 dc10 pm10 cd10 ct10 oc11 kV11 dc11 pm11 cd11 ct11 oc13 kV13 dc13 pm13 cd13 ct13 oc14 kV14 dc14 pm14 cd14 ct14 oc15 kV15 dc15 pm15 cd15 ct15 oc16 kV16 dc16 pm16 cd16 ct16 oc17 kV17 dc17 pm17 cd17 ct17 oc18 kV18 dc18 pm18 cd18 ct18 oc19 kV19 dc19 pm19 cd19 ct19 oc20 kV20 dc20 pm20 cd20 ct20 oc21 kV21 dc21 pm21 cd21 ct21 oc22 kV22 dc22 pm22 cd22 ct22 oc23 kV23 dc23 pm23 cd23 ct23 oc24 kV24 dc24 pm24 cd24 ct24 oc25 kV25 dc25 pm25 cd25 ct25 oc26 kV26 dc26 pm26 cd26 ct26 oc27 kV27 dc27 pm27 cd27 ct27 oc28 kV28 dc28 pm28 cd28 ct28 oc29 kV29 dc29 pm29 cd29 ct29 : Value} {ktPOINTS0 ktPOINTS1 ktPOINTS2 ktPOINTS3 ktPOINTS4 ktPOINTS5 ktPOINTS6 ktPOINTS7 ktMAKES0 ktMAKES1 ktMAKES2 ktMAKES3 kiMOST_LETTERS : Tok}
    (a3 : PySem.W.nsIn K mainGlobals "is_name" = some (some (.ref f3)))
    (l3 : K.lookup f3 = some ⟨oc3, od3, .func (PySem.W.fnOf "is_name" "is_name" (defArgs (topS 3)) (defBody (topS 3)) (defScope (topS 3)) .none kV3 dc3 pm3 an3 cd3 ct3), sl3⟩)
    (c3 : PySem.W.codeIn K cd3 "is_name" = true)
    (k3 : PySem.W.keepIn K (.ref f3) = true)
    (a4 : PySem.W.nsIn K mainGlobals "sort_of" = some (some (.ref f4)))
    (l4 : K.lookup f4 = some ⟨oc4, od4, .func (PySem.W.fnOf "sort_of" "sort_of" (defArgs (topS 4)) (defBody (topS 4)) (defScope (topS 4)) .none kV4 dc4 pm4 an4 cd4 ct4), sl4⟩)
    (c4 : PySem.W.codeIn K cd4 "sort_of" = true)
    (k4 : PySem.W.keepIn K (.ref f4) = true)
    (a5 : PySem.W.nsIn K mainGlobals "sorts_by_name" = some (some (.ref f5)))
    (l5 : K.lookup f5 = some ⟨oc5, od5, .func (PySem.W.fnOf "sorts_by_name" "sorts_by_name" (defArgs (topS 5)) (defBody (topS 5)) (defScope (topS 5)) .none kV5 dc5 pm5 an5 cd5 ct5), sl5⟩)
    (c5 : PySem.W.codeIn K cd5 "sorts_by_name" = true)
    (k5 : PySem.W.keepIn K (.ref f5) = true)
    (a8 : PySem.W.nsIn K mainGlobals "is_saying" = some (some (.ref f8)))
    (l8 : K.lookup f8 = some ⟨oc8, od8, .func (PySem.W.fnOf "is_saying" "is_saying" (defArgs (topS 8)) (defBody (topS 8)) (defScope (topS 8)) .none kV8 dc8 pm8 an8 cd8 ct8), sl8⟩)
    (c8 : PySem.W.codeIn K cd8 "is_saying" = true)
    (k8 : PySem.W.keepIn K (.ref f8) = true)
    (a9 : PySem.W.nsIn K mainGlobals "is_saying_by_form" = some (some (.ref f9)))
    (l9 : K.lookup f9 = some ⟨oc9, od9, .func (PySem.W.fnOf "is_saying_by_form" "is_saying_by_form" (defArgs (topS 9)) (defBody (topS 9)) (defScope (topS 9)) .none kV9 dc9 pm9 an9 cd9 ct9), sl9⟩)
    (c9 : PySem.W.codeIn K cd9 "is_saying_by_form" = true)
    (k9 : PySem.W.keepIn K (.ref f9) = true)
    (a10 : PySem.W.nsIn K mainGlobals "names_wanted" = some (some (.ref f10)))
    (l10 : K.lookup f10 = some ⟨oc10, od10, .func (PySem.W.fnOf "names_wanted" "names_wanted" (defArgs (topS 10)) (defBody (topS 10)) (defScope (topS 10)) .none kV10 dc10 pm10 an10 cd10 ct10), sl10⟩)
    (c10 : PySem.W.codeIn K cd10 "names_wanted" = true)
    (k10 : PySem.W.keepIn K (.ref f10) = true)
    (a11 : PySem.W.nsIn K mainGlobals "fits_place" = some (some (.ref f11)))
    (l11 : K.lookup f11 = some ⟨oc11, od11, .func (PySem.W.fnOf "fits_place" "fits_place" (defArgs (topS 11)) (defBody (topS 11)) (defScope (topS 11)) .none kV11 dc11 pm11 an11 cd11 ct11), sl11⟩)
    (c11 : PySem.W.codeIn K cd11 "fits_place" = true)
    (k11 : PySem.W.keepIn K (.ref f11) = true)
    (a13 : PySem.W.nsIn K mainGlobals "_law_deck" = some (some (.ref f13)))
    (l13 : K.lookup f13 = some ⟨oc13, od13, .func (PySem.W.fnOf "_law_deck" "_law_deck" (defArgs (topS 13)) (defBody (topS 13)) (defScope (topS 13)) .none kV13 dc13 pm13 an13 cd13 ct13), sl13⟩)
    (c13 : PySem.W.codeIn K cd13 "_law_deck" = true)
    (k13 : PySem.W.keepIn K (.ref f13) = true)
    (a14 : PySem.W.nsIn K mainGlobals "_law_draw" = some (some (.ref f14)))
    (l14 : K.lookup f14 = some ⟨oc14, od14, .func (PySem.W.fnOf "_law_draw" "_law_draw" (defArgs (topS 14)) (defBody (topS 14)) (defScope (topS 14)) .none kV14 dc14 pm14 an14 cd14 ct14), sl14⟩)
    (c14 : PySem.W.codeIn K cd14 "_law_draw" = true)
    (k14 : PySem.W.keepIn K (.ref f14) = true)
    (a15 : PySem.W.nsIn K mainGlobals "_law_pick" = some (some (.ref f15)))
    (l15 : K.lookup f15 = some ⟨oc15, od15, .func (PySem.W.fnOf "_law_pick" "_law_pick" (defArgs (topS 15)) (defBody (topS 15)) (defScope (topS 15)) .none kV15 dc15 pm15 an15 cd15 ct15), sl15⟩)
    (c15 : PySem.W.codeIn K cd15 "_law_pick" = true)
    (k15 : PySem.W.keepIn K (.ref f15) = true)
    (a16 : PySem.W.nsIn K mainGlobals "_law_names" = some (some (.ref f16)))
    (l16 : K.lookup f16 = some ⟨oc16, od16, .func (PySem.W.fnOf "_law_names" "_law_names" (defArgs (topS 16)) (defBody (topS 16)) (defScope (topS 16)) .none kV16 dc16 pm16 an16 cd16 ct16), sl16⟩)
    (c16 : PySem.W.codeIn K cd16 "_law_names" = true)
    (k16 : PySem.W.keepIn K (.ref f16) = true)
    (a17 : PySem.W.nsIn K mainGlobals "_law_weigh" = some (some (.ref f17)))
    (l17 : K.lookup f17 = some ⟨oc17, od17, .func (PySem.W.fnOf "_law_weigh" "_law_weigh" (defArgs (topS 17)) (defBody (topS 17)) (defScope (topS 17)) .none kV17 dc17 pm17 an17 cd17 ct17), sl17⟩)
    (c17 : PySem.W.codeIn K cd17 "_law_weigh" = true)
    (k17 : PySem.W.keepIn K (.ref f17) = true)
    (a18 : PySem.W.nsIn K mainGlobals "_law_known" = some (some (.ref f18)))
    (l18 : K.lookup f18 = some ⟨oc18, od18, .func (PySem.W.fnOf "_law_known" "_law_known" (defArgs (topS 18)) (defBody (topS 18)) (defScope (topS 18)) .none kV18 dc18 pm18 an18 cd18 ct18), sl18⟩)
    (c18 : PySem.W.codeIn K cd18 "_law_known" = true)
    (k18 : PySem.W.keepIn K (.ref f18) = true)
    (a19 : PySem.W.nsIn K mainGlobals "_law_two" = some (some (.ref f19)))
    (l19 : K.lookup f19 = some ⟨oc19, od19, .func (PySem.W.fnOf "_law_two" "_law_two" (defArgs (topS 19)) (defBody (topS 19)) (defScope (topS 19)) .none kV19 dc19 pm19 an19 cd19 ct19), sl19⟩)
    (c19 : PySem.W.codeIn K cd19 "_law_two" = true)
    (k19 : PySem.W.keepIn K (.ref f19) = true)
    (a20 : PySem.W.nsIn K mainGlobals "_law_others" = some (some (.ref f20)))
    (l20 : K.lookup f20 = some ⟨oc20, od20, .func (PySem.W.fnOf "_law_others" "_law_others" (defArgs (topS 20)) (defBody (topS 20)) (defScope (topS 20)) .none kV20 dc20 pm20 an20 cd20 ct20), sl20⟩)
    (c20 : PySem.W.codeIn K cd20 "_law_others" = true)
    (k20 : PySem.W.keepIn K (.ref f20) = true)
    (a21 : PySem.W.nsIn K mainGlobals "_law_some_step" = some (some (.ref f21)))
    (l21 : K.lookup f21 = some ⟨oc21, od21, .func (PySem.W.fnOf "_law_some_step" "_law_some_step" (defArgs (topS 21)) (defBody (topS 21)) (defScope (topS 21)) .none kV21 dc21 pm21 an21 cd21 ct21), sl21⟩)
    (c21 : PySem.W.codeIn K cd21 "_law_some_step" = true)
    (k21 : PySem.W.keepIn K (.ref f21) = true)
    (a22 : PySem.W.nsIn K mainGlobals "_law_plan" = some (some (.ref f22)))
    (l22 : K.lookup f22 = some ⟨oc22, od22, .func (PySem.W.fnOf "_law_plan" "_law_plan" (defArgs (topS 22)) (defBody (topS 22)) (defScope (topS 22)) .none kV22 dc22 pm22 an22 cd22 ct22), sl22⟩)
    (c22 : PySem.W.codeIn K cd22 "_law_plan" = true)
    (k22 : PySem.W.keepIn K (.ref f22) = true)
    (a23 : PySem.W.nsIn K mainGlobals "_law_forms" = some (some (.ref f23)))
    (l23 : K.lookup f23 = some ⟨oc23, od23, .func (PySem.W.fnOf "_law_forms" "_law_forms" (defArgs (topS 23)) (defBody (topS 23)) (defScope (topS 23)) .none kV23 dc23 pm23 an23 cd23 ct23), sl23⟩)
    (c23 : PySem.W.codeIn K cd23 "_law_forms" = true)
    (k23 : PySem.W.keepIn K (.ref f23) = true)
    (a24 : PySem.W.nsIn K mainGlobals "_law_due" = some (some (.ref f24)))
    (l24 : K.lookup f24 = some ⟨oc24, od24, .func (PySem.W.fnOf "_law_due" "_law_due" (defArgs (topS 24)) (defBody (topS 24)) (defScope (topS 24)) .none kV24 dc24 pm24 an24 cd24 ct24), sl24⟩)
    (c24 : PySem.W.codeIn K cd24 "_law_due" = true)
    (k24 : PySem.W.keepIn K (.ref f24) = true)
    (a25 : PySem.W.nsIn K mainGlobals "_law_claim" = some (some (.ref f25)))
    (l25 : K.lookup f25 = some ⟨oc25, od25, .func (PySem.W.fnOf "_law_claim" "_law_claim" (defArgs (topS 25)) (defBody (topS 25)) (defScope (topS 25)) .none kV25 dc25 pm25 an25 cd25 ct25), sl25⟩)
    (c25 : PySem.W.codeIn K cd25 "_law_claim" = true)
    (k25 : PySem.W.keepIn K (.ref f25) = true)
    (a26 : PySem.W.nsIn K mainGlobals "_law_odd" = some (some (.ref f26)))
    (l26 : K.lookup f26 = some ⟨oc26, od26, .func (PySem.W.fnOf "_law_odd" "_law_odd" (defArgs (topS 26)) (defBody (topS 26)) (defScope (topS 26)) .none kV26 dc26 pm26 an26 cd26 ct26), sl26⟩)
    (c26 : PySem.W.codeIn K cd26 "_law_odd" = true)
    (k26 : PySem.W.keepIn K (.ref f26) = true)
    (a27 : PySem.W.nsIn K mainGlobals "_law_bent" = some (some (.ref f27)))
    (l27 : K.lookup f27 = some ⟨oc27, od27, .func (PySem.W.fnOf "_law_bent" "_law_bent" (defArgs (topS 27)) (defBody (topS 27)) (defScope (topS 27)) .none kV27 dc27 pm27 an27 cd27 ct27), sl27⟩)
    (c27 : PySem.W.codeIn K cd27 "_law_bent" = true)
    (k27 : PySem.W.keepIn K (.ref f27) = true)
    (a28 : PySem.W.nsIn K mainGlobals "_law_right" = some (some (.ref f28)))
    (l28 : K.lookup f28 = some ⟨oc28, od28, .func (PySem.W.fnOf "_law_right" "_law_right" (defArgs (topS 28)) (defBody (topS 28)) (defScope (topS 28)) .none kV28 dc28 pm28 an28 cd28 ct28), sl28⟩)
    (c28 : PySem.W.codeIn K cd28 "_law_right" = true)
    (k28 : PySem.W.keepIn K (.ref f28) = true)
    (a29 : PySem.W.nsIn K mainGlobals "law" = some (some (.ref f29)))
    (l29 : K.lookup f29 = some ⟨oc29, od29, .func (PySem.W.fnOf "law" "law" (defArgs (topS 29)) (defBody (topS 29)) (defScope (topS 29)) .none kV29 dc29 pm29 an29 cd29 ct29), sl29⟩)
    (c29 : PySem.W.codeIn K cd29 "law" = true)
    (k29 : PySem.W.keepIn K (.ref f29) = true)
    (zall : PySem.W.nsIn K mainGlobals "all" = some none)
    (zbool : PySem.W.nsIn K mainGlobals "bool" = some none)
    (zdict : PySem.W.nsIn K mainGlobals "dict" = some none)
    (zenumerate : PySem.W.nsIn K mainGlobals "enumerate" = some none)
    (zint : PySem.W.nsIn K mainGlobals "int" = some none)
    (zisinstance : PySem.W.nsIn K mainGlobals "isinstance" = some none)
    (zlen : PySem.W.nsIn K mainGlobals "len" = some none)
    (zlist : PySem.W.nsIn K mainGlobals "list" = some none)
    (zmax : PySem.W.nsIn K mainGlobals "max" = some none)
    (zmin : PySem.W.nsIn K mainGlobals "min" = some none)
    (zrange : PySem.W.nsIn K mainGlobals "range" = some none)
    (zrepr : PySem.W.nsIn K mainGlobals "repr" = some none)
    (zset : PySem.W.nsIn K mainGlobals "set" = some none)
    (zsorted : PySem.W.nsIn K mainGlobals "sorted" = some none)
    (zstr : PySem.W.nsIn K mainGlobals "str" = some none)
    (zsum : PySem.W.nsIn K mainGlobals "sum" = some none)
    (ztuple : PySem.W.nsIn K mainGlobals "tuple" = some none)
    (zzip : PySem.W.nsIn K mainGlobals "zip" = some none)
    (taPOINTS : PySem.W.nsIn K mainGlobals "POINTS" = some (some (.ref adPOINTS)))
    (tkPOINTS : He.dicW K adPOINTS = some (He.keysIn w.params ["same", "row", "along", "upright", "alike", "angle", "ring", "at"]))
    (tvPOINTS0 : PySem.W.nsIn K adPOINTS "same" = some (some (.int 2 ktPOINTS0)))
    (tvPOINTS1 : PySem.W.nsIn K adPOINTS "row" = some (some (.int 3 ktPOINTS1)))
    (tvPOINTS2 : PySem.W.nsIn K adPOINTS "along" = some (some (.int 4 ktPOINTS2)))
    (tvPOINTS3 : PySem.W.nsIn K adPOINTS "upright" = some (some (.int 4 ktPOINTS3)))
    (tvPOINTS4 : PySem.W.nsIn K adPOINTS "alike" = some (some (.int 4 ktPOINTS4)))
    (tvPOINTS5 : PySem.W.nsIn K adPOINTS "angle" = some (some (.int 6 ktPOINTS5)))
    (tvPOINTS6 : PySem.W.nsIn K adPOINTS "ring" = some (some (.int 4 ktPOINTS6)))
    (tvPOINTS7 : PySem.W.nsIn K adPOINTS "at" = some (some (.int 1 ktPOINTS7)))
    (taMAKES : PySem.W.nsIn K mainGlobals "MAKES" = some (some (.ref adMAKES)))
    (tkMAKES : He.dicW K adMAKES = some (He.keysIn w.params ["line", "along", "upright", "circle"]))
    (tvMAKES0 : PySem.W.nsIn K adMAKES "line" = some (some (.str "line" ktMAKES0)))
    (tvMAKES1 : PySem.W.nsIn K adMAKES "along" = some (some (.str "line" ktMAKES1)))
    (tvMAKES2 : PySem.W.nsIn K adMAKES "upright" = some (some (.str "line" ktMAKES2)))
    (tvMAKES3 : PySem.W.nsIn K adMAKES "circle" = some (some (.str "circle" ktMAKES3)))
    (tiMOST_LETTERS : PySem.W.nsIn K mainGlobals "MOST_LETTERS" = some (some (.int 8 kiMOST_LETTERS))) :
    ∃ fd : FuncData, (∀ (s : Shared) (v : Value), BindsTo s fd ⟨[v], []⟩ [("_law_script", v)]) ∧ ∀ base : Heap, K.In base → base.Ns mainGlobals mg → PH.FnG P w K mg base CX0 5 fa fd ["_law_script"] (spLaw K) := by
  have e := hfa.symm.trans (PySem.W.mg_of X G a29)
  cases e
  have N3 := fns_mk (i := 3) (ps := ["thing"]) X G a3 l3 c3 k3 fun _ _ _ _ _ _ us hl => match us, hl with | [_], _ => rfl
  have N4 := fns_mk (i := 4) (ps := ["step"]) X G a4 l4 c4 k4 fun _ _ _ _ _ _ us hl => match us, hl with | [_], _ => rfl
  have N5 := fns_mk (i := 5) (ps := ["sketch"]) X G a5 l5 c5 k5 fun _ _ _ _ _ _ us hl => match us, hl with | [_], _ => rfl
  have N8 := fns_mk (i := 8) (ps := ["sketch", "thing"]) X G a8 l8 c8 k8 fun _ _ _ _ _ _ us hl => match us, hl with | [_, _], _ => rfl
  have N9 := fns_mk (i := 9) (ps := ["thing"]) X G a9 l9 c9 k9 fun _ _ _ _ _ _ us hl => match us, hl with | [_], _ => rfl
  have N10 := fns_mk (i := 10) (ps := ["word"]) X G a10 l10 c10 k10 fun _ _ _ _ _ _ us hl => match us, hl with | [_], _ => rfl
  have N11 := fns_mk (i := 11) (ps := ["word", "at", "sort"]) X G a11 l11 c11 k11 fun _ _ _ _ _ _ us hl => match us, hl with | [_, _, _], _ => rfl
  have N13 := fns_mk (i := 13) (ps := ["_law_script"]) X G a13 l13 c13 k13 fun _ _ _ _ _ _ us hl => match us, hl with | [_], _ => rfl
  have N14 := fns_mk (i := 14) (ps := ["_law_deck_here", "_law_many"]) X G a14 l14 c14 k14 fun _ _ _ _ _ _ us hl => match us, hl with | [_, _], _ => rfl
  have N15 := fns_mk (i := 15) (ps := ["_law_deck_here", "_law_some"]) X G a15 l15 c15 k15 fun _ _ _ _ _ _ us hl => match us, hl with | [_, _], _ => rfl
  have N16 := fns_mk (i := 16) (ps := ["_law_deck_here", "_law_many"]) X G a16 l16 c16 k16 fun _ _ _ _ _ _ us hl => match us, hl with | [_, _], _ => rfl
  have N17 := fns_mk (i := 17) (ps := ["_law_weights", "_law_step", "_law_ways"]) X G a17 l17 c17 k17 fun _ _ _ _ _ _ us hl => match us, hl with | [_, _, _], _ => rfl
  have N18 := fns_mk (i := 18) (ps := ["_law_plan_here", "_law_sort"]) X G a18 l18 c18 k18 fun _ _ _ _ _ _ us hl => match us, hl with | [_, _], _ => rfl
  have N19 := fns_mk (i := 19) (ps := ["_law_deck_here", "_law_some"]) X G a19 l19 c19 k19 fun _ _ _ _ _ _ us hl => match us, hl with | [_, _], _ => rfl
  have N20 := fns_mk (i := 20) (ps := ["_law_plan_here"]) X G a20 l20 c20 k20 fun _ _ _ _ _ _ us hl => match us, hl with | [_], _ => rfl
  have N21 := fns_mk (i := 21) (ps := ["_law_deck_here", "_law_plan_here", "_law_name"]) X G a21 l21 c21 k21 fun _ _ _ _ _ _ us hl => match us, hl with | [_, _, _], _ => rfl
  have N22 := fns_mk (i := 22) (ps := ["_law_deck_here", "_law_many", "_law_heavy"]) X G a22 l22 c22 k22 fun _ _ _ _ _ _ us hl => match us, hl with | [_, _, _], _ => rfl
  have N23 := fns_mk (i := 23) (ps := []) X G a23 l23 c23 k23 fun _ _ _ _ _ _ us hl => match us, hl with | [], _ => rfl
  have N24 := fns_mk (i := 24) (ps := ["_law_plan_here", "_law_it"]) X G a24 l24 c24 k24 fun _ _ _ _ _ _ us hl => match us, hl with | [_, _], _ => rfl
  have N25 := fns_mk (i := 25) (ps := ["_law_deck_here", "_law_plan_here"]) X G a25 l25 c25 k25 fun _ _ _ _ _ _ us hl => match us, hl with | [_, _], _ => rfl
  have N26 := fns_mk (i := 26) (ps := ["_law_deck_here", "_law_plan_here"]) X G a26 l26 c26 k26 fun _ _ _ _ _ _ us hl => match us, hl with | [_, _], _ => rfl
  have N27 := fns_mk (i := 27) (ps := ["_law_deck_here", "_law_plan_here", "_law_it"]) X G a27 l27 c27 k27 fun _ _ _ _ _ _ us hl => match us, hl with | [_, _, _], _ => rfl
  have N28 := fns_mk (i := 28) (ps := ["_law_plan_here", "_law_it"]) X G a28 l28 c28 k28 fun _ _ _ _ _ _ us hl => match us, hl with | [_, _], _ => rfl
  have N29 := fns_mk (i := 29) (ps := ["_law_script"]) X G a29 l29 c29 k29 fun _ _ _ _ _ _ us hl => match us, hl with | [_], _ => rfl
  have TTPOINTS : KTab K w cl0 adPOINTS tab_POINTS := ktab_mk (ks := ["same", "row", "along", "upright", "alike", "angle", "ring", "at"]) tkPOINTS rfl fun z c hh => by
    rcases List.mem_cons.mp hh with hh | hh
    · cases hh; exact kv_int tvPOINTS0
    rcases List.mem_cons.mp hh with hh | hh
    · cases hh; exact kv_int tvPOINTS1
    rcases List.mem_cons.mp hh with hh | hh
    · cases hh; exact kv_int tvPOINTS2
    rcases List.mem_cons.mp hh with hh | hh
    · cases hh; exact kv_int tvPOINTS3
    rcases List.mem_cons.mp hh with hh | hh
    · cases hh; exact kv_int tvPOINTS4
    rcases List.mem_cons.mp hh with hh | hh
    · cases hh; exact kv_int tvPOINTS5
    rcases List.mem_cons.mp hh with hh | hh
    · cases hh; exact kv_int tvPOINTS6
    rcases List.mem_cons.mp hh with hh | hh
    · cases hh; exact kv_int tvPOINTS7
    · cases hh
  have TTMAKES : KTab K w cl0 adMAKES tab_MAKES := ktab_mk (ks := ["line", "along", "upright", "circle"]) tkMAKES rfl fun z c hh => by
    rcases List.mem_cons.mp hh with hh | hh
    · cases hh; exact kv_str tvMAKES0
    rcases List.mem_cons.mp hh with hh | hh
    · cases hh; exact kv_str tvMAKES1
    rcases List.mem_cons.mp hh with hh | hh
    · cases hh; exact kv_str tvMAKES2
    rcases List.mem_cons.mp hh with hh | hh
    · cases hh; exact kv_str tvMAKES3
    · cases hh
  have zz : ∀ {n : Str}, PySem.W.nsIn K mainGlobals n = some none → mg n = none := fun z => PySem.W.mg_none_of X G z
  refine ⟨PySem.W.fnOf "law" "law" (defArgs (topS 29)) (defBody (topS 29)) (defScope (topS 29)) .none kV29 dc29 pm29 an29 cd29 ct29, fun s v => .of_eq rfl, fun base _ _ => ?_⟩
  exact all_law (P := P) (w := w) (base := base) ⟨_, _, N3, _, _, N4, _, _, N5, _, _, N8, _, _, N9, _, _, N10, _, _, N11, _, _, N13, _, _, N14, _, _, N15, _, _, N16, _, _, N17, _, _, N18, _, _, N19, _, _, N20, _, _, N21, _, _, N22, _, _, N23, _, _, N24, _, _, N25, _, _, N26, _, _, N27, _, _, N28, _, _, N29, adPOINTS, PySem.W.mg_of X G taPOINTS, TTPOINTS, adMAKES, PySem.W.mg_of X G taMAKES, TTMAKES, ⟨_, PySem.W.mg_of X G tiMOST_LETTERS, ⟨_, rfl⟩⟩, zz zall, zz zbool, zz zdict, zz zenumerate, zz zint, zz zisinstance, zz zlen, zz zlist, zz zmax, zz zmin, zz zrange, zz zrepr, zz zset, zz zsorted, zz zstr, zz zsum, zz ztuple, zz zzip⟩
end K25
open PySem PySem.W PyProof.Rows
set_option maxRecDepth 100000 in
set_option maxHeartbeats 0 in
theorem PySem.Challenge.cw_pointhouse_k25_sayings_forms_holds : PySem.Challenge.rw_pointhouse_k25_sayings_forms.Holds := by
  w_on; o_law; k_head; (case hw => w_witness2)
  k_fill
  refine PH.walk_G (l := PySem.Challenge.rw_pointhouse_k25_sayings_forms) (n := 63) (k := 5) (x := "_law_script") (sp := K25.spLaw) rfl (by decide) rfl ⟨rfl, by decide, by decide⟩ (fun w h Y => PySem.W.kIn_of Y) ?F (fun K H a ns hl _ hS => ⟨a, ns, rfl, hS, hl, fun _ => rfl⟩)
  case F =>
    intro w mg fa h KX G hmg
    refine' K25.all_mk KX G hmg ?a3 ?l3 ?c3 ?k3 ?a4 ?l4 ?c4 ?k4 ?a5 ?l5 ?c5 ?k5 ?a8 ?l8 ?c8 ?k8 ?a9 ?l9 ?c9 ?k9 ?a10 ?l10 ?c10 ?k10 ?a11 ?l11 ?c11 ?k11 ?a13 ?l13 ?c13 ?k13 ?a14 ?l14 ?c14 ?k14 ?a15 ?l15 ?c15 ?k15 ?a16 ?l16 ?c16 ?k16 ?a17 ?l17 ?c17 ?k17 ?a18 ?l18 ?c18 ?k18 ?a19 ?l19 ?c19 ?k19 ?a20 ?l20 ?c20 ?k20 ?a21 ?l21 ?c21 ?k21 ?a22 ?l22 ?c22 ?k22 ?a23 ?l23 ?c23 ?k23 ?a24 ?l24 ?c24 ?k24 ?a25 ?l25 ?c25 ?k25 ?a26 ?l26 ?c26 ?k26 ?a27 ?l27 ?c27 ?k27 ?a28 ?l28 ?c28 ?k28 ?a29 ?l29 ?c29 ?k29 ?zall ?zbool ?zdict ?zenumerate ?zint ?zisinstance ?zlen ?zlist ?zmax ?zmin ?zrange ?zrepr ?zset ?zsorted ?zstr ?zsum ?ztuple ?zzip ?taPOINTS ?tkPOINTS ?tvPOINTS0 ?tvPOINTS1 ?tvPOINTS2 ?tvPOINTS3 ?tvPOINTS4 ?tvPOINTS5 ?tvPOINTS6 ?tvPOINTS7 ?taMAKES ?tkMAKES ?tvMAKES0 ?tvMAKES1 ?tvMAKES2 ?tvMAKES3 ?tiMOST_LETTERS
    (case a3 => k_is)
    (case l3 => k_is)
    (case c3 => k_is)
    (case k3 => k_is)
    (case a4 => k_is)
    (case l4 => k_is)
    (case c4 => k_is)
    (case k4 => k_is)
    (case a5 => k_is)
    (case l5 => k_is)
    (case c5 => k_is)
    (case k5 => k_is)
    (case a8 => k_is)
    (case l8 => k_is)
    (case c8 => k_is)
    (case k8 => k_is)
    (case a9 => k_is)
    (case l9 => k_is)
    (case c9 => k_is)
    (case k9 => k_is)
    (case a10 => k_is)
    (case l10 => k_is)
    (case c10 => k_is)
    (case k10 => k_is)
    (case a11 => k_is)
    (case l11 => k_is)
    (case c11 => k_is)
    (case k11 => k_is)
    (case a13 => k_is)
    (case l13 => k_is)
    (case c13 => k_is)
    (case k13 => k_is)
    (case a14 => k_is)
    (case l14 => k_is)
    (case c14 => k_is)
    (case k14 => k_is)
    (case a15 => k_is)
    (case l15 => k_is)
    (case c15 => k_is)
    (case k15 => k_is)
    (case a16 => k_is)
    (case l16 => k_is)
    (case c16 => k_is)
    (case k16 => k_is)
    (case a17 => k_is)
    (case l17 => k_is)
    (case c17 => k_is)
    (case k17 => k_is)
    (case a18 => k_is)
    (case l18 => k_is)
    (case c18 => k_is)
    (case k18 => k_is)
    (case a19 => k_is)
    (case l19 => k_is)
    (case c19 => k_is)
    (case k19 => k_is)
    (case a20 => k_is)
    (case l20 => k_is)
    (case c20 => k_is)
    (case k20 => k_is)
    (case a21 => k_is)
    (case l21 => k_is)
    (case c21 => k_is)
    (case k21 => k_is)
    (case a22 => k_is)
    (case l22 => k_is)
    (case c22 => k_is)
    (case k22 => k_is)
    (case a23 => k_is)
    (case l23 => k_is)
    (case c23 => k_is)
    (case k23 => k_is)
    (case a24 => k_is)
    (case l24 => k_is)
    (case c24 => k_is)
    (case k24 => k_is)
    (case a25 => k_is)
    (case l25 => k_is)
    (case c25 => k_is)
    (case k25 => k_is)
    (case a26 => k_is)
    (case l26 => k_is)
    (case c26 => k_is)
    (case k26 => k_is)
    (case a27 => k_is)
    (case l27 => k_is)
    (case c27 => k_is)
    (case k27 => k_is)
    (case a28 => k_is)
    (case l28 => k_is)
    (case c28 => k_is)
    (case k28 => k_is)
    (case a29 => k_is)
    (case l29 => k_is)
    (case c29 => k_is)
    (case k29 => k_is)
    (case zall => k_is)
    (case zbool => k_is)
    (case zdict => k_is)
    (case zenumerate => k_is)
    (case zint => k_is)
    (case zisinstance => k_is)
    (case zlen => k_is)
    (case zlist => k_is)
    (case zmax => k_is)
    (case zmin => k_is)
    (case zrange => k_is)
    (case zrepr => k_is)
    (case zset => k_is)
    (case zsorted => k_is)
    (case zstr => k_is)
    (case zsum => k_is)
    (case ztuple => k_is)
    (case zzip => k_is)
    (case taPOINTS => k_is)
    (case tkPOINTS => first | k_is | rfl)
    (case tvPOINTS0 => k_is)
    (case tvPOINTS1 => k_is)
    (case tvPOINTS2 => k_is)
    (case tvPOINTS3 => k_is)
    (case tvPOINTS4 => k_is)
    (case tvPOINTS5 => k_is)
    (case tvPOINTS6 => k_is)
    (case tvPOINTS7 => k_is)
    (case taMAKES => k_is)
    (case tkMAKES => first | k_is | rfl)
    (case tvMAKES0 => k_is)
    (case tvMAKES1 => k_is)
    (case tvMAKES2 => k_is)
    (case tvMAKES3 => k_is)
    (case tiMOST_LETTERS => k_is)
#print axioms PySem.Challenge.cw_pointhouse_k25_sayings_forms_holds
