import PyProof.Rows.All
import Wide.All
import OpenK.AllK
import Wide.FinOn
import PyProof.EqAt
import PyProof.EqKinds
import PyProof.TupleCall
import PyProof.ReprRoads
import PyProof.TwoTypesSub
import PyProof.AutoIntG7
import PyProof.FactsAll.bool_3
import KE.KMathG
import HandS.ForMost
import HandS.More
import HandS.Gcd
import HandS.Wide
import HandS.Exc
import HandS.TryOnly
import HandS.ExcOwn
import HandS.WordsExc
import HandS.ExcIs
import HandS.IsInst
import HandS.MakeKwOnly
import HandS.NoneIn
import HandS.TupLe
import HandS.Ends
import Flt.RightSqrt
import HandS.WideBits
import HandS.Base
import HandS.Call
import HandS.List
import HandS.Comp
import HandS.Words
import HandS.WordsList
import HandS.Walk
import HandS.TupAny
import HandS.Style
import HandS.Codes
import HandS.Flow
import HandS.RevTup
import HandS.RevRange
import HandS.Zip
import HandS.Text
import HandS.Deep
import HandS.Dict
import HandS.Rev
import HandS.Replace
import HandS.FStr
import KE.GoesMore
import PyProof.EnumMake
import HandS.HeadHook3
import KE.GoesZip
import HandS.DictSubView
import HandS.Strs
import HandS.RaiseMore
import HandS.StrMore
import HandS.SetTxt0
import HandS.MapJoin
import PyProof.Rows.StrCase
import PyProof.Ascii
import PyProof.Rows.ReprOcc
import HandS.DictComp
import HandS.WordsDict
import KE.SortData
import KE.DatumOrd
import HandS.DictTup
import HandS.Conv
import HandS.SortKw
import HandS.TupMul
import KE.IntBitsLaws
import PyProof.NeKinds
import PyProof.Rows.IntBool
import PySem.Challenge.RW_pointhouse_k28_sums
set_option Elab.async false
set_option linter.all false
set_option maxRecDepth 100000
set_option maxHeartbeats 16000000
namespace PH
open PySem PySem.Spec PyProof.Rows L2
section
variable {X : Cx}
/-! ### isqrt -/
def rSqrt : List V → Hp → VK → Prop := fun vs H Q =>
  ∃ a : Int, vs = [.int a] ∧ 0 ≤ a ∧ a < 2 ^ 200 ∧ Q (.int ((Float64.isqrt a.toNat : Nat) : Int)) H
theorem log_le {n k : Nat} (h : n < 2 ^ (k + 1)) : n.log2 ≤ k := by
  by_cases h0 : n = 0
  · rw [h0, Nat.log2_zero]; exact Nat.zero_le _
  · exact Nat.le_of_lt_succ ((Nat.log2_lt h0).mpr h)
theorem cr_isqrt : CallR X (.builtin "math.isqrt") rSqrt := by
  intro pins s σ H vs us Q I r h
  obtain ⟨a, rfl, h0, h1, q⟩ := h
  obtain ⟨u, rfl, t, rfl⟩ := vals1 r
  have hl : a.toNat.log2 ≤ 199 := log_le (by show a.toNat < 2 ^ 200; omega)
  exact call_function_meets PySem.W.MGF.kind_isqrt PySem.W.MGF.plain_isqrt PySem.W.MGF.entry_isqrt (PySem.W.MGF.args_isqrt _)
    (PySem.W.mg_run_isqrt a t (by omega) (by omega) (by omega)).meets ⟨.int _, H, I.tok _, ⟨_, rfl⟩, q⟩
/-! ### repr of data, where nothing is being shown -/
def rRepr (K : PySem.W.Frag) : List V → Hp → VK → Prop := fun xs H Q =>
  ∃ (a : Addr) (d : PyData), xs = [.ref a] ∧ Dp K H (.ref a) d ∧ d.showable = true ∧ d.hasDict = false ∧ d.depth ≤ 60 ∧
    d.shown.length ≤ sizeLine ∧ Q (.str d.shown) H
theorem cr_repr {k : Nat} (hg : X.A.guards = some []) (hr : Room k X.A) : CallR X (.builtin "repr") (rRepr X.K) := by
  intro pins s σ H xs us Q I r h
  obtain ⟨a, d, rfl, hd, hs, hn, hdp, hz, q⟩ := h
  obtain ⟨u, rfl, ru⟩ := vals1 r
  cases (show u = Value.ref a from ru)
  obtain ⟨as, rd⟩ := Dp.reads I d _ _ hd rfl
  have hu := hr.units
  exact repr_of_reads' rd hs (fun e => by rw [hn] at e; cases e) hg (by omega) (fun _ _ e => e)
    (fun h' u tk hk => ⟨.str _, H, I.kept hk, ⟨u, rfl⟩, q⟩) hz
/-! ### self.f = .. among several targets -/
def gFld (K : PySem.W.Frag) (to : TE) (f : Str) : TG := fun v σ H Q => to σ H fun x H1 =>
  ∃ a C dx fs, x = .ref a ∧ H1 a = some (.ins C dx fs) ∧ Cls K C ∧ NoAttr K C f ∧ fs.length < 1000 ∧ Q σ (upd H1 a (.ins C dx (putF f v fs)))
theorem pg_fld {o : Expr} {f : Str} {to : TE} {pos : Pos} (ho : PE X o to) : PG X (.Attribute o f pos) (gFld X.K to f) := by
  refine ⟨fun pins s σ H v u Q I r h => ?_⟩
  rw [assign_Attribute]
  refine wpAny_bind (wpAny_holding (thn (ho.run pins s σ H _ I h) fun ov s1 hh => ?_))
  obtain ⟨x, H1, I1, rx, a, C, dx, fs, ex, ea, c, n, l, q⟩ := hh
  subst ex
  obtain rfl : ov = Value.ref a := rx
  refine wpAny_bind (wpAny_standAt (wpAny_bind (wpAny_holding ?_)))
  exact setattr_ok I1 ea c n l r fun s2 I2 => wpAny_release ⟨σ, _, I2, q⟩
/-! ### int - bool -/
theorem op_sub_ib : OpR X (binaryOp .Sub) (fun x y H Q => ∃ i k, x = .int i ∧ y = .bl k ∧ Q (.int (i - b2i k)) H) := by
  intro pins s σ H x y v u Q I rx ry h
  obtain ⟨i, k, rfl, rfl, q⟩ := h
  obtain ⟨t, rfl⟩ := rx
  cases ry
  have same : reflectedDiffers (.type "int") (.type "bool") "sub" = pure false := by
    show (typeLookup (.type "bool") (dunderR "sub") >>= fun rb => typeLookup (.type "int") (dunderR "sub") >>= fun ra => pure (rb.isSome && rb != ra)) = pure false
    simp only [typeLookup_type]
    rw [builtinLookup_eq_fast]
    kernel_rfl
  exact binaryOp_sub_gives (op := .Sub) (T := "int") (U := "bool") (by decide) (typeIs_int s i t) rfl F.fills_int_sub
    F.fills_bool_sub isSubtype_bool_int same F.slot_int_sub F.entry_int_sub (F.args_int_sub_2 _ _) (AutoIntG7.int___sub___int_bool_0 i t k) trivial
    ⟨.int (i - b2i k), H, I.tok _, ⟨_, rfl⟩, q⟩
end
/-! ### defs that ask what is being shown: their promise holds where nothing is -/
structure FnG (P : Program) (w : World) (K : PySem.W.Frag) (mg : Str → Option Value) (base : Heap) (CX : CXT) (k : Nat) (f : Addr) (fd : FuncData) (ps : List Str) (sp : Sp) : Prop where
  len : ∀ vs H Q E, sp vs H Q E → vs.length = ps.length
  run : ∀ (A : Around) (outer : List Env) (s : Shared) (H : Hp) (args : Args) (us : List Value) (vs : List V) (Q : VK) (E : XK),
    A.guards = some [] → Room k A → Env0 P w K mg base A outer s H → BindsTo s fd args (ps.zip us) → Vals vs us → sp vs H Q E →
    codeAny (model P w) A (.call (.ref f) args) (CR CX outer P w H s Q E) s
section
variable {P : Program} {w : World} {K : PySem.W.Frag} {mg : Str → Option Value} {base : Heap}
theorem Fun.okG {x qual : Str} {st : Stmt} {f : Addr} {fd : FuncData} {N ps : List Str} {k : Nat} {sp : Sp} (F : Fun K x qual st f fd) (S : FnScope N ps (defScope st))
    (len : ∀ vs H Q E, sp vs H Q E → vs.length = ps.length)
    (hbody : ∀ (cdv : Value) (A : Around) (outer : List Env) (s : Shared) (H : Hp) (vs : List V) (Q : VK) (E : XK), A.guards = some [] →
      Room k (A.deeper (envOfC qual (defScope st) s.heap.objs.size f cdv)) → sp vs H Q E →
      ∃ t, PSs (cxOf CX0 P w K mg base N qual (defScope st) f cdv A outer s H E).nox (defBody st) t ∧ t { nx := fun _ H' => Q .non H', rt := Q } (start N vs) H) :
    FnG P w K mg base CX0 (k + 1) f fd ps sp := by
  obtain ⟨oc, od, kV, doc, pm, an, cdv, ct, osl, rfl, lk, hcd⟩ := F.ex
  constructor
  · exact len
  intro A outer s H args us vs Q E hg hr e0 hb r hsp
  have within := fun b o e => (e0.bs b o e).1
  have KX : K.In s.heap := e0.mod.kin.keeps within
  refine codeAny_call_function hr.depth (KX _ _ lk) rfl S.co S.gen rfl (PySem.W.codeRec_of KX hcd) (hb _ _ _ _ ?_)
  refine wpAny_newFunctionEnv_cells S.kind ?_ ?_
  · rintro ⟨n, v⟩ hy
    have q := S.par n (List.of_mem_zip hy).1
    exact q.imp id fun z => And.intro z (PySem.W.cellsFrom_some _ _ _ (Or.inl z))
  intro env he s1 x
  subst he
  refine And.intro ((e0.mod.nolimit.keeps within).keeps x.toInCall.keep) (codeAny_func ?_)
  obtain ⟨t, hx, hq⟩ := hbody cdv A outer s H vs Q E hg (hr.deeper _) hsp
  have ht := hx.nox
  have I := inv_start (CX := CX0) (E := E) S hr.hd e0 (len _ _ _ _ hsp) r x
  have fin : ∀ {σ' : L2.St} {H' : Hp} {v : V} {u : Value} {s' : Shared},
      Inv (cxOf CX0 P w K mg base N qual (defScope st) f cdv A outer s H E) [] σ' H' s' → RelV v u → Q v H' → CE outer P w H s Q u s' := by
    intro σ' H' v u s' J rv q
    exact ⟨v, H', J.os, J.bare, J.base, J.hok, rv, q⟩
  refine wpAny_mono (ht.run [] s1 (start N vs) H _ I hq) ?_ (fun _ _ z => z)
  intro fl s' hs
  match fl, hs with
  | .ret u, ⟨v, _, _, J, rv, q⟩ => exact fin J rv q
  | .next, ⟨_, _, J, q⟩ => exact fin (v := V.non) (u := Value.none) J rfl q
  | .brk, ⟨_, _, _, q⟩ => exact q.elim
  | .cont, ⟨_, _, _, q⟩ => exact q.elim
end
section
variable {X : Cx} {k : Nat} {f : Addr} {fd : FuncData} {ps : List Str} {sp : Sp} {x : Str} {p pos : Pos} {e : Expr} {es : List Expr} {t : TA}
theorem pe_callG (F : FnG X.prog X.w X.K X.mg X.base CX0 k f fd ps sp) (hgu : X.A.guards = some []) (hr : Room k X.A) (hg : Gl X x) (hm : X.mg x = some (.ref f))
    (hk : PySem.W.keepIn X.K (.ref f) = true) (hb : Binds X.K fd ps []) (ha : PA X (e :: es) t) (hdb : (x == ("__debug__" : Str)) = false := by decide)
    (he : starEach (e :: es) X.env = (false, eval e X.env) :: starEach es X.env := by rfl) (hpl : (backTo pos (starEach es X.env)).any (·.1) = false := by rfl) :
    PE X (.Call (.Name x p) (e :: es) [] pos) (tCall sp [] E0 t) := by
  constructor
  intro pins s σ H Q I h
  refine wpAny_Call_Name_kw (ld_glob I hg hm ?_ hdb)
  refine PySem.W.callWith_K (h₀ := X.base) I.ok.mod.kin hk (thn (ha.run pos pins s σ H _ I h) ?_) he hpl
  rintro us s1 ⟨vs, H1, I1, r, q⟩
  refine And.intro I1.kIn ?_
  rw [List.append_nil] at q
  have hl : us.length = ps.length := r.length.symm.trans (F.len _ _ _ _ q)
  have hb' := hb s1 us I1.kIn (by rw [List.append_nil]; exact hl)
  rw [List.append_nil] at hb'
  refine wpAny_call (codeAny_mono (F.run X.A X.stack s1 H1 ⟨us, []⟩ us vs Q E0 hgu hr I1.env0 hb' r q) ?_)
  intro r' s' hq
  match r', hq with
  | .error _, hq => exact hq.elim
  | .ok (.ret _), hq => exact I1.after hq
  | .ok .next, hq => exact hq.elim
  | .ok .brk, hq => exact hq.elim
  | .ok .cont, hq => exact hq.elim
end
end PH
namespace PH
open PySem PySem.Spec PyProof.Rows L2
/-! ### the law's call from the heap behind the top, nothing being shown -/
section
variable {P : Program} {w : World} {K : PySem.W.Frag} {mg mb : Str → Option Value} {k : Nat} {fa a : Addr} {fd : FuncData} {x : Str} {sp : Sp} {s₁ : Shared} {vs : List Value} {ns : List Int}
/-- what may be tracked there: the script, or nothing where the module has it -/
theorem script_heap (KX : K.In s₁.heap) (ha : s₁.heap.get? a = some { cls := .type "list", data := .seq vs.toArray }) (hi : IntsAre vs ns) (hl : ns.length ≤ sizeLine) :
    ∃ H : Hp, Only H ∧ SqL K H a (ns.map V.int) ∧ HOk P w H s₁.heap ∧ ∀ b, H b ≠ none → b = a ∧ K.lookup a = none := by
  have rv := vals_ints hi
  have lenV := hi.length
  rcases hk : K.lookup a with _ | o
  · let ob : Obj := { cls := .type "list", data := .seq vs.toArray }
    refine ⟨fun b => if b = a then some (.frz ob (.lst (ns.map V.int))) else none, ?_, ?_, ?_, ?_⟩
    · intro b
      by_cases h : b = a
      · right; exact ⟨_, _, if_pos h⟩
      · left; exact if_neg h
    · left; right; exact ⟨ob, if_pos rfl⟩
    · intro b u z
      by_cases h : b = a
      · subst h
        have z' := (if_pos rfl).symm.trans z
        cases z'
        refine ⟨ha, ?_, vs, _, rv, ha⟩
        rw [List.length_map]; exact hl
      · have z' := (if_neg h).symm.trans z
        cases z'
    · intro b z
      by_cases h : b = a
      · exact ⟨h, rfl⟩
      · exact absurd (if_neg h) z
  · have e := KX a o hk
    rw [ha] at e
    cases e
    refine ⟨fun _ => none, fun _ => Or.inl rfl, ?_, (fun b u z => by cases (show (none : Option HO) = some u from z)), (fun b z => absurd rfl z)⟩
    right
    refine ⟨_, vs.toArray, _, hk, rfl, rfl, rfl, ?_, ?_⟩
    · rw [List.size_toArray, lenV]; exact hl
    · simpa using rv
theorem law_callG (KX : K.In s₁.heap) (hns : s₁.heap.Ns mainGlobals mg) (hb : s₁.heap.Ns builtinsNs mb) (hbb : ∀ x : Str, x ≠ "__name__" → mb x = bootBuiltins x)
    (hlim : s₁.heap.NoLimit) (hg : s₁.gens = #[]) (ha : s₁.heap.get? a = some { cls := .type "list", data := .seq vs.toArray }) (hi : IntsAre vs ns)
    (hl : ns.length ≤ sizeLine) (hr : Room k callerA) (F : ∀ base : Heap, K.In base → base.Ns mainGlobals mg → FnG P w K mg base CX0 k fa fd [x] sp)
    (hbind : ∀ (s : Shared) (u : Value), BindsTo s fd ⟨[u], []⟩ [(x, u)])
    (hsp : ∀ H : Hp, Only H → SqL K H a (ns.map V.int) → sp [.ref a] H (fun v _ => v = .bl true) fun _ _ _ => False) :
    codeAny (model P w) callerA (.call (.ref fa) ⟨[.ref a], []⟩) (fun r s' => r = .ok (.ret (.bool true)) ∧ OldK s₁.heap s'.heap ∧ s'.os = s₁.os ∧ AllBare s'.gens) s₁ := by
  obtain ⟨H, hO, hS, hok, hA⟩ := script_heap (P := P) (w := w) KX ha hi hl
  have off : ∀ {b : Addr} {o : Obj}, s₁.heap.get? b = some o → (b = a → K.lookup a = none → False) → (hidT s₁.heap H).get? b = some o := by
    intro b o e h
    refine hidT_get e ?_
    rcases q : H b with _ | u
    · rfl
    · have z := hA b (by rw [q]; exact fun z => nomatch z)
      exact (h z.1 z.2).elim
  have dicts : ∀ {b : Addr} {m : Str → Option Value}, s₁.heap.Ns b m → (hidT s₁.heap H).Ns b m := by
    rintro b m ⟨o, es, ep, e, d, r⟩
    refine ⟨o, es, ep, off e ?_, d, r⟩
    intro hba _
    subst hba
    rw [ha] at e
    cases e
    exact nomatch (d : Data.seq vs.toArray _ = Data.dict es ep)
  have hKb : K.In (hidT s₁.heap H) := by
    intro b o e
    refine off (KX b o e) ?_
    intro hba hn
    rw [hba, hn] at e
    cases e
  have hM : Mod K mg (hidT s₁.heap H) := by
    obtain ⟨mc, h1, h2⟩ := hlim
    exact ⟨hKb, dicts hns, ⟨mb, dicts hb, hbb⟩, ⟨mc, dicts h1, h2⟩⟩
  have e0 : Env0 P w K mg (hidT s₁.heap H) callerA [] s₁ H :=
    { frames := rfl, mod := hM, bs := fun b o e => of_hidT e, bsz := Nat.le_of_eq (hidT_size _ _), funs := trivial,
      frf := fun b z => absurd (show b ∈ ([] : List Addr) from z) List.not_mem_nil, hok := hok, bare := .of_eq hg }
  refine codeAny_mono ((F _ hKb (dicts hns)).run callerA [] s₁ H ⟨[.ref a], []⟩ [.ref a] [.ref a] _ _ rfl hr e0 (hbind s₁ (.ref a)) (.cons rfl .nil) (hsp H hO hS)) ?_
  intro r s' h
  match r, h with
  | .error _, h => exact h.elim
  | .ok .next, h => exact h.elim
  | .ok .brk, h => exact h.elim
  | .ok .cont, h => exact h.elim
  | .ok (.ret u), ⟨v, H', os, bare, un, hok', r', q⟩ =>
    subst q
    cases r'
    refine ⟨rfl, OldK.of_keep ?_, os, bare⟩
    intro b o e
    rcases q : H b with _ | y
    · exact un.keep b o e q (fun z => absurd (show b ∈ ([] : List Addr) from z) List.not_mem_nil) List.not_mem_nil
    · rcases hO b with z | ⟨ob, xs, z⟩
      · rw [q] at z; cases z
      · have g1 := (hok b _ z).1
        have g2 := (hok' b _ (un.frzs b ob _ z)).1
        rw [e] at g1
        cases g1
        exact g2
/-- the goal that k_head leaves -/
theorem walk_G {l : PySem.W.OpenLaw} {n k : Nat} {q : Program} {loose : List Str} {XP : (Str → Option Value) → Heap → Prop} {YP : World → Heap → Prop} {d : DefRec} {K : Params → PySem.W.Frag} {sp : PySem.W.Frag → Sp} {x : Str}
    (hn : l.most = some n) (hn2 : n ≤ sizeLine) (hdf : d.params.defaults = []) (hr : Room k callerA) (hY : ∀ (w : World) (h : Heap), YP w h → (K w.params).In h)
    (F : ∀ (w : World) (mg : Str → Option Value) (fa : Addr) (h : Heap), (K w.params).In h → h.Ns mainGlobals mg → mg d.name = some (.ref fa) →
      ∃ fd : FuncData, (∀ (s : Shared) (u : Value), BindsTo s fd ⟨[u], []⟩ [(x, u)]) ∧
        ∀ base : Heap, (K w.params).In base → base.Ns mainGlobals mg → FnG l.prog w (K w.params) mg base CX0 k fa fd [x] (sp (K w.params)))
    (hsp : ∀ (K : PySem.W.Frag) (H : Hp) (a : Addr) (ns : List Int), ns.length ≤ n → Only H → SqL K H a (ns.map V.int) → sp K [.ref a] H (fun v _ => v = .bl true) fun _ _ _ => False) :
    PySem.W.WalkO q loose XP YP l.row.toRowW d [] (fun f vs => PySem.call f vs) := by
  refine Att.attach_call hn hdf ?_
  intro w s₀ s₁ mg mb fa o pm cd doc a vs ns G Y ho hd hcd hmg hobj hints hlen hg
  have KX := hY w _ Y
  obtain ⟨fd, hb, hF⟩ := F w mg fa _ KX G.T.g hmg
  exact law_callG KX G.T.g G.T.b G.T.builtins G.T.nolimit hg hobj hints (Nat.le_trans hlen hn2) hr hF hb
    (fun H hO hS => hsp _ H a ns hlen hO hS)
end
end PH
namespace PH
open PySem
/-! ### the quotient in lowest terms, the whole part of a root, a number's form -/
def g (a b : Int) : Int := ((Nat.gcd a.natAbs b.natAbs : Nat) : Int)
def low (a b : Int) : Int × Int := (a / g a b, b / g a b)
def rt (n : Int) : Int := ((Float64.isqrt n.toNat : Nat) : Int)
def isq (n : Int) : Bool := decide (rt n * rt n = n)
theorem g_pos {a b : Int} (h : 0 < b) : 0 < g a b := by
  unfold g
  have : 0 < Nat.gcd a.natAbs b.natAbs := Nat.gcd_pos_of_pos_right _ (by omega)
  omega
theorem g_dl (a b : Int) : g a b ∣ a := Int.natAbs_dvd_natAbs.mp (by show (a.natAbs.gcd b.natAbs) ∣ a.natAbs; exact Nat.gcd_dvd_left _ _)
theorem g_dr (a b : Int) : g a b ∣ b := Int.natAbs_dvd_natAbs.mp (by show (a.natAbs.gcd b.natAbs) ∣ b.natAbs; exact Nat.gcd_dvd_right _ _)
theorem g_le {a b : Int} (h : 0 < b) : g a b ≤ b := Int.le_of_dvd h (g_dr a b)
theorem g_le_left {a b : Int} (h : 0 < a) : g a b ≤ a := Int.le_of_dvd h (g_dl a b)
theorem low1 (a b : Int) : (low a b).1 * g a b = a := Int.ediv_mul_cancel (g_dl a b)
theorem low2 (a b : Int) : (low a b).2 * g a b = b := Int.ediv_mul_cancel (g_dr a b)
theorem low2_pos {a b : Int} (h : 0 < b) : 0 < (low a b).2 := by
  have h1 := low2 a b
  have h2 := g_pos (a := a) h
  rcases Int.lt_or_le 0 (low a b).2 with h3 | h3
  · exact h3
  · have := Int.mul_le_mul_of_nonneg_right h3 (Int.le_of_lt h2)
    rw [h1, Int.zero_mul] at this
    omega
theorem low1_nonneg {a b : Int} (ha : 0 ≤ a) (h : 0 < b) : 0 ≤ (low a b).1 := Int.ediv_nonneg ha (Int.le_of_lt (g_pos h))
theorem natAbs_div_le {a k : Int} (hk : 0 < k) : (a / k).natAbs ≤ a.natAbs := by
  rcases Int.le_total 0 a with h | h
  · have h1 : 0 ≤ a / k := Int.ediv_nonneg h (Int.le_of_lt hk)
    have h2 : a / k ≤ a := Int.ediv_le_self k h
    omega
  · have h1 : a / k ≤ 0 := by
      have := Int.ediv_le_ediv hk h
      simpa using this
    have h2 : a ≤ a / k := by
      have q := Int.emod_nonneg a (show k ≠ 0 by omega)
      have q2 := Int.mul_ediv_add_emod a k
      have q3 := Int.emod_lt_of_pos a hk
      by_cases hz : a / k = 0
      · omega
      · have : k * (a / k) ≤ 1 * (a / k) := Int.mul_le_mul_of_nonpos_right (by omega) h1
        rcases Int.le_total a (a / k) with z | z
        · exact z
        · have hk1 : 1 ≤ k := by omega
          have e : k * (a / k) ≤ a / k := by omega
          have f : a < k * (a / k) + k := by omega
          have d : a / k < 0 := by omega
          have m1 : a / k + 1 ≤ 0 := by omega
          have m2 : k * (a / k + 1) ≤ 1 * (a / k + 1) := Int.mul_le_mul_of_nonpos_right (by omega) m1
          have m3 : k * (a / k + 1) = k * (a / k) + k := by rw [Int.mul_add, Int.mul_one]
          omega
    omega
theorem low1_abs {a b : Int} (h : 0 < b) : (low a b).1.natAbs ≤ a.natAbs := natAbs_div_le (g_pos h)
theorem low1_le {a b : Int} (ha : 0 ≤ a) (h : 0 < b) : (low a b).1 ≤ a := Int.ediv_le_self _ ha
theorem low2_le {a b : Int} (h : 0 < b) : (low a b).2 ≤ b := Int.ediv_le_self _ (Int.le_of_lt h)
theorem g_mul (a b k : Int) (hk : 0 < k) : g (a * k) (b * k) = g a b * k := by
  unfold g
  rw [Int.natAbs_mul, Int.natAbs_mul, Nat.gcd_mul_right]
  have : ((k.natAbs : Nat) : Int) = k := by omega
  rw [Int.natCast_mul, this]
theorem low_mul (a b k : Int) (hk : 0 < k) : low (a * k) (b * k) = low a b := by
  unfold low
  rw [g_mul a b k hk, Int.mul_ediv_mul_of_pos_left _ _ hk, Int.mul_ediv_mul_of_pos_left _ _ hk]
/-- a quotient that is in lowest terms stays -/
theorem low_id {a b : Int} (h : g a b = 1) : low a b = (a, b) := by
  unfold low
  rw [h, Int.ediv_one, Int.ediv_one]
theorem g_low {a b : Int} (h : 0 < b) : g (low a b).1 (low a b).2 = 1 := by
  have hp := g_pos (a := a) h
  have e : g a b = g (low a b).1 (low a b).2 * g a b := by
    have := g_mul (low a b).1 (low a b).2 (g a b) hp
    rw [low1, low2] at this
    exact this
  have e2 : 1 * g a b = g (low a b).1 (low a b).2 * g a b := by rw [Int.one_mul]; exact e
  exact (Int.eq_of_mul_eq_mul_right (by omega) e2).symm
theorem low_low {a b : Int} (h : 0 < b) : low (low a b).1 (low a b).2 = low a b := low_id (g_low h)
/-! ### roots -/
theorem rt_nonneg (n : Int) : 0 ≤ rt n := Int.natCast_nonneg _
theorem rt_spec {n : Int} (h : 0 ≤ n) : rt n * rt n ≤ n ∧ n < (rt n + 1) * (rt n + 1) := by
  have q := Float64.isqrt_spec n.toNat
  have e : ((n.toNat : Nat) : Int) = n := by omega
  refine ⟨?_, ?_⟩
  · have := Int.ofNat_le.mpr q.1
    rw [e] at this
    unfold rt
    rw [← Int.natCast_mul]
    exact this
  · have := Int.ofNat_lt.mpr q.2
    rw [e] at this
    unfold rt
    have e2 : ((Float64.isqrt n.toNat : Nat) : Int) + 1 = ((Float64.isqrt n.toNat + 1 : Nat) : Int) := by omega
    rw [e2, ← Int.natCast_mul]
    exact this
theorem sq_lt {a b : Int} (ha : 0 ≤ a) (hb : 0 ≤ b) (h : a * a < b * b) : a < b := by
  rcases Int.lt_or_le a b with z | z
  · exact z
  · have := Int.mul_le_mul z z hb ha
    omega
theorem rt_uniq {n r : Int} (hr : 0 ≤ r) (h1 : r * r ≤ n) (h2 : n < (r + 1) * (r + 1)) : rt n = r := by
  have hn : 0 ≤ n := Int.le_trans (Int.mul_nonneg hr hr) h1
  have q := rt_spec hn
  have p := rt_nonneg n
  have a : r < rt n + 1 := sq_lt hr (by omega) (by omega)
  have b : rt n < r + 1 := sq_lt p (by omega) (by omega)
  omega
theorem rt0 : rt 0 = 0 := rt_uniq (by decide) (by decide) (by decide)
theorem rt1 : rt 1 = 1 := rt_uniq (by decide) (by decide) (by decide)
theorem isq0 : isq 0 = true := by unfold isq; rw [rt0]; decide
theorem isq1 : isq 1 = true := by unfold isq; rw [rt1]; decide
theorem isq_eq {n : Int} (h : isq n = true) : rt n * rt n = n := of_decide_eq_true h
theorem rt_pos {n : Int} (h : 0 < n) (hs : isq n = true) : 0 < rt n := by
  have e := isq_eq hs
  rcases Int.lt_or_le 0 (rt n) with z | z
  · exact z
  · have : rt n = 0 := by have := rt_nonneg n; omega
    rw [this] at e
    omega
theorem rt_le {n b : Int} (h : 0 ≤ n) (hb : 0 ≤ b) (h2 : n < (b + 1) * (b + 1)) : rt n ≤ b := by
  have q := (rt_spec h).1
  have : rt n < b + 1 := sq_lt (rt_nonneg n) (by omega) (by omega)
  omega
theorem low01 : low 0 1 = (0, 1) := by decide
/-! ### the five numbers -/
abbrev Five := Int × Int × Int × Int × Int
/-- the root's quotient is a quotient's square -/
def both (p : Int × Int) : Bool := isq p.1 && isq p.2
def form (f : Five) : Five :=
  let u := f.1; let l := f.2.1; let m := f.2.2.1; let r := low f.2.2.2.1 f.2.2.2.2
  if both r = true then
    let q := low (u * rt r.2 + m * rt r.1 * l) (l * rt r.2)
    (q.1, q.2, 0, 0, 1)
  else
    let q := low u l
    if m = 0 then (q.1, q.2, 0, 0, 1) else (q.1, q.2, m, r.1, r.2)
structure Right (f : Five) : Prop where
  l : 0 < f.2.1
  m : f.2.2.1 = -1 ∨ f.2.2.1 = 0 ∨ f.2.2.1 = 1
  a : 0 ≤ f.2.2.2.1
  b : 0 < f.2.2.2.2
/-- the one form -/
structure Canon (f : Five) : Prop where
  l : 0 < f.2.1
  g : g f.1 f.2.1 = 1
  m : (f.2.2.1 = 0 ∧ f.2.2.2.1 = 0 ∧ f.2.2.2.2 = 1) ∨
    ((f.2.2.1 = -1 ∨ f.2.2.1 = 1) ∧ 0 ≤ f.2.2.2.1 ∧ 0 < f.2.2.2.2 ∧ PH.g f.2.2.2.1 f.2.2.2.2 = 1 ∧ both (f.2.2.2.1, f.2.2.2.2) = false)
theorem canon_form {f : Five} (h : Right f) : Canon (form f) := by
  obtain ⟨u, l, m, a, b⟩ := f
  obtain ⟨hl, hm, ha, hb⟩ := h
  dsimp only at hl hm ha hb
  unfold form
  dsimp only
  by_cases c : both (low a b) = true
  · rw [if_pos c]
    have hs : isq (low a b).2 = true := by unfold both at c; rw [Bool.and_eq_true] at c; exact c.2
    have hp : 0 < l * rt (low a b).2 := Int.mul_pos hl (rt_pos (low2_pos hb) hs)
    exact ⟨low2_pos hp, g_low hp, .inl ⟨rfl, rfl, rfl⟩⟩
  · rw [if_neg c]
    by_cases z : m = 0
    · rw [if_pos z]
      exact ⟨low2_pos hl, g_low hl, .inl ⟨rfl, rfl, rfl⟩⟩
    · rw [if_neg z]
      refine ⟨low2_pos hl, g_low hl, .inr ⟨?_, low1_nonneg ha hb, low2_pos hb, g_low hb, ?_⟩⟩
      · dsimp only; omega
      · dsimp only
        cases e : both ((low a b).1, (low a b).2) with
        | false => rfl
        | true => exact absurd e c
theorem form_canon {f : Five} (h : Canon f) : form f = f := by
  obtain ⟨u, l, m, a, b⟩ := f
  obtain ⟨hl, hg, hm⟩ := h
  dsimp only at hl hg hm
  unfold form
  dsimp only
  rcases hm with ⟨rfl, rfl, rfl⟩ | ⟨hm, ha, hb, hgr, hn⟩
  · rw [low01]
    rw [if_pos (show both (0, 1) = true by unfold both; rw [isq0, isq1]; rfl)]
    dsimp only
    rw [rt1, rt0, Int.mul_one, Int.mul_one, Int.zero_mul, Int.zero_mul, Int.add_zero, low_id hg]
  · rw [low_id hgr, if_neg (by rw [hn]; exact Bool.false_ne_true), if_neg (by omega), low_id hg]
theorem form_form {f : Five} (h : Right f) : form (form f) = form f := form_canon (canon_form h)
theorem canon_right {f : Five} (h : Canon f) : Right f := by
  obtain ⟨hl, _, hm⟩ := h
  rcases hm with ⟨h1, h2, h3⟩ | ⟨h1, h2, h3, _⟩
  · exact ⟨hl, by omega, by omega, by omega⟩
  · exact ⟨hl, by omega, h2, h3⟩
/-- as the program goes about it: the root is dropped first where its sign is 0 -/
theorem form_zero {u l a b : Int} (hl : 0 < l) (hb : 0 < b) : form (u, l, 0, a, b) = ((low u l).1, (low u l).2, 0, 0, 1) := by
  unfold form
  dsimp only
  by_cases c : both (low a b) = true
  · rw [if_pos c]
    have hs : isq (low a b).2 = true := by unfold both at c; rw [Bool.and_eq_true] at c; exact c.2
    rw [Int.zero_mul, Int.zero_mul, Int.add_zero, low_mul _ _ _ (rt_pos (low2_pos hb) hs)]
  · rw [if_neg c, if_pos rfl]
/-! ### how great they are -/
structure Small (f : Five) : Prop where
  u : f.1.natAbs ≤ 999999
  l : f.2.1 ≤ 999999
  a : f.2.2.2.1 ≤ 999999
  b : f.2.2.2.2 ≤ 999999
structure Fits (f : Five) : Prop where
  u : f.1.natAbs ≤ 2000000000
  l : f.2.1 ≤ 1000000000
  a : f.2.2.2.1 ≤ 999999
  b : f.2.2.2.2 ≤ 999999
theorem rt_small {n : Int} (h : 0 ≤ n) (h2 : n ≤ 999999) : rt n ≤ 999 := rt_le h (by decide) (by omega)
theorem mul_abs_le {x y : Int} {a b : Nat} (hx : x.natAbs ≤ a) (hy : y.natAbs ≤ b) : (x * y).natAbs ≤ a * b := by
  rw [Int.natAbs_mul]
  exact Nat.mul_le_mul hx hy
theorem upper_fits {u l m x y : Int} (hu : u.natAbs ≤ 999999) (hl : 0 < l) (hl2 : l ≤ 999999) (hm : m = -1 ∨ m = 0 ∨ m = 1) (hx : 0 ≤ x) (hx2 : x ≤ 999) (hy : 0 ≤ y) (hy2 : y ≤ 999) :
    (u * y + m * x * l).natAbs ≤ 2000000000 ∧ l * y ≤ 1000000000 ∧ 0 ≤ l * y := by
  have h1 : (u * y).natAbs ≤ 999999 * 999 := mul_abs_le hu (by omega)
  have h2 : (m * x).natAbs ≤ 1 * 999 := mul_abs_le (by omega) (by omega)
  have h3 : (m * x * l).natAbs ≤ (1 * 999) * 999999 := mul_abs_le h2 (by omega)
  have h4 : (l * y).natAbs ≤ 999999 * 999 := mul_abs_le (by omega) (by omega)
  have h5 := Int.mul_nonneg (Int.le_of_lt hl) hy
  omega
theorem form_fits {f : Five} (h : Right f) (s : Small f) : Fits (form f) := by
  obtain ⟨u, l, m, a, b⟩ := f
  obtain ⟨hl, hm, ha, hb⟩ := h
  obtain ⟨su, sl, sa, sb⟩ := s
  dsimp only at hl hm ha hb su sl sa sb
  have r1 := low1_le (b := b) ha hb
  have r2 := low2_le (a := a) hb
  have n1 := low1_nonneg ha hb
  have n2 := low2_pos (a := a) hb
  unfold form
  dsimp only
  by_cases c : both (low a b) = true
  · rw [if_pos c]
    have hs : isq (low a b).2 = true := by unfold both at c; rw [Bool.and_eq_true] at c; exact c.2
    have hp : 0 < l * rt (low a b).2 := Int.mul_pos hl (rt_pos n2 hs)
    obtain ⟨k1, k2, _⟩ := upper_fits (u := u) (l := l) (m := m) (x := rt (low a b).1) (y := rt (low a b).2) su hl sl hm (rt_nonneg _) (rt_small n1 (by omega)) (rt_nonneg _) (rt_small (by omega) (by omega))
    exact ⟨Nat.le_trans (low1_abs hp) k1, Int.le_trans (low2_le hp) k2, (by decide : (0:Int) ≤ 999999), (by decide : (1:Int) ≤ 999999)⟩
  · rw [if_neg c]
    have q1 := low1_abs (a := u) hl
    have q2 := low2_le (a := u) hl
    by_cases z : m = 0
    · rw [if_pos z]
      exact ⟨by dsimp only; omega, by dsimp only; omega, (by decide : (0:Int) ≤ 999999), (by decide : (1:Int) ≤ 999999)⟩
    · rw [if_neg z]
      exact ⟨by dsimp only; omega, by dsimp only; omega, by dsimp only; omega, by dsimp only; omega⟩
end PH
namespace PH
open PySem PySem.Spec PyProof.Rows L2
/-! ### whole numbers of so many bits -/
def Wd (k : Nat) (x : Int) : Prop := x.natAbs < 2 ^ k
theorem Wd.mono {a b : Nat} {x : Int} (h : Wd a x) (hab : a ≤ b) : Wd b x := Nat.lt_of_lt_of_le h (Nat.pow_le_pow_right (by decide) hab)
theorem Wd.mul {a b : Nat} {x y : Int} (h : Wd a x) (k : Wd b y) : Wd (a + b) (x * y) := wide_lt h k
theorem Wd.add {a : Nat} {x y : Int} (h : Wd a x) (k : Wd a y) : Wd (a + 1) (x + y) := by
  unfold Wd at *
  have := Int.natAbs_add_le x y
  rw [Nat.pow_succ]
  omega
theorem Wd.neg {a : Nat} {x : Int} (h : Wd a x) : Wd a (-x) := by unfold Wd at *; rw [Int.natAbs_neg]; exact h
theorem Wd.neg0 {a : Nat} {x : Int} (h : Wd a x) : Wd a (0 - x) := by rw [Int.zero_sub]; exact h.neg
theorem Wd.sub {a : Nat} {x y : Int} (h : Wd a x) (k : Wd a y) : Wd (a + 1) (x - y) := by rw [Int.sub_eq_add_neg]; exact h.add k.neg
theorem Wd.abs_le {a : Nat} {x y : Int} (h : Wd a x) (k : y.natAbs ≤ x.natAbs) : Wd a y := Nat.lt_of_le_of_lt k h
theorem Wd.le {a : Nat} {x y : Int} (h : Wd a x) (k0 : 0 ≤ y) (k : y ≤ x) : Wd a y := h.abs_le (by omega)
theorem Wd.one {x : Int} (h : x = -1 ∨ x = 0 ∨ x = 1) : Wd 1 x := by rcases h with rfl | rfl | rfl <;> (unfold Wd; decide)
theorem Wd.low1 {k : Nat} {a b : Int} (h : 0 < b) (w : Wd k a) : Wd k (low a b).1 := w.abs_le (low1_abs h)
theorem Wd.low2 {k : Nat} {a b : Int} (h : 0 < b) (w : Wd k b) : Wd k (low a b).2 := w.le (Int.le_of_lt (low2_pos h)) (low2_le h)
theorem rt_le_self {n : Int} (h : 0 ≤ n) : rt n ≤ n := by
  have h1 := (rt_spec h).1
  have h2 := rt_nonneg n
  rcases Int.lt_or_eq_of_le h2 with h3 | h3
  · have : rt n * 1 ≤ rt n * rt n := Int.mul_le_mul_of_nonneg_left (by omega) h2
    omega
  · omega
theorem Wd.rt {k : Nat} {n : Int} (h : 0 ≤ n) (w : Wd k n) : Wd k (rt n) := w.le (rt_nonneg n) (rt_le_self h)
theorem Wd.rt2 {k : Nat} {n : Int} (h : 0 ≤ n) (w : Wd (k + k) n) : Wd k (PH.rt n) := by
  have h1 := (rt_spec h).1
  have h2 := rt_nonneg n
  unfold Wd at *
  rw [Nat.pow_add] at w
  have h3 : (PH.rt n).natAbs * (PH.rt n).natAbs ≤ n.natAbs := by
    rw [← Int.natAbs_mul]
    have := Int.mul_nonneg h2 h2
    omega
  rcases Nat.lt_or_ge (PH.rt n).natAbs (2 ^ k) with c | c
  · exact c
  · have := Nat.mul_le_mul c c
    omega
theorem Wd.toMul {a b : Nat} {x y : Int} (h : Wd a x) (k : Wd b y) (l : a + b ≤ 134217728) : CMulX x y := mulx_ok h k l
theorem Wd.toDiv {k : Nat} {x y : Int} (h : 0 < y) (w : Wd k y) (l : k ≤ 8999) : CDivW x y := wide_div (i := x) (b := k + 1) h (w.mono (Nat.le_succ k)) (Nat.succ_pos k) (by omega)
section
variable {X : Cx}
/-! ### isqrt, ** of great ones -/
def rSqrtW : List V → Hp → VK → Prop := fun vs H Q => ∃ a : Int, vs = [.int a] ∧ 0 ≤ a ∧ Wd 9000 a ∧ Q (.int (rt a)) H
theorem cr_isqrtW : CallR X (.builtin "math.isqrt") rSqrtW := by
  intro pins s σ H vs us Q I r h
  obtain ⟨a, rfl, h0, h1, q⟩ := h
  obtain ⟨u, rfl, t, rfl⟩ := vals1 r
  have e : a.toNat = a.natAbs := by omega
  have hl : a.toNat.log2 ≤ 9000 := log_le (k := 9000) (by rw [e]; exact Nat.lt_of_lt_of_le h1 (Nat.pow_le_pow_right (by decide) (Nat.le_succ 9000)))
  exact call_function_meets PySem.W.MGF.kind_isqrt PySem.W.MGF.plain_isqrt PySem.W.MGF.entry_isqrt (PySem.W.MGF.args_isqrt _)
    (PySem.W.mg_run_isqrt a t (by omega) (by omega) (by omega)).meets ⟨.int _, H, I.tok _, ⟨_, rfl⟩, q⟩
def CSq (i j : Int) : Prop := j = 2 ∧ Wd 100000 i
theorem op_sqW : OpR X (binaryOp .Pow) (rI CSq fun i _ => .int (i * i)) := opI fun i j _ _ _ _ _ hc q => by
  obtain ⟨rfl, hw⟩ := hc
  have hb := PyProof.Rows.intBits_le hw
  refine pow_int (by decide) (by omega) ?_
  have e : i ^ (Int.toNat 2) = i * i := by show i ^ 2 = _; rw [Int.pow_succ, Int.pow_succ, Int.pow_zero, Int.one_mul]
  rw [e]
  exact q
end
end PH
namespace EL
open PySem PySem.Spec PyProof.Rows L2
/-! ### data without a heap -/
inductive D where
  | non | bl (b : Bool) | int (i : Int) | str (z : Str)
  | tup (xs : List D) | lst (xs : List D)
  | dct (kvs : List (Key × D))
  | dcT (kvs : List (List Nat × Int))
  | obj (n : Nat) (fs : List D)
  | dk
  | opq (v : V)
/-- the deck's two objects; the classes by number: their addresses, their fields' names -/
structure Cw where
  dk : Option (Addr × Addr)
  cl : Nat → Option (Addr × List Str)
  K : PySem.W.Frag
structure Bs where
  W : Cw
  DkAt : Nat → Hp → Addr → Addr → Prop
  H0 : Hp
  G0 : Hp
  xc : Nat → List D → Prop
  E : XK
  cost : Nat
abbrev Bs.K (B : Bs) : PySem.W.Frag := B.W.K
/-- a tuple of the module's own, made ahead -/
def KTup (K : PySem.W.Frag) (a : Addr) (vs : List V) : Prop := ∃ (o : Obj) (its : Array Value) (n : Nat), K.lookup a = some o ∧ o.cls = .type "tuple" ∧ o.data = .seq its n ∧ its.size ≤ sizeLine ∧ Vals vs its.toList
/-- no constant tuples are reckoned with where the 999th class is told -/
def TupAt (W : Cw) (G : Hp) (a : Addr) (vs : List V) : Prop := G a = some (.tup vs) ∨ (W.cl 999 = none ∧ KTup W.K a vs)
theorem TupAt.mono {W : Cw} {G G' : Hp} {a : Addr} {vs : List V} (e : Same G G') (h : TupAt W G a vs) : TupAt W G' a vs := h.elim (fun h => .inl (e _ _ h)) .inr
theorem TupAt.sq {W : Cw} {G H : Hp} {a : Addr} {vs : List V} (h : TupAt W G a vs) (e : Same G H) : SqT W.K H a vs := h.elim (fun h => SqT.of (e _ _ h)) (fun h => .inr h.2)
theorem TupAt.sq0 {W : Cw} {G : Hp} {a : Addr} {vs : List V} (h : TupAt W G a vs) : SqT W.K G a vs := h.elim (fun h => SqT.of h) (fun h => .inr h.2)
/-- a dict keyed by tuples of numbers, as it lies -/
def dtV (kvs : List (List Nat × Int)) : HO := .dT (kvs.map fun k => (k.1.map (fun n : Nat => Sum.inl (n : Int)), V.int k.2))
mutual
inductive Rp (W : Cw) (G : Hp) : V → D → Prop
  | non : Rp W G .non .non
  | bl (b : Bool) : Rp W G (.bl b) (.bl b)
  | int (i : Int) : Rp W G (.int i) (.int i)
  | str (z : Str) : Rp W G (.str z) (.str z)
  | tup {a : Addr} {vs : List V} {ds : List D} : TupAt W G a vs → RpAll W G vs ds → Rp W G (.ref a) (.tup ds)
  | lst {a : Addr} {vs : List V} {ds : List D} : G a = some (.lst vs) → RpAll W G vs ds → Rp W G (.ref a) (.lst ds)
  | dct {a : Addr} {vs : List (Key × V)} {ds : List (Key × D)} : G a = some (.dK vs) → RpKv W G vs ds → Rp W G (.ref a) (.dct ds)
  | dcT {a : Addr} {kvs : List (List Nat × Int)} : G a = some (dtV kvs) → Rp W G (.ref a) (.dcT kvs)
  | obj {a dx C : Addr} {n : Nat} {ns : List Str} {vs : List V} {ds : List D} : W.cl n = some (C, ns) → vs.length = ns.length → G a = some (.ins C dx (ns.zip vs)) → RpAll W G vs ds → Rp W G (.ref a) (.obj n ds)
  | dk {d c : Addr} : W.dk = some (d, c) → Rp W G (.ref d) .dk
  | opq (v : V) : Rp W G v (.opq v)
inductive RpAll (W : Cw) (G : Hp) : List V → List D → Prop
  | nil : RpAll W G [] []
  | cons {v : V} {vs : List V} {d : D} {ds : List D} : Rp W G v d → RpAll W G vs ds → RpAll W G (v :: vs) (d :: ds)
inductive RpKv (W : Cw) (G : Hp) : List (Key × V) → List (Key × D) → Prop
  | nil : RpKv W G [] []
  | cons {k : Key} {v : V} {vs : List (Key × V)} {d : D} {ds : List (Key × D)} : Rp W G v d → RpKv W G vs ds → RpKv W G ((k, v) :: vs) ((k, d) :: ds)
end
section
variable {W : Cw} {G G' : Hp}
mutual
theorem Rp.mono (e : Same G G') : ∀ {v : V} {d : D}, Rp W G v d → Rp W G' v d
  | _, _, .non => .non
  | _, _, .bl b => .bl b
  | _, _, .int i => .int i
  | _, _, .str z => .str z
  | _, _, .tup h r => .tup (h.mono e) (RpAll.mono e r)
  | _, _, .lst h r => .lst (e _ _ h) (RpAll.mono e r)
  | _, _, .dct h r => .dct (e _ _ h) (RpKv.mono e r)
  | _, _, .dcT h => .dcT (e _ _ h)
  | _, _, .obj c l h r => .obj c l (e _ _ h) (RpAll.mono e r)
  | _, _, .dk h => .dk h
  | _, _, .opq v => .opq v
theorem RpAll.mono (e : Same G G') : ∀ {vs : List V} {ds : List D}, RpAll W G vs ds → RpAll W G' vs ds
  | _, _, .nil => .nil
  | _, _, .cons h r => .cons (Rp.mono e h) (RpAll.mono e r)
theorem RpKv.mono (e : Same G G') : ∀ {vs : List (Key × V)} {ds : List (Key × D)}, RpKv W G vs ds → RpKv W G' vs ds
  | _, _, .nil => .nil
  | _, _, .cons h r => .cons (Rp.mono e h) (RpKv.mono e r)
end
mutual
/-- no list, no dict within -/
def solid : D → Bool
  | .tup ds => solids ds
  | .obj _ ds => solids ds
  | .lst _ => false
  | .dct _ => false
  | .dcT _ => false
  | _ => true
def solids : List D → Bool
  | [] => true
  | d :: ds => solid d && solids ds
end
def solidK : List (Key × D) → Bool
  | [] => true
  | d :: ds => solid d.2 && solidK ds
/-- what is solid does not hang on lists, dicts -/
def SameT (G G' : Hp) : Prop := ∀ a o, G a = some o → (∀ xs, o ≠ .lst xs) → (∀ xs, o ≠ .dK xs) → (∀ xs, o ≠ .dT xs) → G' a = some o
mutual
theorem Rp.solid (e : SameT G G') : ∀ {v : V} {d : D}, Rp W G v d → solid d = true → Rp W G' v d
  | _, _, .non, _ => .non
  | _, _, .bl b, _ => .bl b
  | _, _, .int i, _ => .int i
  | _, _, .str z, _ => .str z
  | _, _, .tup h r, s => .tup (h.elim (fun h => .inl (e _ _ h (fun _ z => nomatch z) (fun _ z => nomatch z) (fun _ z => nomatch z))) .inr) (RpAll.solid e r s)
  | _, _, .lst h r, s => by cases s
  | _, _, .dct h r, s => by cases s
  | _, _, .dcT h, s => by cases s
  | _, _, .obj c l h r, s => .obj c l (e _ _ h (fun _ z => nomatch z) (fun _ z => nomatch z) (fun _ z => nomatch z)) (RpAll.solid e r s)
  | _, _, .dk h, _ => .dk h
  | _, _, .opq v, _ => .opq v
theorem RpAll.solid (e : SameT G G') : ∀ {vs : List V} {ds : List D}, RpAll W G vs ds → solids ds = true → RpAll W G' vs ds
  | _, _, .nil, _ => .nil
  | _, _, .cons h r, s => .cons (Rp.solid e h (Bool.and_eq_true_iff.mp s).1) (RpAll.solid e r (Bool.and_eq_true_iff.mp s).2)
end
theorem RpKv.solid (e : SameT G G') : ∀ {vs : List (Key × V)} {ds : List (Key × D)}, RpKv W G vs ds → solidK ds = true → RpKv W G' vs ds
  | _, _, .nil, _ => .nil
  | _, _, .cons h r, s => .cons (Rp.solid e h (Bool.and_eq_true_iff.mp s).1) (RpKv.solid e r (Bool.and_eq_true_iff.mp s).2)
theorem RpAll.len : ∀ {vs : List V} {ds : List D}, RpAll W G vs ds → vs.length = ds.length
  | _, _, .nil => rfl
  | _, _, .cons _ r => by rw [List.length_cons, List.length_cons, RpAll.len r]
theorem RpKv.len : ∀ {vs : List (Key × V)} {ds : List (Key × D)}, RpKv W G vs ds → vs.length = ds.length
  | _, _, .nil => rfl
  | _, _, .cons _ r => by rw [List.length_cons, List.length_cons, RpKv.len r]
theorem RpKv.keys : ∀ {vs : List (Key × V)} {ds : List (Key × D)}, RpKv W G vs ds → vs.map (·.1) = ds.map (·.1)
  | _, _, .nil => rfl
  | _, _, .cons _ r => by rw [List.map_cons, List.map_cons, RpKv.keys r]
theorem RpAll.get : ∀ {vs : List V} {ds : List D} {i : Nat} {d : D}, RpAll W G vs ds → ds[i]? = some d → ∃ v, vs[i]? = some v ∧ Rp W G v d
  | _, _, _, _, .nil, h => by simp at h
  | _, _, 0, _, .cons r _, h => by
    simp at h
    subst h
    exact ⟨_, rfl, r⟩
  | _, _, i + 1, _, .cons _ t, h => by
    obtain ⟨v, h1, h2⟩ := RpAll.get (i := i) t (by simpa using h)
    exact ⟨v, by simpa using h1, h2⟩
theorem RpAll.getV : ∀ {vs : List V} {ds : List D} {i : Nat} {v : V}, RpAll W G vs ds → vs[i]? = some v → ∃ d, ds[i]? = some d ∧ Rp W G v d
  | _, _, _, _, .nil, h => by simp at h
  | _, _, 0, _, .cons r _, h => by
    simp at h
    subst h
    exact ⟨_, rfl, r⟩
  | _, _, i + 1, _, .cons _ t, h => by
    obtain ⟨v, h1, h2⟩ := RpAll.getV (i := i) t (by simpa using h)
    exact ⟨v, by simpa using h1, h2⟩
theorem RpAll.app : ∀ {vs ws : List V} {ds es : List D}, RpAll W G vs ds → RpAll W G ws es → RpAll W G (vs ++ ws) (ds ++ es)
  | _, _, _, _, .nil, s => s
  | _, _, _, _, .cons r t, s => .cons r (RpAll.app t s)
theorem RpAll.take : ∀ {vs : List V} {ds : List D} (n : Nat), RpAll W G vs ds → RpAll W G (vs.take n) (ds.take n)
  | _, _, 0, _ => .nil
  | _, _, _ + 1, .nil => .nil
  | _, _, n + 1, .cons r t => .cons r (RpAll.take n t)
theorem RpAll.drop : ∀ {vs : List V} {ds : List D} (n : Nat), RpAll W G vs ds → RpAll W G (vs.drop n) (ds.drop n)
  | _, _, 0, r => r
  | _, _, _ + 1, .nil => .nil
  | _, _, n + 1, .cons _ t => RpAll.drop n t
theorem RpAll.rev : ∀ {vs : List V} {ds : List D}, RpAll W G vs ds → RpAll W G vs.reverse ds.reverse
  | _, _, .nil => .nil
  | _, _, .cons r t => by
    rw [List.reverse_cons, List.reverse_cons]
    exact (RpAll.rev t).app (.cons r .nil)
theorem RpAll.set {v : V} {d : D} (r : Rp W G v d) : ∀ {vs : List V} {ds : List D} (i : Nat), RpAll W G vs ds → RpAll W G (vs.set i v) (ds.set i d)
  | _, _, _, .nil => .nil
  | _, _, 0, .cons _ t => .cons r t
  | _, _, i + 1, .cons q t => .cons q (RpAll.set r i t)
theorem RpAll.erase : ∀ {vs : List V} {ds : List D} (i : Nat), RpAll W G vs ds → RpAll W G (vs.eraseIdx i) (ds.eraseIdx i)
  | _, _, _, .nil => .nil
  | _, _, 0, .cons _ t => t
  | _, _, i + 1, .cons q t => .cons q (RpAll.erase i t)
end
/-! ### what a name holds -/
inductive Sl where
  | un
  | fz (d : D)
  | own (p : Addr) (ds : List D)
  | ownD (p : Addr) (kvs : List (Key × D))
  | ownL (p : Addr) (kvs : List (Key × (Addr × List D)))
  | ownT (p : Addr) (kvs : List (List Nat × Int))
abbrev GL := List Sl
def Sl.as : Sl → List Addr
  | .own p _ => [p]
  | .ownD p _ => [p]
  | .ownL p kvs => p :: kvs.map fun k => k.2.1
  | .ownT p _ => [p]
  | _ => []
def LsAt (W : Cw) (G H : Hp) (p : Addr) (ds : List D) : Prop := ∃ vs, H p = some (.lst vs) ∧ RpAll W G vs ds
def SlOk (W : Cw) (G H : Hp) (o : Option V) : Sl → Prop
  | .un => True
  | .fz d => ∃ v, o = some v ∧ Rp W G v d
  | .own p ds => o = some (.ref p) ∧ LsAt W G H p ds
  | .ownD p kvs => o = some (.ref p) ∧ ∃ vs, H p = some (.dK vs) ∧ RpKv W G vs kvs
  | .ownL p kvs => o = some (.ref p) ∧ H p = some (.dK (kvs.map fun k => (k.1, V.ref k.2.1))) ∧ (∀ k ∈ kvs, LsAt W G H k.2.1 k.2.2) ∧ (p :: kvs.map fun k => k.2.1).Nodup
  | .ownT p kvs => o = some (.ref p) ∧ H p = some (dtV kvs)
theorem SlOk.mono {W : Cw} {G G' H H' : Hp} {o : Option V} {s : Sl} (h : SlOk W G H o s) (e : Same G G') (k : ∀ p ∈ s.as, H' p = H p) : SlOk W G' H' o s := by
  cases s with
  | un => trivial
  | fz d => obtain ⟨v, a, b⟩ := h; exact ⟨v, a, b.mono e⟩
  | own p ds =>
    obtain ⟨a, vs, b, c⟩ := h
    exact ⟨a, vs, by rw [k p (List.mem_singleton.mpr rfl)]; exact b, c.mono e⟩
  | ownD p kvs =>
    obtain ⟨a, vs, b, c⟩ := h
    exact ⟨a, vs, by rw [k p (List.mem_singleton.mpr rfl)]; exact b, c.mono e⟩
  | ownT p kvs =>
    obtain ⟨a, b⟩ := h
    exact ⟨a, by rw [k p (List.mem_singleton.mpr rfl)]; exact b⟩
  | ownL p kvs =>
    obtain ⟨a, b, c, d⟩ := h
    refine ⟨a, by rw [k p List.mem_cons_self]; exact b, fun q hq => ?_, d⟩
    obtain ⟨vs, x, y⟩ := c q hq
    exact ⟨vs, by rw [k _ (List.mem_cons_of_mem _ (List.mem_map.mpr ⟨q, hq, rfl⟩))]; exact x, y.mono e⟩
theorem SlOk.there {W : Cw} {G H : Hp} {o : Option V} {s : Sl} (h : SlOk W G H o s) : ∀ p ∈ s.as, (∃ xs, H p = some (.lst xs)) ∨ (∃ xs, H p = some (.dK xs)) ∨ ∃ xs, H p = some (.dT xs) := by
  intro p hp
  cases s with
  | un => cases hp
  | fz d => cases hp
  | own q ds =>
    obtain ⟨a, vs, b, c⟩ := h
    cases List.mem_singleton.mp hp
    exact .inl ⟨_, b⟩
  | ownD q kvs =>
    obtain ⟨a, vs, b, c⟩ := h
    cases List.mem_singleton.mp hp
    exact .inr (.inl ⟨_, b⟩)
  | ownT q kvs =>
    obtain ⟨a, b⟩ := h
    cases List.mem_singleton.mp hp
    exact .inr (.inr ⟨_, b⟩)
  | ownL q kvs =>
    obtain ⟨a, b, c, d⟩ := h
    rcases List.mem_cons.mp hp with e | e
    · subst e; exact .inr (.inl ⟨_, b⟩)
    · obtain ⟨k, hk, e⟩ := List.mem_map.mp e
      obtain ⟨vs, x, y⟩ := c k hk
      subst e
      exact .inl ⟨_, x⟩
/-- all is kept but the deck's two objects -/
def Kp (W : Cw) (H H' : Hp) : Prop := ∀ b o, H b = some o → (∀ d c, W.dk = some (d, c) → b ≠ d ∧ b ≠ c) → H' b = some o
theorem Kp.refl {W : Cw} {H : Hp} : Kp W H H := fun _ _ h _ => h
theorem Kp.trans {W : Cw} {H H1 H2 : Hp} (a : Kp W H H1) (b : Kp W H1 H2) : Kp W H H2 := fun c o h z => b c o (a c o h z) z
theorem Kp.of {W : Cw} {H H' : Hp} (s : Same H H') : Kp W H H' := fun b o h _ => s b o h
/-- what is asked of the deck's word -/
structure DkLaw (DkAt : Hp → Addr → Addr → Prop) : Prop where
  there : ∀ H d c, DkAt H d c → H d ≠ none ∧ H c ≠ none
  tup : ∀ H d c, DkAt H d c → (∀ xs, H d ≠ some (.tup xs)) ∧ ∀ xs, H c ≠ some (.tup xs)
  keep : ∀ H H' d c, DkAt H d c → H' d = H d → H' c = H c → DkAt H' d c
structure Dst (B : Bs) (m : Nat) (G : Hp) (γ : GL) (σ : L2.St) (H : Hp) : Prop where
  law : ∀ m, DkLaw (B.DkAt m)
  le : m ≤ B.cost
  up : ∀ m m' H d c, m ≤ m' → B.DkAt m H d c → B.DkAt m' H d c
  sub : Same G H
  sub0 : Same B.G0 G
  kept : Kp B.W B.H0 H
  fresh : ∀ p, B.H0 p ≠ none → B.G0 p = none → G p = none
  tups : ∀ p xs, H p = some (.tup xs) → G p = some (.tup xs)
  dkok : ∀ d c, B.W.dk = some (d, c) → B.DkAt m H d c ∧ B.H0 d ≠ none ∧ B.H0 c ≠ none ∧ B.G0 d = none ∧ B.G0 c = none
  len : σ.length = γ.length
  slot : ∀ (i : Nat) (s : Sl), γ[i]? = some s → ∃ o, σ[i]? = some o ∧ SlOk B.W G H o s
  off : ∀ (i : Nat) (s : Sl) (p : Addr), γ[i]? = some s → p ∈ s.as → B.H0 p = none ∧ G p = none
  nd : ∀ (i j : Nat) (p : Addr) (s t : Sl), γ[i]? = some s → γ[j]? = some t → p ∈ s.as → p ∈ t.as → i = j
section
variable {B : Bs} {m m' : Nat} {G G' : Hp} {γ γ' : GL} {σ σ' : L2.St} {H H' : Hp} {p : Addr}
theorem Dst.free0 (S : Dst B m G γ σ H) (hp : H p = none) : B.H0 p = none := by
  cases q : B.H0 p with
  | none => rfl
  | some o =>
    by_cases z : ∀ d c, B.W.dk = some (d, c) → p ≠ d ∧ p ≠ c
    · rw [S.kept p o q z] at hp
      cases hp
    · exfalso
      apply z
      intro d c e
      obtain ⟨h1, _⟩ := S.dkok d c e
      obtain ⟨t1, t2⟩ := (S.law _).there _ _ _ h1
      exact ⟨fun e => t1 (e ▸ hp), fun e => t2 (e ▸ hp)⟩
theorem Dst.offdk (S : Dst B m G γ σ H) (h0 : B.H0 p = none) : ∀ d c, B.W.dk = some (d, c) → p ≠ d ∧ p ≠ c := fun d c e => by
  obtain ⟨_, t1, t2, _⟩ := S.dkok d c e
  exact ⟨fun z => t1 (z ▸ h0), fun z => t2 (z ▸ h0)⟩
theorem Dst.gdk (S : Dst B m G γ σ H) : ∀ d c, B.W.dk = some (d, c) → G d = none ∧ G c = none := fun d c e => by
  obtain ⟨_, t1, t2, t3, t4⟩ := S.dkok d c e
  exact ⟨S.fresh _ t1 t3, S.fresh _ t2 t4⟩
/-- an address that no slot has -/
def NoSlot (γ : GL) (p : Addr) : Prop := ∀ (i : Nat) (s : Sl), γ[i]? = some s → p ∉ s.as
theorem Dst.noslot (S : Dst B m G γ σ H) (hp : H p = none) : NoSlot γ p := fun i s e z => by
  obtain ⟨o, _, h⟩ := S.slot i s e
  rcases h.there p z with ⟨xs, h⟩ | ⟨xs, h⟩ | ⟨xs, h⟩ <;> (rw [h] at hp; cases hp)
/-- the heaps change, not the slots -/
theorem Dst.heapsC (S : Dst B m G γ σ H) (hm : m' ≤ B.cost) (s1 : Same G G') (s2 : Same G' H') (kp : ∀ b o, B.H0 b ≠ none → H b = some o → (∀ d c, B.W.dk = some (d, c) → b ≠ d ∧ b ≠ c) → H' b = some o)
    (fr : ∀ p, B.H0 p ≠ none → B.G0 p = none → G' p = none) (tu : ∀ p xs, H' p = some (.tup xs) → G' p = some (.tup xs)) (hd : ∀ d c, B.W.dk = some (d, c) → B.DkAt m' H' d c)
    (sl : ∀ (i : Nat) (s : Sl) (p : Addr), γ[i]? = some s → p ∈ s.as → H' p = H p ∧ G' p = none) : Dst B m' G' γ σ H' where
  law := S.law
  le := hm
  up := S.up
  sub := s2
  sub0 := S.sub0.trans s1
  kept := fun b o e z => kp b o (by rw [e]; exact fun z => nomatch z) (S.kept b o e z) z
  fresh := fr
  tups := tu
  dkok := fun d c e => ⟨hd d c e, (S.dkok d c e).2⟩
  len := S.len
  slot := fun i s e => by
    obtain ⟨o, h1, h2⟩ := S.slot i s e
    exact ⟨o, h1, h2.mono s1 fun p hp => (sl i s p e hp).1⟩
  off := fun i s p e hp => ⟨(S.off i s p e hp).1, (sl i s p e hp).2⟩
  nd := S.nd
theorem Dst.heaps (S : Dst B m G γ σ H) (s1 : Same G G') (s2 : Same G' H') (kp : ∀ b o, B.H0 b ≠ none → H b = some o → (∀ d c, B.W.dk = some (d, c) → b ≠ d ∧ b ≠ c) → H' b = some o)
    (fr : ∀ p, B.H0 p ≠ none → B.G0 p = none → G' p = none) (tu : ∀ p xs, H' p = some (.tup xs) → G' p = some (.tup xs)) (hd : ∀ d c, B.W.dk = some (d, c) → B.DkAt m H' d c)
    (sl : ∀ (i : Nat) (s : Sl) (p : Addr), γ[i]? = some s → p ∈ s.as → H' p = H p ∧ G' p = none) : Dst B m G' γ σ H' := S.heapsC S.le s1 s2 kp fr tu hd sl
/-- the slots change, not the heaps -/
theorem Dst.slots (S : Dst B m G γ σ H) (hl : σ'.length = γ'.length) (hs : ∀ (i : Nat) (s : Sl), γ'[i]? = some s → (∃ o, σ'[i]? = some o ∧ SlOk B.W G H o s) ∧ ∀ p ∈ s.as, B.H0 p = none ∧ G p = none)
    (nd : ∀ (i j : Nat) (p : Addr) (s t : Sl), γ'[i]? = some s → γ'[j]? = some t → p ∈ s.as → p ∈ t.as → i = j) : Dst B m G γ' σ' H where
  law := S.law
  le := S.le
  up := S.up
  sub := S.sub
  sub0 := S.sub0
  kept := S.kept
  fresh := S.fresh
  tups := S.tups
  dkok := S.dkok
  len := hl
  slot := fun i s e => (hs i s e).1
  off := fun i s p e hp => (hs i s e).2 p hp
  nd := nd
/-- a fresh object, not a tuple, is laid, known to none yet -/
theorem Dst.laid (S : Dst B m G γ σ H) {o : HO} (no : ∀ xs, o ≠ .tup xs) (hp : H p = none) : Dst B m G γ σ (upd H p o) := by
  refine S.heaps (Same.refl _) (fun b u e => by rw [upd_ne (ne_of_none (S.sub b u e) hp)]; exact S.sub b u e) (fun b u _ e _ => by rw [upd_ne (ne_of_none e hp)]; exact e) S.fresh (fun q xs e => ?_) (fun d c e => ?_) fun i s q e hq => ⟨upd_ne (show q ≠ p from fun z => S.noslot hp i s e (by rw [← z]; exact hq)), (S.off i s q e hq).2⟩
  · by_cases z : q = p
    · subst z; rw [upd_same] at e; cases e; exact absurd rfl (no xs)
    · rw [upd_ne z] at e; exact S.tups q xs e
  · obtain ⟨n1, n2⟩ := S.offdk (S.free0 hp) d c e
    exact (S.law _).keep _ _ _ _ (S.dkok d c e).1 (upd_ne n1.symm) (upd_ne n2.symm)
/-- an object that no slot has becomes one that is read alone -/
theorem Dst.frz (S : Dst B m G γ σ H) {o : HO} (hp : H p = some o) (h0 : B.H0 p = none) (hg : G p = none) (hn : NoSlot γ p) : Dst B m (upd G p o) γ σ H ∧ Same G (upd G p o) := by
  have sm : Same G (upd G p o) := fun b u e => by rw [upd_ne (ne_of_none e hg)]; exact e
  refine ⟨S.heaps sm (fun b u e => ?_) (fun b u _ e _ => e) (fun q h1 h2 => ?_) (fun q xs e => ?_) (fun d c e => (S.dkok d c e).1) fun i s q e hq => ⟨rfl, ?_⟩, sm⟩
  · by_cases z : b = p
    · subst z; rw [upd_same] at e; cases e; exact hp
    · rw [upd_ne z] at e; exact S.sub b u e
  · rw [upd_ne (show q ≠ p from fun z => h1 (by rw [z]; exact h0))]; exact S.fresh q h1 h2
  · have h := S.tups q xs e
    rw [upd_ne (ne_of_none h hg)]; exact h
  · rw [upd_ne (show q ≠ p from fun z => hn i s e (by rw [← z]; exact hq))]; exact (S.off i s q e hq).2
/-- both at once -/
theorem Dst.new (S : Dst B m G γ σ H) {o : HO} (hp : H p = none) : Dst B m (upd G p o) γ σ (upd H p o) ∧ Same G (upd G p o) := by
  have hg : G p = none := S.sub.free hp
  have h0 := S.free0 hp
  have sm : Same G (upd G p o) := fun b u e => by rw [upd_ne (ne_of_none e hg)]; exact e
  refine ⟨S.heaps sm (fun b u e => ?_) (fun b u _ e _ => by rw [upd_ne (ne_of_none e hp)]; exact e) (fun q h1 h2 => ?_) (fun q xs e => ?_) (fun d c e => ?_) fun i s q e hq => ?_, sm⟩
  · by_cases z : b = p
    · subst z; rw [upd_same] at e ⊢; exact e
    · rw [upd_ne z] at e ⊢; exact S.sub b u e
  · rw [upd_ne (show q ≠ p from fun z => h1 (by rw [z]; exact h0))]; exact S.fresh q h1 h2
  · by_cases z : q = p
    · subst z; rw [upd_same] at e ⊢; exact e
    · rw [upd_ne z] at e ⊢; exact S.tups q xs e
  · obtain ⟨n1, n2⟩ := S.offdk h0 d c e
    exact (S.law _).keep _ _ _ _ (S.dkok d c e).1 (upd_ne n1.symm) (upd_ne n2.symm)
  · have n : q ≠ p := fun z => S.noslot hp i s e (z ▸ hq)
    exact ⟨upd_ne n, by rw [upd_ne n]; exact (S.off i s q e hq).2⟩
/-- an object that none knows is changed -/
theorem Dst.offed (S : Dst B m G γ σ H) {o : HO} (no : ∀ xs, o ≠ .tup xs) (hg : G p = none) (h0 : B.H0 p = none) (hn : NoSlot γ p) : Dst B m G γ σ (upd H p o) := by
  refine S.heaps (Same.refl _) (fun b u e => by rw [upd_ne (ne_of_none e hg)]; exact S.sub b u e) (fun b u z e _ => by rw [upd_ne (show b ≠ p from fun q => z (by rw [q]; exact h0))]; exact e) S.fresh (fun q xs e => ?_) (fun d c e => ?_) fun i s q e hq => ⟨upd_ne (show q ≠ p from fun z => hn i s e (by rw [← z]; exact hq)), (S.off i s q e hq).2⟩
  · by_cases z : q = p
    · subst z; rw [upd_same] at e; cases e; exact absurd rfl (no xs)
    · rw [upd_ne z] at e; exact S.tups q xs e
  · obtain ⟨n1, n2⟩ := S.offdk h0 d c e
    exact (S.law _).keep _ _ _ _ (S.dkok d c e).1 (upd_ne n1.symm) (upd_ne n2.symm)
/-- a slot is stored: an own thing's addresses are no other slot's -/
theorem slot_set (S : Dst B m G γ σ H) {i : Nat} {v : V} {s : Sl} (ok : SlOk B.W G H (some v) s) (ho : ∀ p ∈ s.as, B.H0 p = none ∧ G p = none ∧ ∀ (j : Nat) t, j ≠ i → γ[j]? = some t → p ∉ t.as) : Dst B m G (γ.set i s) (σ.set i (some v)) H := by
  have at1 : ∀ (j : Nat) (u : Sl), (γ.set i s)[j]? = some u → (j = i ∧ u = s ∧ i < γ.length) ∨ (j ≠ i ∧ γ[j]? = some u) := fun j u e => by
    by_cases z : i = j
    · subst z
      by_cases l : i < γ.length
      · rw [List.getElem?_set_self l] at e
        cases e
        exact .inl ⟨rfl, rfl, l⟩
      · rw [List.getElem?_eq_none (by rw [List.length_set]; omega)] at e
        cases e
    · rw [List.getElem?_set_ne z] at e
      exact .inr ⟨fun q => z q.symm, e⟩
  refine S.slots (by rw [List.length_set, List.length_set]; exact S.len) (fun j u e => ?_) fun j k p u t e1 e2 p1 p2 => ?_
  · rcases at1 j u e with ⟨e1, e2, l⟩ | ⟨n, e⟩
    · subst e1 e2
      exact ⟨⟨some v, by rw [List.getElem?_set_self (by rw [S.len]; exact l)], ok⟩, fun p hp => ⟨(ho p hp).1, (ho p hp).2.1⟩⟩
    · obtain ⟨o, h1, h2⟩ := S.slot j u e
      exact ⟨⟨o, by rw [List.getElem?_set_ne n.symm]; exact h1, h2⟩, fun p hp => S.off j u p e hp⟩
  · rcases at1 j u e1 with ⟨a1, a2, _⟩ | ⟨n1, f1⟩
    · rcases at1 k t e2 with ⟨b1, b2, _⟩ | ⟨n2, f2⟩
      · rw [a1, b1]
      · subst a2
        exact absurd p2 ((ho p p1).2.2 k t n2 f2)
    · rcases at1 k t e2 with ⟨b1, b2, _⟩ | ⟨n2, f2⟩
      · subst b2
        exact absurd p1 ((ho p p2).2.2 j u n1 f1)
      · exact S.nd j k p u t f1 f2 p1 p2
theorem Dst.set (S : Dst B m G γ σ H) {i : Nat} {v : V} {d : D} (r : Rp B.W G v d) : Dst B m G (γ.set i (.fz d)) (σ.set i (some v)) H :=
  slot_set S ⟨v, rfl, r⟩ fun _ z => nomatch z
/-- the slots change, where the word for each is still so -/
theorem Dst.reslot (S : Dst B m G γ σ H) (hl : σ'.length = γ'.length) (hs : ∀ (i : Nat) s, γ'[i]? = some s → s = .un ∨ (γ[i]? = some s ∧ σ'[i]? = σ[i]?)) : Dst B m G γ' σ' H := by
  refine S.slots hl (fun i s e => ?_) fun i j p s t e1 e2 p1 p2 => ?_
  · rcases hs i s e with z | ⟨h1, h2⟩
    · subst z
      have l : i < σ'.length := by rw [hl]; exact (List.getElem?_eq_some_iff.mp e).1
      exact ⟨⟨σ'[i], List.getElem?_eq_getElem l, trivial⟩, fun _ z => nomatch z⟩
    · obtain ⟨o, k1, k2⟩ := S.slot i s h1
      exact ⟨⟨o, by rw [h2]; exact k1, k2⟩, fun p hp => S.off i s p h1 hp⟩
  · rcases hs i s e1 with z | ⟨h1, _⟩
    · subst z; cases p1
    · rcases hs j t e2 with z | ⟨h2, _⟩
      · subst z; cases p2
      · exact S.nd i j p s t h1 h2 p1 p2
/-- a name's word is weakened -/
theorem Dst.weak (S : Dst B m G γ σ H) {i : Nat} : Dst B m G (γ.set i .un) σ H := S.reslot (by rw [List.length_set]; exact S.len) fun j s e => by
  by_cases z : i = j
  · subst z
    by_cases l : i < γ.length
    · rw [List.getElem?_set_self l] at e; cases e; exact .inl rfl
    · rw [List.getElem?_eq_none (by rw [List.length_set]; omega)] at e; cases e
  · rw [List.getElem?_set_ne z] at e
    exact .inr ⟨e, rfl⟩
end
end EL
namespace EL
open PySem PySem.Spec PyProof.Rows L2
/-- the slots, and how many draws there were -/
structure Gm where
  sl : GL
  ct : Nat
abbrev DstG (B : Bs) (G : Hp) (γ : Gm) (σ : L2.St) (H : Hp) : Prop := Dst B γ.ct G γ.sl σ H
/-! ### readings without a heap, that are reckoned -/
abbrev DT := Gm → (D → Gm → Prop) → Prop
abbrev DA := Gm → (List D → Gm → Prop) → Prop
abbrev DKv := Gm → (List (Key × D) → Gm → Prop) → Prop
abbrev DB := Gm → (Prop → Gm → Prop) → Prop
def tD (B : Bs) (t : DT) : TE := fun σ H Q => ∃ G γ R, DstG B G γ σ H ∧ t γ R ∧ ∀ d γ' G' v H', R d γ' → Same G G' → DstG B G' γ' σ H' → Rp B.W G' v d → Q v H'
def tDA (B : Bs) (t : DA) : TA := fun σ H Q => ∃ G γ R, DstG B G γ σ H ∧ t γ R ∧ ∀ ds γ' G' vs H', R ds γ' → Same G G' → DstG B G' γ' σ H' → RpAll B.W G' vs ds → Q vs H'
def tDB (B : Bs) (t : DB) : TT := fun σ H Q => ∃ G γ R, DstG B G γ σ H ∧ t γ R ∧ ∀ p (b : Bool) γ' G' H', R p γ' → (b = true ↔ p) → Same G G' → DstG B G' γ' σ H' → Q b H'
/-- a list that is new and not yet handed on -/
def tDF (B : Bs) (t : DA) : TE := fun σ H Q => ∃ G γ R, DstG B G γ σ H ∧ t γ R ∧ ∀ ds γ' G' p vs H', R ds γ' → Same G G' → DstG B G' γ' σ H' → H' p = some (.lst vs) → RpAll B.W G' vs ds → B.H0 p = none → G' p = none → NoSlot γ'.sl p → Q (.ref p) H'
/-- a dict likewise -/
def tDFd (B : Bs) (t : DKv) : TE := fun σ H Q => ∃ G γ R, DstG B G γ σ H ∧ t γ R ∧ ∀ ds γ' G' p vs H', R ds γ' → Same G G' → DstG B G' γ' σ H' → H' p = some (.dK vs) → RpKv B.W G' vs ds → B.H0 p = none → G' p = none → NoSlot γ'.sl p → Q (.ref p) H'
section
variable {X : Cx} {B : Bs} {G G' : Hp} {γ γ' : Gm} {σ : L2.St} {H H' : Hp} {e a b : Expr} {ta tb : DT} {pos : Pos}
theorem pe_imp {t t' : TE} (h : PE X e t) (k : ∀ σ H Q, t' σ H Q → t σ H Q) : PE X e t' := ⟨fun pins s σ H Q I q => h.run pins s σ H Q I (k σ H Q q)⟩
theorem pt_imp {t t' : TT} (h : PT X e t) (k : ∀ σ H Q, t' σ H Q → t σ H Q) : PT X e t' := ⟨fun pins s σ H Q I q => h.run pins s σ H Q I (k σ H Q q)⟩
theorem pw_imp {t t' : TT} (h : PW X e t) (k : ∀ σ H Q, t' σ H Q → t σ H Q) : PW X e t' := ⟨fun w pins s σ H Q I q => h.run w pins s σ H Q I (k σ H Q q)⟩
theorem pa_imp {es : List Expr} {t t' : TA} (h : PA X es t) (k : ∀ σ H Q, t' σ H Q → t σ H Q) : PA X es t' := ⟨fun p pins s σ H Q I q => h.run p pins s σ H Q I (k σ H Q q)⟩
theorem ps_imp {st : Stmt} {t t' : TS} (h : PS X st t) (k : ∀ D σ H, t' D σ H → t D σ H) : PS X st t' := ⟨fun pins s σ H D I q => h.run pins s σ H D I (k D σ H q)⟩
theorem pss_imp {st : List Stmt} {t t' : TS} (h : PSs X st t) (k : ∀ D σ H, t' D σ H → t D σ H) : PSs X st t' := ⟨fun pins s σ H D I q => h.run pins s σ H D I (k D σ H q)⟩
theorem OpR.or {f : Value → Value → Sem Value} {r r' : R2} (h : OpR X f r) (h' : OpR X f r') : OpR X f (fun x y H Q => r x y H Q ∨ r' x y H Q) := fun pins s σ H x y v u Q I rx ry q =>
  q.elim (h pins s σ H x y v u Q I rx ry) (h' pins s σ H x y v u Q I rx ry)
theorem CallR.or {f : Value} {r r' : List V → Hp → VK → Prop} (h : CallR X f r) (h' : CallR X f r') : CallR X f (fun xs H Q => r xs H Q ∨ r' xs H Q) := fun pins s σ H xs us Q I rx q =>
  q.elim (h pins s σ H xs us Q I rx) (h' pins s σ H xs us Q I rx)
theorem MtR.or {id : String} {r r' : V → List V → Hp → VK → Prop} (h : MtR X id r) (h' : MtR X id r') : MtR X id (fun x xs H Q => r x xs H Q ∨ r' x xs H Q) := fun pins s σ H x xs v us Q I rx rs q =>
  q.elim (h pins s σ H x xs v us Q I rx rs) (h' pins s σ H x xs v us Q I rx rs)

/-! ### names, constants -/
def lookL : GL → Nat → Sl
  | [], _ => .un
  | s :: _, 0 => s
  | _ :: r, i + 1 => lookL r i
theorem lookL_get : ∀ {γ : GL} {i : Nat} {s : Sl}, lookL γ i = s → s ≠ .un → γ[i]? = some s
  | [], i, s, h, n => absurd h.symm n
  | u :: r, 0, s, h, _ => by
    have h : u = s := h
    rw [h]
    rfl
  | u :: r, i + 1, s, h, n => by
    have := lookL_get (γ := r) (i := i) h n
    simpa using this
def look (γ : Gm) (i : Nat) : Sl := lookL γ.sl i
theorem look_get {γ : Gm} {i : Nat} {s : Sl} (h : look γ i = s) (n : s ≠ .un) : γ.sl[i]? = some s := lookL_get h n
def putL : GL → Nat → Sl → GL
  | [], _, _ => []
  | _ :: r, 0, s => s :: r
  | u :: r, i + 1, s => u :: putL r i s
theorem putL_eq : ∀ (γ : GL) (i : Nat) (s : Sl), putL γ i s = γ.set i s
  | [], _, _ => rfl
  | _ :: _, 0, _ => rfl
  | u :: r, i + 1, s => by
    show u :: putL r i s = u :: r.set i s
    rw [putL_eq r i s]
def putS (γ : Gm) (i : Nat) (s : Sl) : Gm := ⟨putL γ.sl i s, γ.ct⟩
theorem putS_eq (γ : Gm) (i : Nat) (s : Sl) : putS γ i s = ⟨γ.sl.set i s, γ.ct⟩ := by
  unfold putS
  rw [putL_eq]
/-- what an own thing is, once it is read alone -/
def thaw : Sl → Option D
  | .own _ ds => some (.lst ds)
  | .ownD _ kvs => some (.dct kvs)
  | .ownT _ kvs => some (.dcT kvs)
  | .ownL _ kvs => some (.dct (kvs.map fun k => (k.1, .lst k.2.2)))
  | _ => none
def dVar (i : Nat) : DT := fun γ R => match look γ i with
  | .fz d => R d γ
  | .own _ ds => R (.lst ds) (putS γ i (.fz (.lst ds)))
  | .ownD _ kvs => R (.dct kvs) (putS γ i (.fz (.dct kvs)))
  | .ownT _ kvs => R (.dcT kvs) (putS γ i (.fz (.dcT kvs)))
  | .ownL _ kvs => R (.dct (kvs.map fun k => (k.1, .lst k.2.2))) (putS γ i (.fz (.dct (kvs.map fun k => (k.1, .lst k.2.2)))))
  | .un => False
theorem dVar_own {i : Nat} {γ : Gm} {R : D → Gm → Prop} {s : Sl} {d : D} (h : look γ i = s) (t : thaw s = some d) : dVar i γ R = R d (putS γ i (.fz d)) := by
  unfold dVar
  rw [h]
  cases s <;> first | (cases t; done) | (cases t; rfl)
/-- these addresses are read alone, too -/
def froz (G H : Hp) (l : List Addr) : Hp := fun b => if b ∈ l then H b else G b
theorem froz_in {G H : Hp} {l : List Addr} {b : Addr} (h : b ∈ l) : froz G H l b = H b := if_pos h
theorem froz_out {G H : Hp} {l : List Addr} {b : Addr} (h : b ∉ l) : froz G H l b = G b := if_neg h
theorem SlOk.thaw {W : Cw} {G H : Hp} {o : Option V} {s : Sl} {d : D} (h : SlOk W G H o s) (t : thaw s = some d) (e : Same G (froz G H s.as)) : ∃ v, o = some v ∧ Rp W (froz G H s.as) v d := by
  cases s with
  | un => cases t
  | fz d => cases t
  | own p ds =>
    cases t
    obtain ⟨a, vs, b, c⟩ := h
    exact ⟨_, a, .lst (by rw [froz_in (show p ∈ Sl.as (.own p ds) from List.mem_singleton.mpr rfl)]; exact b) (c.mono e)⟩
  | ownD p kvs =>
    cases t
    obtain ⟨a, vs, b, c⟩ := h
    exact ⟨_, a, .dct (by rw [froz_in (show p ∈ Sl.as (.ownD p kvs) from List.mem_singleton.mpr rfl)]; exact b) (c.mono e)⟩
  | ownT p kvs =>
    cases t
    obtain ⟨a, b⟩ := h
    exact ⟨_, a, .dcT (by rw [froz_in (show p ∈ Sl.as (.ownT p kvs) from List.mem_singleton.mpr rfl)]; exact b)⟩
  | ownL p kvs =>
    cases t
    obtain ⟨a, b, c, nd⟩ := h
    refine ⟨_, a, .dct (by rw [froz_in (show p ∈ Sl.as (.ownL p kvs) from List.mem_cons_self)]; exact b) ?_⟩
    have go : ∀ l : List (Key × (Addr × List D)), (∀ k ∈ l, k ∈ kvs) → RpKv W (froz G H (Sl.as (.ownL p kvs))) (l.map fun k => (k.1, V.ref k.2.1)) (l.map fun k => (k.1, D.lst k.2.2)) := by
      intro l
      induction l with
      | nil => exact fun _ => .nil
      | cons k l ih =>
        intro hl
        obtain ⟨vs, x, y⟩ := c k (hl k List.mem_cons_self)
        exact .cons (.lst (by rw [froz_in (show k.2.1 ∈ Sl.as (.ownL p kvs) from List.mem_cons_of_mem _ (List.mem_map.mpr ⟨k, hl k List.mem_cons_self, rfl⟩))]; exact x) (y.mono e)) (ih fun k hk => hl k (List.mem_cons_of_mem _ hk))
    exact go kvs fun _ h => h
theorem set_same {σ : L2.St} {i : Nat} {x : Option V} (h : σ[i]? = some x) : σ.set i x = σ := by
  apply List.ext_getElem?
  intro j
  by_cases z : i = j
  · subst z
    rw [List.getElem?_set_self (List.getElem?_eq_some_iff.mp h).1, h]
  · rw [List.getElem?_set_ne z]
/-- an own thing becomes one that is read alone -/
theorem Dst.freeze {m : Nat} {γ : GL} (S : Dst B m G γ σ H) {i : Nat} {s : Sl} {d : D} (h : γ[i]? = some s) (t : thaw s = some d) : Same G (froz G H s.as) ∧ Dst B m (froz G H s.as) (γ.set i (.fz d)) σ H ∧ ∃ v, σ[i]? = some (some v) ∧ Rp B.W (froz G H s.as) v d := by
  obtain ⟨o, h1, h2⟩ := S.slot i _ h
  have ho := fun p hp => S.off i s p h hp
  have sm : Same G (froz G H s.as) := fun b u e => by
    rw [froz_out fun z => by rw [(ho b z).2] at e; cases e]
    exact e
  obtain ⟨v, e, r⟩ := h2.thaw t sm
  subst e
  have Sw : Dst B m G (γ.set i .un) σ H := S.weak
  have Sw2 : Dst B m (froz G H s.as) (γ.set i .un) σ H := by
    refine Sw.heaps sm (fun b u e => ?_) (fun b u _ e _ => e) (fun q h1 h2 => ?_) (fun q xs e => ?_) (fun d c e => (S.dkok d c e).1) fun j u q e hq => ⟨rfl, ?_⟩
    · by_cases z : b ∈ s.as
      · rw [froz_in z] at e; exact e
      · rw [froz_out z] at e; exact S.sub b u e
    · rw [froz_out fun z => h1 (ho q z).1]; exact S.fresh q h1 h2
    · by_cases z : q ∈ s.as
      · rw [froz_in z]; exact e
      · rw [froz_out z]; exact S.tups q xs e
    · have hj : j ≠ i ∧ γ[j]? = some u := by
        by_cases z : i = j
        · subst z
          rw [List.getElem?_set_self (List.getElem?_eq_some_iff.mp h).1] at e
          cases e
          cases hq
        · rw [List.getElem?_set_ne z] at e
          exact ⟨fun q => z q.symm, e⟩
      rw [froz_out fun z => hj.1 (S.nd j i q u s hj.2 h hq z)]
      exact (S.off j u q hj.2 hq).2
  refine ⟨sm, ?_, v, h1, r⟩
  have S3 := Sw2.set (i := i) r
  rw [set_same h1, List.set_set] at S3
  exact S3
theorem d_var (i : Nat) {x : Str} {pos : Pos} (h : PE X (.Name x pos) (tVar i)) : PE X (.Name x pos) (tD B (dVar i)) := pe_imp h fun σ H Q ⟨G, γ, R, S, hr, k⟩ => by
  cases t : thaw (look γ i) with
  | none =>
    unfold dVar at hr
    cases e : look γ i with
    | fz d =>
      rw [e] at hr
      obtain ⟨o, h1, v, h2, h3⟩ := S.slot i _ (look_get e (fun z => nomatch z))
      subst h2
      exact ⟨v, h1, k _ _ _ _ _ hr (Same.refl _) S h3⟩
    | un => rw [e] at hr; exact hr.elim
    | own p ds => rw [e] at t; cases t
    | ownD p ds => rw [e] at t; cases t
    | ownL p ds => rw [e] at t; cases t
    | ownT p ds => rw [e] at t; cases t
  | some d =>
    rw [dVar_own rfl t, putS_eq] at hr
    obtain ⟨sm, S', v, h1, r⟩ := S.freeze (look_get rfl (fun z => by rw [z] at t; cases t)) t
    exact ⟨_, h1, k _ _ _ _ _ hr sm S' r⟩
def dC (d : D) : DT := fun γ R => R d γ
theorem d_int {i : Int} {j pos} : PE X (.Constant (.int i) j pos) (tD B (dC (.int i))) := pe_imp pe_int fun σ H Q ⟨_, _, _, S, hr, k⟩ => k _ _ _ _ _ hr (Same.refl _) S (.int i)
theorem d_bl {b : Bool} {j pos} : PE X (.Constant (.bool b) j pos) (tD B (dC (.bl b))) := pe_imp pe_bl fun σ H Q ⟨_, _, _, S, hr, k⟩ => k _ _ _ _ _ hr (Same.refl _) S (.bl b)
theorem d_non {j pos} : PE X (.Constant .none j pos) (tD B (dC .non)) := pe_imp pe_non fun σ H Q ⟨_, _, _, S, hr, k⟩ => k _ _ _ _ _ hr (Same.refl _) S .non
theorem d_str {z : Str} {j pos} : PE X (.Constant (.str z) j pos) (tD B (dC (.str z))) := pe_imp pe_str fun σ H Q ⟨_, _, _, S, hr, k⟩ => k _ _ _ _ _ hr (Same.refl _) S (.str z)
/-- any known value -/
theorem d_opq {v : V} (h : PE X e (tC v)) : PE X e (tD B (dC (.opq v))) := pe_imp h fun σ H Q ⟨_, _, _, S, hr, k⟩ => k _ _ _ _ _ hr (Same.refl _) S (.opq v)

/-! ### operators -/
/-- what an operation of two values comes to -/
abbrev F2 := D → D → (D → Prop) → Prop
def OkR2 (B : Bs) (r : R2) (f : F2) : Prop := ∀ G γ σ H x y d e R Q, DstG B G γ σ H → Rp B.W G x d → Rp B.W G y e → f d e R →
  (∀ c G' v H', R c → Same G G' → DstG B G' γ σ H' → Rp B.W G' v c → Q v H') → r x y H Q
def dOp (f : F2) (ta tb : DT) : DT := fun γ R => ta γ fun x γ1 => tb γ1 fun y γ2 => f x y fun c => R c γ2
theorem dop_core {r : R2} {f : F2} (hr : OkR2 B r f) : ∀ σ H Q, tD B (dOp f ta tb) σ H Q → tOp r (tD B ta) (tD B tb) σ H Q := fun σ H Q ⟨G, γ, R, S, h, k⟩ =>
  ⟨G, γ, _, S, h, fun d γ1 G1 v H1 h1 s1 S1 r1 => ⟨G1, γ1, _, S1, h1, fun e γ2 G2 u H2 h2 s2 S2 r2 => hr _ _ _ _ _ _ _ _ _ _ S2 (r1.mono s2) r2 h2 fun c G3 w H3 h3 s3 S3 r3 => k _ _ _ _ _ h3 (s1.trans (s2.trans s3)) S3 r3⟩⟩
theorem d_op {op : Operator} {r : R2} {f : F2} (ho : OpR X (binaryOp op) r) (hr : OkR2 B r f) (ha : PE X a (tD B ta)) (hb : PE X b (tD B tb)) : PE X (.BinOp a op b pos) (tD B (dOp f ta tb)) := pe_imp (pe_op ho ha hb) (dop_core hr)
theorem d_ix {r : R2} {f : F2} (hi : IxR X r) (hr : OkR2 B r f) (ha : PE X a (tD B ta)) (hb : PE X b (tD B tb)) (hs : PlainIx b) : PE X (.Subscript a b pos) (tD B (dOp f ta tb)) := pe_imp (pe_ix hi ha hb hs) (dop_core hr)
theorem rpInt {W : Cw} {v : V} {i : Int} (h : Rp W G v (.int i)) : v = .int i := by cases h; rfl
theorem rpBl {W : Cw} {v : V} {i : Bool} (h : Rp W G v (.bl i)) : v = .bl i := by cases h; rfl
theorem rpStr {W : Cw} {v : V} {i : Str} (h : Rp W G v (.str i)) : v = .str i := by cases h; rfl
theorem rpNon {W : Cw} {v : V} (h : Rp W G v .non) : v = .non := by cases h; rfl
theorem sz_ok {n : Nat} (h : n ≤ 1000000) : n ≤ sizeLine := Nat.le_trans h (by decide)
theorem Dst.newTup {m : Nat} {γ : GL} (S : Dst B m G γ σ H) {vs : List V} {ds : List D} (r : RpAll B.W G vs ds) {p : Addr} (hp : H p = none) : ∃ G', Same G G' ∧ Dst B m G' γ σ (upd H p (.tup vs)) ∧ Rp B.W G' (.ref p) (.tup ds) := by
  obtain ⟨S2, sm⟩ := S.new (o := .tup vs) hp
  exact ⟨_, sm, S2, .tup (.inl upd_same) (r.mono sm)⟩
theorem Dst.newLst {m : Nat} {γ : GL} (S : Dst B m G γ σ H) {vs : List V} {ds : List D} (r : RpAll B.W G vs ds) {p : Addr} (hp : H p = none) : ∃ G', Same G G' ∧ Dst B m G' γ σ (upd H p (.lst vs)) ∧ Rp B.W G' (.ref p) (.lst ds) := by
  obtain ⟨S2, sm⟩ := S.new (o := .lst vs) hp
  exact ⟨_, sm, S2, .lst upd_same (r.mono sm)⟩
theorem Dst.newDct {m : Nat} {γ : GL} (S : Dst B m G γ σ H) {vs : List (Key × V)} {ds : List (Key × D)} (r : RpKv B.W G vs ds) {p : Addr} (hp : H p = none) : ∃ G', Same G G' ∧ Dst B m G' γ σ (upd H p (.dK vs)) ∧ Rp B.W G' (.ref p) (.dct ds) := by
  obtain ⟨S2, sm⟩ := S.new (o := .dK vs) hp
  exact ⟨_, sm, S2, .dct upd_same (r.mono sm)⟩
/-- ints -/
theorem ok_I {C : Int → Int → Prop} {g : Int → Int → Int} {f : F2} (hf : ∀ d e R, f d e R → ∃ i j, d = .int i ∧ e = .int j ∧ C i j ∧ R (.int (g i j))) : OkR2 B (rI C fun i j => .int (g i j)) f := by
  intro G γ σ H x y d e R Q S rx ry h k
  obtain ⟨i, j, rfl, rfl, c, h⟩ := hf _ _ _ h
  cases rpInt rx
  cases rpInt ry
  exact ⟨i, j, rfl, rfl, c, k _ _ _ _ h (Same.refl _) S (.int _)⟩
def addF : F2 := fun d e R => match d, e with
  | .int i, .int j => R (.int (i + j))
  | .str i, .str j => i.length + j.length ≤ 1000000 ∧ R (.str (i ++ j))
  | .tup ds, .tup es => ds.length + es.length ≤ 1000000 ∧ R (.tup (ds ++ es))
  | .lst ds, .lst es => ds.length + es.length ≤ 1000000 ∧ R (.lst (ds ++ es))
  | _, _ => False
def rAdd (K : PySem.W.Frag) : R2 := fun x y H Q => rI0 (fun i j => .int (i + j)) x y H Q ∨ ((∃ i j, x = .str i ∧ y = .str j ∧ i.length + j.length ≤ sizeLine ∧ Q (.str (i ++ j)) H) ∨ (rCatA K x y H Q ∨ rCat x y H Q))
theorem op_addD : OpR X (binaryOp .Add) (rAdd X.K) := OpR.or op_add (OpR.or op_add_str (OpR.or op_catA op_cat))
theorem ok_addD (hK : X.K = B.K) : OkR2 B (rAdd X.K) addF := by
  intro G γ σ H x y d e R Q S rx ry h k
  rw [hK]
  unfold addF at h
  split at h
  · cases rpInt rx
    cases rpInt ry
    exact .inl ⟨_, _, rfl, rfl, k _ _ _ _ h (Same.refl _) S (.int _)⟩
  · cases rpStr rx
    cases rpStr ry
    exact .inr (.inl ⟨_, _, rfl, rfl, sz_ok h.1, k _ _ _ _ h.2 (Same.refl _) S (.str _)⟩)
  · obtain ⟨hl, h⟩ := h
    cases rx with
    | @tup pa vs _ hs ra =>
      cases ry with
      | @tup pb us _ hs' ra' =>
        refine .inr (.inr (.inl ⟨_, _, _, _, rfl, rfl, hs.sq S.sub, hs'.sq S.sub, by rw [ra.len, ra'.len]; exact sz_ok hl, fun e => ?_, fun _ e => ?_, fun _ _ p hp => ?_⟩))
        · subst e
          cases ra
          exact k _ _ _ _ h (Same.refl _) S (.tup hs' ra')
        · subst e
          cases ra'
          rw [List.append_nil] at h
          exact k _ _ _ _ h (Same.refl _) S (.tup hs ra)
        · obtain ⟨G2, s2, S2, r2⟩ := S.newTup (ra.app ra') hp
          exact k _ _ _ _ h s2 S2 r2
  · obtain ⟨hl, h⟩ := h
    cases rx with
    | lst hs ra =>
      cases ry with
      | lst hs' ra' =>
        refine .inr (.inr (.inr ⟨_, _, _, _, rfl, rfl, S.sub _ _ hs, S.sub _ _ hs', by rw [ra.len, ra'.len]; exact sz_ok hl, fun p hp => ?_⟩))
        obtain ⟨G2, s2, S2, r2⟩ := S.newLst (ra.app ra') hp
        exact k _ _ _ _ h s2 S2 r2
  · exact h.elim
theorem d_add (hK : X.K = B.K) (ha : PE X a (tD B ta)) (hb : PE X b (tD B tb)) : PE X (.BinOp a .Add b pos) (tD B (dOp addF ta tb)) := d_op op_addD (ok_addD hK) ha hb
def subF : F2 := fun d e R => match d, e with
  | .int i, .int j => R (.int (i - j))
  | _, _ => False
theorem d_sub (ha : PE X a (tD B ta)) (hb : PE X b (tD B tb)) : PE X (.BinOp a .Sub b pos) (tD B (dOp subF ta tb)) := d_op op_sub (fun G γ σ H x y d e R Q S rx ry h k => by
  unfold subF at h
  split at h
  · cases rpInt rx
    cases rpInt ry
    exact ⟨_, _, rfl, rfl, k _ _ _ _ h (Same.refl _) S (.int _)⟩
  · exact h.elim) ha hb
/-- a list, many times -/
def repD (k : Int) (ds : List D) : List D := (List.replicate k.toNat ds).flatten
theorem rp_rep {W : Cw} {vs : List V} {ds : List D} (r : RpAll W G vs ds) : ∀ n : Nat, RpAll W G (List.replicate n vs).flatten (List.replicate n ds).flatten
  | 0 => .nil
  | n + 1 => by
    rw [List.replicate_succ, List.replicate_succ, List.flatten_cons, List.flatten_cons]
    exact r.app (rp_rep r n)
def mulF : F2 := fun d e R => match d, e with
  | .int i, .int j => CMulX i j ∧ R (.int (i * j))
  | .lst ds, .int k => (-(2 ^ 62) ≤ k ∧ k < 2 ^ 62 ∧ ds.length * k.toNat ≤ 1000000) ∧ R (.lst (repD k ds))
  | _, _ => False
def rMul : R2 := fun x y H Q => rI CMulX (fun i j => .int (i * j)) x y H Q ∨ rRep x y H Q
theorem ok_mulD : OkR2 B rMul mulF := by
  intro G γ σ H x y d e R Q S rx ry h k
  unfold mulF at h
  split at h
  · cases rpInt rx
    cases rpInt ry
    exact .inl ⟨_, _, rfl, rfl, h.1, k _ _ _ _ h.2 (Same.refl _) S (.int _)⟩
  · obtain ⟨⟨h0, h1, h2⟩, h⟩ := h
    cases rpInt ry
    cases rx with
    | lst hs ra =>
      refine .inr ⟨_, _, _, rfl, rfl, S.sub _ _ hs, by omega, by omega, by rw [ra.len]; exact sz_ok h2, fun p hp => ?_⟩
      obtain ⟨G2, s2, S2, r2⟩ := S.newLst (rp_rep ra _) hp
      exact k _ _ _ _ h s2 S2 r2
  · exact h.elim
theorem d_mul (ha : PE X a (tD B ta)) (hb : PE X b (tD B tb)) : PE X (.BinOp a .Mult b pos) (tD B (dOp mulF ta tb)) := d_op (OpR.or op_mulX op_rep) ok_mulD ha hb
def fdivF : F2 := fun d e R => match d, e with
  | .int i, .int j => CDivW i j ∧ R (.int (i / j))
  | _, _ => False
theorem d_fdiv (ha : PE X a (tD B ta)) (hb : PE X b (tD B tb)) : PE X (.BinOp a .FloorDiv b pos) (tD B (dOp fdivF ta tb)) := d_op op_fdivW (ok_I fun d e R h => by
  unfold fdivF at h
  split at h
  · exact ⟨_, _, rfl, rfl, h.1, h.2⟩
  · exact h.elim) ha hb
def modF : F2 := fun d e R => match d, e with
  | .int i, .int j => 0 < j ∧ R (.int (i % j))
  | _, _ => False
theorem d_mod (ha : PE X a (tD B ta)) (hb : PE X b (tD B tb)) : PE X (.BinOp a .Mod b pos) (tD B (dOp modF ta tb)) := d_op op_mod (ok_I fun d e R h => by
  unfold modF at h
  split at h
  · exact ⟨_, _, rfl, rfl, h.1, h.2⟩
  · exact h.elim) ha hb
def powF : F2 := fun d e R => match d, e with
  | .int i, .int j => CPow i j ∧ R (.int (i ^ j.toNat))
  | _, _ => False
theorem d_pow (ha : PE X a (tD B ta)) (hb : PE X b (tD B tb)) : PE X (.BinOp a .Pow b pos) (tD B (dOp powF ta tb)) := d_op op_pow (ok_I fun d e R h => by
  unfold powF at h
  split at h
  · exact ⟨_, _, rfl, rfl, h.1, h.2⟩
  · exact h.elim) ha hb
def shlF : F2 := fun d e R => match d, e with
  | .int i, .int j => CShl i j ∧ R (.int (i * 2 ^ j.toNat))
  | _, _ => False
theorem d_shl (ha : PE X a (tD B ta)) (hb : PE X b (tD B tb)) : PE X (.BinOp a .LShift b pos) (tD B (dOp shlF ta tb)) := d_op op_shlW (ok_I fun d e R h => by
  unfold shlF at h
  split at h
  · exact ⟨_, _, rfl, rfl, h.1, h.2⟩
  · exact h.elim) ha hb
def shrF : F2 := fun d e R => match d, e with
  | .int i, .int j => 0 ≤ j ∧ R (.int (i / 2 ^ j.toNat))
  | _, _ => False
theorem d_shr (ha : PE X a (tD B ta)) (hb : PE X b (tD B tb)) : PE X (.BinOp a .RShift b pos) (tD B (dOp shrF ta tb)) := d_op op_shr (ok_I fun d e R h => by
  unfold shrF at h
  split at h
  · exact ⟨_, _, rfl, rfl, h.1, h.2⟩
  · exact h.elim) ha hb
def andF : F2 := fun d e R => match d, e with
  | .int i, .int j => R (.int (Builtin.bitAnd i j))
  | _, _ => False
theorem d_band (ha : PE X a (tD B ta)) (hb : PE X b (tD B tb)) : PE X (.BinOp a .BitAnd b pos) (tD B (dOp andF ta tb)) := d_op op_and (fun G γ σ H x y d e R Q S rx ry h k => by
  unfold andF at h
  split at h
  · cases rpInt rx
    cases rpInt ry
    exact ⟨_, _, rfl, rfl, k _ _ _ _ h (Same.refl _) S (.int _)⟩
  · exact h.elim) ha hb
/-! ### comparisons: a proposition -/
abbrev FP := D → D → (Prop → Prop) → Prop
/-- a comparison's truth by values -/
def OkRP (B : Bs) (r : R2) (f : FP) : Prop := ∀ G γ σ H x y d e R Q, DstG B G γ σ H → Rp B.W G x d → Rp B.W G y e → f d e R →
  (∀ p (b : Bool) G' H', R p → (b = true ↔ p) → Same G G' → DstG B G' γ σ H' → Q (.bl b) H') → r x y H Q
def bCmp (f : FP) (ta tb : DT) : DB := fun γ R => ta γ fun x γ1 => tb γ1 fun y γ2 => f x y fun c => R c γ2
/-- the truth as a value -/
def dPr (t : DB) : DT := fun γ R => t γ fun p γ1 => ∀ b : Bool, (b = true ↔ p) → R (.bl b) γ1
theorem b_cmp {op : CmpOp} {r : R2} {f : FP} (ho : OpR X (compareOp op) r) (hr : OkRP B r f) (ha : PE X a (tD B ta)) (hb : PE X b (tD B tb)) (hm : behindInMarks op b = false) : PT X (.Compare a [op] [b] pos) (tDB B (bCmp f ta tb)) :=
  pt_imp (pt_cmpR ho ha hb hm) fun σ H Q ⟨G, γ, R, S, h, k⟩ =>
    ⟨G, γ, _, S, h, fun d γ1 G1 v H1 h1 s1 S1 r1 => ⟨G1, γ1, _, S1, h1, fun e γ2 G2 u H2 h2 s2 S2 r2 => hr _ _ _ _ _ _ _ _ _ _ S2 (r1.mono s2) r2 h2 fun p b G3 H3 h3 hp s3 S3 => ⟨b, rfl, k _ _ _ _ _ h3 hp (s1.trans (s2.trans s3)) S3⟩⟩⟩
theorem d_cmp {op : CmpOp} {r : R2} {f : FP} (ho : OpR X (compareOp op) r) (hr : OkRP B r f) (ha : PE X a (tD B ta)) (hb : PE X b (tD B tb)) (hm : behindInMarks op b = false) : PE X (.Compare a [op] [b] pos) (tD B (dPr (bCmp f ta tb))) :=
  pe_imp (pe_cmpR ho ha hb hm) fun σ H Q ⟨G, γ, R, S, h, k⟩ =>
    ⟨G, γ, _, S, h, fun d γ1 G1 v H1 h1 s1 S1 r1 => ⟨G1, γ1, _, S1, h1, fun e γ2 G2 u H2 h2 s2 S2 r2 => hr _ _ _ _ _ _ _ _ _ _ S2 (r1.mono s2) r2 h2 fun p b G3 H3 h3 hp s3 S3 => k _ _ _ _ _ (h3 b hp) (s1.trans (s2.trans s3)) S3 (.bl _)⟩⟩
def strLt (a b : Str) : Prop := a.cps.toList < b.cps.toList
def ltP : FP := fun d e R => match d, e with
  | .int i, .int j => R (i < j)
  | .str i, .str j => R (strLt i j)
  | _, _ => False
theorem ok_ltP : OkRP B (fun x y H Q => rI0 (fun i j => .bl (decide (i < j))) x y H Q ∨ ∃ i j, x = .str i ∧ y = .str j ∧ Q (.bl (decide (i.cps.toList < j.cps.toList))) H) ltP := by
  intro G γ σ H x y d e R Q S rx ry h k
  unfold ltP at h
  split at h
  · cases rpInt rx
    cases rpInt ry
    exact .inl ⟨_, _, rfl, rfl, k _ _ _ _ h (by simp) (Same.refl _) S⟩
  · cases rpStr rx
    cases rpStr ry
    exact .inr ⟨_, _, rfl, rfl, k _ _ _ _ h (by simp [strLt]) (Same.refl _) S⟩
  · exact h.elim
theorem op_ltP : OpR X (compareOp .Lt) (fun x y H Q => rI0 (fun i j => .bl (decide (i < j))) x y H Q ∨ ∃ i j, x = .str i ∧ y = .str j ∧ Q (.bl (decide (i.cps.toList < j.cps.toList))) H) := OpR.or op_lt op_lt_str
def leP : FP := fun d e R => match d, e with
  | .int i, .int j => R (i ≤ j)
  | _, _ => False
def gtP : FP := fun d e R => match d, e with
  | .int i, .int j => R (j < i)
  | _, _ => False
def geP : FP := fun d e R => match d, e with
  | .int i, .int j => R (j ≤ i)
  | _, _ => False
theorem ok_leP : OkRP B (rI0 fun i j => .bl (decide (i ≤ j))) leP := by
  intro G γ σ H x y d e R Q S rx ry h k
  unfold leP at h
  split at h
  · cases rpInt rx
    cases rpInt ry
    exact ⟨_, _, rfl, rfl, k _ _ _ _ h (by simp) (Same.refl _) S⟩
  · exact h.elim
theorem ok_gtP : OkRP B (rI0 fun i j => .bl (decide (j < i))) gtP := by
  intro G γ σ H x y d e R Q S rx ry h k
  unfold gtP at h
  split at h
  · cases rpInt rx
    cases rpInt ry
    exact ⟨_, _, rfl, rfl, k _ _ _ _ h (by simp) (Same.refl _) S⟩
  · exact h.elim
theorem ok_geP : OkRP B (rI0 fun i j => .bl (decide (j ≤ i))) geP := by
  intro G γ σ H x y d e R Q S rx ry h k
  unfold geP at h
  split at h
  · cases rpInt rx
    cases rpInt ry
    exact ⟨_, _, rfl, rfl, k _ _ _ _ h (by simp) (Same.refl _) S⟩
  · exact h.elim
/-! ### one place -/
def dUn (f : D → (D → Prop) → Prop) (ta : DT) : DT := fun γ R => ta γ fun x γ1 => f x fun c => R c γ1
def negF : D → (D → Prop) → Prop := fun d R => match d with
  | .int i => R (.int (-i))
  | _ => False
theorem d_neg (ha : PE X a (tD B ta)) : PE X (.UnaryOp .USub a pos) (tD B (dUn negF ta)) := pe_imp (pe_un un_neg ha) fun σ H Q ⟨G, γ, R, S, h, k⟩ =>
  ⟨G, γ, _, S, h, fun d γ1 G1 v H1 h1 s1 S1 r1 => by
    unfold negF at h1
    split at h1
    · cases rpInt r1
      exact ⟨_, rfl, k _ _ _ _ _ h1 s1 S1 (.int _)⟩
    · exact h1.elim⟩
/-! ### truths -/
/-- the truth of a value that is one -/
def bVal (ta : DT) : DB := fun γ R => ta γ fun x γ1 => match x with
  | .bl c => R (c = true) γ1
  | _ => False
theorem b_val (ha : PE X a (tD B ta)) (he : ∀ whole, isTrue a X.env whole = (do let v ← whole; standAt a.pos; holding [v] (truthy v)) := by intro _; rfl) : PT X a (tDB B (bVal ta)) := pt_imp (pt_val ha he) fun σ H Q ⟨G, γ, R, S, h, k⟩ =>
  ⟨G, γ, _, S, h, fun d γ1 G1 v H1 h1 s1 S1 r1 => by
    split at h1
    · cases rpBl r1
      exact ⟨_, rfl, k _ _ _ _ _ h1 Iff.rfl s1 S1⟩
    · exact h1.elim⟩
def bAnd (t u : DB) : DB := fun γ R => t γ fun p γ1 => (p → u γ1 R) ∧ (¬p → R False γ1)
def bOr (t u : DB) : DB := fun γ R => t γ fun p γ1 => (p → R True γ1) ∧ (¬p → u γ1 R)
def bNot (t : DB) : DB := fun γ R => t γ fun p γ1 => R (¬p) γ1
theorem b_not {t : DB} (ha : PT X a (tDB B t)) : PT X (.UnaryOp .Not a pos) (tDB B (bNot t)) := pt_imp (pt_not ha) fun σ H Q ⟨G, γ, R, S, h, k⟩ => ⟨G, γ, _, S, h, fun p c γ1 G1 H1 h1 hc s1 S1 => k _ _ _ _ _ h1 (by rw [← hc]; cases c <;> simp) s1 S1⟩
theorem bw_and1 {t : DB} (ha : PT X a (tDB B t)) : PW X (.BoolOp .And [a] pos) (tDB B t) := pw_and1 ha
theorem bw_or1 {t : DB} (ha : PT X a (tDB B t)) : PW X (.BoolOp .Or [a] pos) (tDB B t) := pw_or1 ha
theorem bw_and {t u : DB} {rest : List Expr} (ha : PT X a (tDB B t)) (hb : PW X (.BoolOp .And (b :: rest) pos) (tDB B u)) : PW X (.BoolOp .And (a :: b :: rest) pos) (tDB B (bAnd t u)) := pw_imp (pw_and ha hb) fun σ H Q ⟨G, γ, R, S, h, k⟩ =>
  ⟨G, γ, _, S, h, fun p c γ1 G1 H1 ⟨h1, h2⟩ hc s1 S1 => by
    cases c with
    | true =>
      rw [if_pos rfl]
      exact ⟨G1, γ1, R, S1, h1 (hc.mp rfl), fun d c' γ' G' H' q hq s S => k d c' γ' G' H' q hq (s1.trans s) S⟩
    | false =>
      rw [if_neg Bool.false_ne_true]
      exact k _ _ _ _ _ (h2 fun z => nomatch hc.mpr z) (by simp) s1 S1⟩
theorem bw_or {t u : DB} {rest : List Expr} (ha : PT X a (tDB B t)) (hb : PW X (.BoolOp .Or (b :: rest) pos) (tDB B u)) : PW X (.BoolOp .Or (a :: b :: rest) pos) (tDB B (bOr t u)) := pw_imp (pw_or ha hb) fun σ H Q ⟨G, γ, R, S, h, k⟩ =>
  ⟨G, γ, _, S, h, fun p c γ1 G1 H1 ⟨h1, h2⟩ hc s1 S1 => by
    cases c with
    | true =>
      rw [if_pos rfl]
      exact k _ _ _ _ _ (h1 (hc.mp rfl)) (by simp) s1 S1
    | false =>
      rw [if_neg Bool.false_ne_true]
      exact ⟨G1, γ1, R, S1, h2 (fun z => nomatch hc.mpr z), fun d c' γ' G' H' q hq s S => k d c' γ' G' H' q hq (s1.trans s) S⟩⟩
/-! ### not, and, or as values: of truths -/
def dNot (ta : DT) : DT := fun γ R => ta γ fun x γ1 => match x with
  | .bl c => R (.bl (!c)) γ1
  | _ => False
theorem d_not (ha : PE X a (tD B ta)) : PE X (.UnaryOp .Not a pos) (tD B (dNot ta)) := pe_imp (pe_not ha) fun σ H Q ⟨G, γ, R, S, h, k⟩ =>
  ⟨G, γ, _, S, h, fun d γ1 G1 v H1 h1 s1 S1 r1 => by
    split at h1
    · cases rpBl r1
      exact ⟨_, rfl, k _ _ _ _ _ h1 s1 S1 (.bl _)⟩
    · exact h1.elim⟩
def dAnd (ta tb : DT) : DT := fun γ R => ta γ fun x γ1 => match x with
  | .bl c => (c = true → tb γ1 R) ∧ (c = false → R (.bl false) γ1)
  | _ => False
def dOr (ta tb : DT) : DT := fun γ R => ta γ fun x γ1 => match x with
  | .bl c => (c = true → R (.bl true) γ1) ∧ (c = false → tb γ1 R)
  | _ => False
theorem d_one {op} (h : PE X a (tD B ta)) : PE X (.BoolOp op [a] pos) (tD B ta) := pe_one h
theorem d_and {rest : List Expr} (ha : PE X a (tD B ta)) (hb : PE X (.BoolOp .And (b :: rest) pos) (tD B tb)) : PE X (.BoolOp .And (a :: b :: rest) pos) (tD B (dAnd ta tb)) := pe_imp (pe_and ha hb) fun σ H Q ⟨G, γ, R, S, h, k⟩ =>
  ⟨G, γ, _, S, h, fun d γ1 G1 v H1 h0 s1 S1 r1 => by
    split at h0
    · rename_i c
      obtain ⟨h1, h2⟩ := h0
      cases rpBl r1
      refine ⟨c, rfl, ?_⟩
      cases c with
      | true =>
        rw [if_pos rfl]
        exact ⟨G1, γ1, R, S1, h1 rfl, fun d γ' G' v H' q s S r => k d γ' G' v H' q (s1.trans s) S r⟩
      | false =>
        rw [if_neg Bool.false_ne_true]
        exact k _ _ _ _ _ (h2 rfl) s1 S1 (.bl _)
    · exact h0.elim⟩
theorem d_or {rest : List Expr} (ha : PE X a (tD B ta)) (hb : PE X (.BoolOp .Or (b :: rest) pos) (tD B tb)) : PE X (.BoolOp .Or (a :: b :: rest) pos) (tD B (dOr ta tb)) := pe_imp (pe_or ha hb) fun σ H Q ⟨G, γ, R, S, h, k⟩ =>
  ⟨G, γ, _, S, h, fun d γ1 G1 v H1 h0 s1 S1 r1 => by
    split at h0
    · rename_i c
      obtain ⟨h1, h2⟩ := h0
      cases rpBl r1
      refine ⟨c, rfl, ?_⟩
      cases c with
      | true =>
        rw [if_pos rfl]
        exact k _ _ _ _ _ (h1 rfl) s1 S1 (.bl _)
      | false =>
        rw [if_neg Bool.false_ne_true]
        exact ⟨G1, γ1, R, S1, h2 rfl, fun d γ' G' v H' q s S r => k d γ' G' v H' q (s1.trans s) S r⟩
    · exact h0.elim⟩
/-! ### a if t else b -/
def dIfE (t : DB) (ta tb : DT) : DT := fun γ R => t γ fun p γ1 => (p → ta γ1 R) ∧ (¬p → tb γ1 R)
theorem d_ifE {c : Expr} {t : DB} (hc : PT X c (tDB B t)) (ha : PE X a (tD B ta)) (hb : PE X b (tD B tb)) : PE X (.IfExp c a b pos) (tD B (dIfE t ta tb)) := pe_imp (pe_ifExp hc ha hb) fun σ H Q ⟨G, γ, R, S, h, k⟩ =>
  ⟨G, γ, _, S, h, fun p c γ1 G1 H1 ⟨h1, h2⟩ hc s1 S1 => by
    cases c with
    | true =>
      rw [if_pos rfl]
      exact ⟨G1, γ1, R, S1, h1 (hc.mp rfl), fun d γ' G' v H' q s S r => k d γ' G' v H' q (s1.trans s) S r⟩
    | false =>
      rw [if_neg Bool.false_ne_true]
      exact ⟨G1, γ1, R, S1, h2 (fun z => nomatch hc.mpr z), fun d γ' G' v H' q s S r => k d γ' G' v H' q (s1.trans s) S r⟩⟩
/-! ### several, tuples, lists -/
def aNil : DA := fun γ R => R [] γ
def aCons (ta : DT) (tr : DA) : DA := fun γ R => ta γ fun x γ1 => tr γ1 fun xs γ2 => R (x :: xs) γ2
theorem a_nil : PA X [] (tDA B aNil) := pa_imp pa_nil fun σ H Q ⟨_, _, _, S, h, k⟩ => k _ _ _ _ _ h (Same.refl _) S .nil
theorem acons_core {tr : DA} : ∀ σ H Q, tDA B (aCons ta tr) σ H Q → tCons (tD B ta) (tDA B tr) σ H Q := fun σ H Q ⟨G, γ, R, S, h, k⟩ =>
  ⟨G, γ, _, S, h, fun d γ1 G1 v H1 h1 s1 S1 r1 => ⟨G1, γ1, _, S1, h1, fun ds γ2 G2 vs H2 h2 s2 S2 r2 => k _ _ _ _ _ h2 (s1.trans s2) S2 (.cons (r1.mono s2) r2)⟩⟩
theorem a_cons {es : List Expr} {tr : DA} (ha : PE X e (tD B ta)) (hr : PA X es (tDA B tr)) (hs : starEach (e :: es) X.env = (false, eval e X.env) :: starEach es X.env := by rfl) : PA X (e :: es) (tDA B (aCons ta tr)) := pa_imp (pa_cons ha hr hs) acons_core
/-- lengths that readings keep -/
def LenA (t : DA) (n : Nat) : Prop := ∀ γ R, t γ R → t γ fun ds γ' => R ds γ' ∧ ds.length = n
def dTup (t : DA) : DT := fun γ R => t γ fun ds γ1 => ds.length ≤ 1000000 ∧ R (.tup ds) γ1
theorem d_tup {es : List Expr} {t : DA} {x1} (h : PA X es (tDA B t)) : PE X (.Tuple es x1 pos) (tD B (dTup t)) := pe_imp (pe_tup h) fun σ H Q ⟨G, γ, R, S, h, k⟩ =>
  ⟨G, γ, _, S, h, fun ds γ1 G1 vs H1 ⟨hl, h1⟩ s1 S1 r1 => ⟨by rw [r1.len]; exact sz_ok hl, fun p hp => by
    obtain ⟨G2, s2, S2, r2⟩ := S1.newTup r1 hp
    exact k _ _ _ _ _ h1 (s1.trans s2) S2 r2⟩⟩
/-- a list that is made -/
def fLst (t : DA) : DA := fun γ R => t γ fun ds γ1 => ds.length ≤ 1000000 ∧ R ds γ1
theorem f_lst {es : List Expr} {t : DA} (h : PA X es (tDA B t)) : PE X (.List es pos) (tDF B (fLst t)) := pe_imp (pe_lst h) fun σ H Q ⟨G, γ, R, S, h, k⟩ =>
  ⟨G, γ, _, S, h, fun ds γ1 G1 vs H1 ⟨hl, h1⟩ s1 S1 r1 => ⟨by rw [r1.len]; exact sz_ok hl, fun p hp =>
    k _ _ _ _ _ _ h1 s1 (S1.laid (fun _ z => nomatch z) hp) upd_same r1 (S1.free0 hp) (S1.sub.free hp) (S1.noslot hp)⟩⟩
/-- handed on: from then on it is read alone -/
def dF (t : DA) : DT := fun γ R => t γ fun ds γ1 => R (.lst ds) γ1
theorem d_f {t : DA} (h : PE X e (tDF B t)) : PE X e (tD B (dF t)) := pe_imp h fun σ H Q ⟨G, γ, R, S, h, k⟩ =>
  ⟨G, γ, _, S, h, fun ds γ1 G1 p vs H1 h1 s1 S1 hp r1 h0 hg hn => by
    obtain ⟨S2, sm⟩ := S1.frz hp h0 hg hn
    exact k _ _ _ _ _ h1 (s1.trans sm) S2 (.lst upd_same (r1.mono sm))⟩
def dFd (t : DKv) : DT := fun γ R => t γ fun ds γ1 => R (.dct ds) γ1
theorem d_fd {t : DKv} (h : PE X e (tDFd B t)) : PE X e (tD B (dFd t)) := pe_imp h fun σ H Q ⟨G, γ, R, S, h, k⟩ =>
  ⟨G, γ, _, S, h, fun ds γ1 G1 p vs H1 h1 s1 S1 hp r1 h0 hg hn => by
    obtain ⟨S2, sm⟩ := S1.frz hp h0 hg hn
    exact k _ _ _ _ _ h1 (s1.trans sm) S2 (.dct upd_same (r1.mono sm))⟩
end
end EL
namespace EL
open PySem PySem.Spec PyProof.Rows L2
/-! ### statements -/
structure DEnds where
  nx : Gm → Prop
  rt : D → Gm → Prop
  bk : Gm → Prop := fun _ => False
  ct : Gm → Prop := fun _ => False
abbrev DS := DEnds → Gm → Prop
structure Fin (B : Bs) (G : Hp) (E : DEnds) (D : Ends) : Prop where
  nx : ∀ γ G' σ H, E.nx γ → Same G G' → DstG B G' γ σ H → D.nx σ H
  rt : ∀ d γ G' σ v H, E.rt d γ → Same G G' → DstG B G' γ σ H → Rp B.W G' v d → D.rt v H
  bk : ∀ γ G' σ H, E.bk γ → Same G G' → DstG B G' γ σ H → D.bk σ H
  ct : ∀ γ G' σ H, E.ct γ → Same G G' → DstG B G' γ σ H → D.ct σ H
def tDS (B : Bs) (s : DS) : TS := fun D σ H => ∃ G γ E, DstG B G γ σ H ∧ s E γ ∧ Fin B G E D
section
variable {X : Cx} {B : Bs} {G G' G1 : Hp} {γ γ' : Gm} {σ : L2.St} {H H' : Hp} {e a b : Expr} {ta tb t : DT} {pos : Pos} {st : Stmt} {rest sts : List Stmt} {s u : DS} {E : DEnds} {De : Ends}
theorem Fin.mono (F : Fin B G E De) (h : Same G G') : Fin B G' E De :=
  ⟨fun γ G2 σ H q s S => F.nx γ G2 σ H q (h.trans s) S, fun d γ G2 σ v H q s S r => F.rt d γ G2 σ v H q (h.trans s) S r, fun γ G2 σ H q s S => F.bk γ G2 σ H q (h.trans s) S, fun γ G2 σ H q s S => F.ct γ G2 σ H q (h.trans s) S⟩
def sSeq (s u : DS) : DS := fun E γ => s { nx := fun γ' => u E γ', rt := E.rt, bk := E.bk, ct := E.ct } γ
def sCut (s u : DS) : DS := fun E γ => ∃ I : Gm → Prop, s { nx := I, rt := E.rt, bk := E.bk, ct := E.ct } γ ∧ ∀ γ', I γ' → u E γ'
def sNil : DS := fun E γ => E.nx γ
theorem ss_nil : PSs X [] (tDS B sNil) := pss_imp pss_nil fun D σ H ⟨G, γ, E, S, h, F⟩ => F.nx γ G σ H h (Same.refl _) S
theorem ss_one (h : PS X st (tDS B s)) : PSs X [st] (tDS B s) := pss_one h
theorem ss_cons (h1 : PS X st (tDS B s)) (h2 : PSs X rest (tDS B u)) : PSs X (st :: rest) (tDS B (sSeq s u)) := pss_imp (pss_cons h1 h2) fun D σ H ⟨G, γ, E, S, h, F⟩ =>
  ⟨G, γ, _, S, h, ⟨fun γ1 G1 σ1 H1 q sm S1 => ⟨G1, γ1, E, S1, q, F.mono sm⟩, F.rt, F.bk, F.ct⟩⟩
theorem ss_cut (h1 : PS X st (tDS B s)) (h2 : PSs X rest (tDS B u)) : PSs X (st :: rest) (tDS B (sCut s u)) := pss_imp (pss_cons h1 h2) fun D σ H ⟨G, γ, E, S, ⟨I, h, k⟩, F⟩ =>
  ⟨G, γ, _, S, h, ⟨fun γ1 G1 σ1 H1 q sm S1 => ⟨G1, γ1, E, S1, k _ q, F.mono sm⟩, F.rt, F.bk, F.ct⟩⟩
theorem s_dead : PS X st (tDS B fun _ _ => False) := ⟨fun _ _ _ _ _ _ ⟨_, _, _, _, h, _⟩ => h.elim⟩
theorem s_pass : PS X (.Pass pos) (tDS B sNil) := ps_imp ps_pass fun D σ H ⟨G, γ, E, S, h, F⟩ => F.nx γ G σ H h (Same.refl _) S
def sBrk : DS := fun E γ => E.bk γ
def sCnt : DS := fun E γ => E.ct γ
theorem s_break : PS X (.Break pos) (tDS B sBrk) := ps_imp ps_break fun D σ H ⟨G, γ, E, S, h, F⟩ => F.bk γ G σ H h (Same.refl _) S
theorem s_continue : PS X (.Continue pos) (tDS B sCnt) := ps_imp ps_continue fun D σ H ⟨G, γ, E, S, h, F⟩ => F.ct γ G σ H h (Same.refl _) S
def sExpr (t : DT) : DS := fun E γ => t γ fun _ γ1 => E.nx γ1
theorem s_expr (h : PS X st (tDrop (tD B t))) : PS X st (tDS B (sExpr t)) := ps_imp h fun D σ H ⟨G, γ, E, S, h, F⟩ => ⟨G, γ, _, S, h, fun d γ1 G1 v H1 q sm S1 _ => F.nx _ _ _ _ q sm S1⟩
def sRet (t : DT) : DS := fun E γ => t γ fun d γ1 => E.rt d γ1
theorem s_ret (h : PE X e (tD B t)) : PS X (.Return (some e) pos) (tDS B (sRet t)) := ps_imp (ps_ret h) fun D σ H ⟨G, γ, E, S, h, F⟩ => ⟨G, γ, _, S, h, fun d γ1 G1 v H1 q sm S1 r => F.rt _ _ _ _ _ _ q sm S1 r⟩
def sRetN : DS := fun E γ => E.rt .non γ
theorem s_retN : PS X (.Return none pos) (tDS B sRetN) := ps_imp ps_retN fun D σ H ⟨G, γ, E, S, h, F⟩ => F.rt _ γ G σ _ _ h (Same.refl _) S .non
def sIf (c : DB) (s u : DS) : DS := fun E γ => c γ fun p γ1 => (p → s E γ1) ∧ (¬p → u E γ1)
theorem s_if {c : Expr} {xs ys : List Stmt} {tc : DB} (hc : PT X c (tDB B tc)) (ha : PSs X xs (tDS B s)) (hb : PSs X ys (tDS B u)) : PS X (.If c xs ys pos) (tDS B (sIf tc s u)) := ps_imp (ps_if hc ha hb) fun D σ H ⟨G, γ, E, S, h, F⟩ =>
  ⟨G, γ, _, S, h, fun p b γ1 G1 H1 ⟨h1, h2⟩ hp sm S1 => by
    cases b with
    | true => rw [if_pos rfl]; exact ⟨G1, γ1, E, S1, h1 (hp.mp rfl), F.mono sm⟩
    | false => rw [if_neg Bool.false_ne_true]; exact ⟨G1, γ1, E, S1, h2 (fun z => nomatch hp.mpr z), F.mono sm⟩⟩
/-! ### stores into names -/
def sSet (i : Nat) (t : DT) : DS := fun E γ => t γ fun d γ1 => E.nx (putS γ1 i (.fz d))
theorem s_set {i : Nat} (h : PS X st (tAsg (tD B t) (gName i))) : PS X st (tDS B (sSet i t)) := ps_imp h fun D σ H ⟨G, γ, E, S, h, F⟩ => ⟨G, γ, _, S, h, fun d γ1 G1 v H1 q sm S1 r => by
  rw [putS_eq] at q
  exact F.nx _ _ _ _ q sm (S1.set r)⟩
def sOwn (i : Nat) (t : DA) : DS := fun E γ => t γ fun ds γ1 => ∀ p, E.nx (putS γ1 i (.own p ds))
theorem s_own {i : Nat} {t : DA} (h : PS X st (tAsg (tDF B t) (gName i))) : PS X st (tDS B (sOwn i t)) := ps_imp h fun D σ H ⟨G, γ, E, S, h, F⟩ => ⟨G, γ, _, S, h, fun ds γ1 G1 p vs H1 q sm S1 hp r h0 hg hn => by
  have q := q p
  rw [putS_eq] at q
  refine F.nx _ _ _ _ q sm (slot_set S1 (v := .ref p) (s := .own p ds) ⟨rfl, vs, hp, r⟩ fun p' hp' => ?_)
  cases List.mem_singleton.mp hp'
  exact ⟨h0, hg, fun j t _ e => hn j t e⟩⟩
def sOwnD (i : Nat) (t : DKv) : DS := fun E γ => t γ fun ds γ1 => ∀ p, E.nx (putS γ1 i (.ownD p ds))
theorem s_ownD {i : Nat} {t : DKv} (h : PS X st (tAsg (tDFd B t) (gName i))) : PS X st (tDS B (sOwnD i t)) := ps_imp h fun D σ H ⟨G, γ, E, S, h, F⟩ => ⟨G, γ, _, S, h, fun ds γ1 G1 p vs H1 q sm S1 hp r h0 hg hn => by
  have q := q p
  rw [putS_eq] at q
  refine F.nx _ _ _ _ q sm (slot_set S1 (v := .ref p) (s := .ownD p ds) ⟨rfl, vs, hp, r⟩ fun p' hp' => ?_)
  cases List.mem_singleton.mp hp'
  exact ⟨h0, hg, fun j t _ e => hn j t e⟩⟩
def sPar (i j : Nat) (t : DA) : DS := fun E γ => t γ fun ds γ1 => match ds with
  | [d, e] => E.nx (putS (putS γ1 i (.fz d)) j (.fz e))
  | _ => False
theorem s_par {i j : Nat} {t : DA} (h : PS X st (tPar i j (tDA B t))) : PS X st (tDS B (sPar i j t)) := ps_imp h fun D σ H ⟨G, γ, E, S, h, F⟩ => ⟨G, γ, _, S, h, fun ds γ1 G1 vs H1 q sm S1 r => by
  split at q
  · cases r with
    | cons r1 r2 =>
      cases r2 with
      | cons r2 r3 =>
        cases r3
        rw [putS_eq, putS_eq] at q
        exact ⟨_, _, rfl, F.nx _ _ _ _ q sm ((S1.set r1).set r2)⟩
  · exact q.elim⟩
/-! ### targets -/
abbrev BdT := D → Gm → (Gm → Prop) → Prop
theorem wipe_set (σ : L2.St) (i : Nat) (x : Option V) : ∀ vs : List Nat, wipe (σ.set i x) vs = if i ∈ vs then wipe σ vs else (wipe σ vs).set i x
  | [] => by simp [wipe]
  | v :: vs => by
    show (wipe (σ.set i x) vs).set v none = _
    rw [wipe_set σ i x vs]
    by_cases h : i ∈ vs
    · rw [if_pos h, if_pos (List.mem_cons_of_mem _ h)]
      rfl
    · rw [if_neg h]
      by_cases z : i = v
      · subst z
        rw [if_pos List.mem_cons_self, List.set_set]
        rfl
      · rw [if_neg (by simp only [List.mem_cons, not_or]; exact ⟨z, h⟩), List.set_comm _ _ z]
        rfl
/-- a target: what it stores, in slots of vs alone -/
def tDG (B : Bs) (vs : List Nat) (b : BdT) : TG := fun v σ H Q => ∃ G γ d R, DstG B G γ σ H ∧ Rp B.W G v d ∧ b d γ R ∧ ∀ γ' σ', R γ' → DstG B G γ' σ' H → wipe σ' vs = wipe σ vs → Q σ' H
def tDGs (B : Bs) (vs : List Nat) (b : List D → Gm → (Gm → Prop) → Prop) : TGs := fun us σ H Q => ∃ G γ ds R, DstG B G γ σ H ∧ RpAll B.W G us ds ∧ b ds γ R ∧ ∀ γ' σ', R γ' → DstG B G γ' σ' H → wipe σ' vs = wipe σ vs → Q σ' H
theorem pg_imp {tg : Expr} {g g' : TG} (h : PG X tg g) (k : ∀ v σ H Q, g' v σ H Q → g v σ H Q) : PG X tg g' := ⟨fun pins s σ H v u Q I r q => h.run pins s σ H v u Q I r (k v σ H Q q)⟩
theorem pgs_imp {tg : List Expr} {g g' : TGs} (h : PGs X tg g) (k : ∀ v σ H Q, g' v σ H Q → g v σ H Q) : PGs X tg g' := ⟨fun pins s σ H v u Q I r q => h.run pins s σ H v u Q I r (k v σ H Q q)⟩
def bN (i : Nat) : BdT := fun d γ R => R (putS γ i (.fz d))
theorem g_name {tg : Expr} {i : Nat} {vs : List Nat} (h : PG X tg (gName i)) (hi : i ∈ vs := by simp) : PG X tg (tDG B vs (bN i)) := pg_imp h fun v σ H Q ⟨G, γ, d, R, S, r, q, k⟩ => by
  refine k _ _ q ?_ ?_
  · rw [putS_eq]; exact S.set r
  · rw [wipe_set, if_pos hi]
def bsNil : List D → Gm → (Gm → Prop) → Prop := fun ds γ R => match ds with
  | [] => R γ
  | _ => False
def bsCons (b : BdT) (bs : List D → Gm → (Gm → Prop) → Prop) : List D → Gm → (Gm → Prop) → Prop := fun ds γ R => match ds with
  | d :: r => b d γ fun γ1 => bs r γ1 R
  | [] => False
theorem gs_nil {vs : List Nat} : PGs X [] (tDGs B vs bsNil) := pgs_imp pgs_nil fun us σ H Q ⟨G, γ, ds, R, S, r, q, k⟩ => by
  cases ds with
  | nil => cases r; exact ⟨rfl, k _ _ q S rfl⟩
  | cons d ds => exact q.elim
theorem gs_cons {tg : Expr} {tgs : List Expr} {vs : List Nat} {b : BdT} {bs} (h1 : PG X tg (tDG B vs b)) (h2 : PGs X tgs (tDGs B vs bs)) (h : PGs X (tg :: tgs) (gCons (tDG B vs b) (tDGs B vs bs))) : PGs X (tg :: tgs) (tDGs B vs (bsCons b bs)) := pgs_imp h fun us σ H Q ⟨G, γ, ds, R, S, r, q, k⟩ => by
  cases ds with
  | nil => exact q.elim
  | cons d ds' =>
    cases r with
    | cons r1 r2 =>
      exact ⟨_, _, rfl, G, γ, d, _, S, r1, q, fun γ1 σ1 q1 S1 w1 => ⟨G, γ1, ds', R, S1, r2, q1, fun γ2 σ2 q2 S2 w2 => k _ _ q2 S2 (w2.trans w1)⟩⟩
def BLen (bs : List D → Gm → (Gm → Prop) → Prop) (n : Nat) : Prop := ∀ ds γ R, bs ds γ R → ds.length = n
theorem bl_nil : BLen bsNil 0 := fun ds γ R h => by cases ds with
  | nil => rfl
  | cons d ds => exact h.elim
def Tame (b : BdT) : Prop := ∀ d γ R, b d γ R → ∃ γ', R γ'
theorem tame_n {i : Nat} : Tame (bN i) := fun d γ R h => ⟨_, h⟩
theorem bl_cons {b : BdT} {bs} {n : Nat} (t : Tame b) (h : BLen bs n) : BLen (bsCons b bs) (n + 1) := fun ds γ R q => by cases ds with
  | nil => exact q.elim
  | cons d ds =>
    obtain ⟨γ', q'⟩ := t _ _ _ q
    show ds.length + 1 = n + 1
    rw [h _ _ _ q']
def bT (bs : List D → Gm → (Gm → Prop) → Prop) : BdT := fun d γ R => match d with
  | .tup ds => bs ds γ R
  | _ => False
def TameS (bs : List D → Gm → (Gm → Prop) → Prop) : Prop := ∀ ds γ R, bs ds γ R → ∃ γ', R γ'
theorem ts_nil : TameS bsNil := fun ds γ R h => by cases ds with
  | nil => exact ⟨_, h⟩
  | cons d ds => exact h.elim
theorem ts_cons {b : BdT} {bs} (t : Tame b) (h : TameS bs) : TameS (bsCons b bs) := fun ds γ R q => by cases ds with
  | nil => exact q.elim
  | cons d ds =>
    obtain ⟨γ', q'⟩ := t _ _ _ q
    exact h _ _ _ q'
theorem tame_t {bs} (h : TameS bs) : Tame (bT bs) := fun d γ R q => by
  unfold bT at q
  split at q
  · exact h _ _ _ q
  · exact q.elim
theorem g_tup {tg : Expr} {n : Nat} {vs : List Nat} {bs} (hl : BLen bs n) (h : PG X tg (gTup B.K n (tDGs B vs bs))) : PG X tg (tDG B vs (bT bs)) := pg_imp h fun v σ H Q ⟨G, γ, d, R, S, r, q, k⟩ => by
  unfold bT at q
  split at q
  · cases r with
    | tup hs ra => exact ⟨_, _, rfl, hs.sq S.sub, by rw [ra.len]; exact hl _ _ _ q, G, γ, _, R, S, ra, q, k⟩
  · exact q.elim
/-- e handed to any target -/
def sAsg (t : DT) (b : BdT) : DS := fun E γ => t γ fun d γ1 => b d γ1 E.nx
theorem s_asg {vs : List Nat} {bd : BdT} (h : PS X st (tAsg (tD B t) (tDG B vs bd))) : PS X st (tDS B (sAsg t bd)) := ps_imp h fun D σ H ⟨G, γ, E, S, h, F⟩ => ⟨G, γ, _, S, h, fun d γ1 G1 v H1 q sm S1 r => ⟨G1, γ1, d, _, S1, r, q, fun γ2 σ2 q2 S2 _ => F.nx _ _ _ _ q2 sm S2⟩⟩
/-! ### what is walked -/
abbrev withH (B : Bs) (H0 : Hp) : Bs := ⟨B.W, B.DkAt, H0, B.G0, B.xc, B.E, B.cost⟩
/-- the iterator gives just these, whatever is tracked beside -/
def WalkD (B : Bs) (J : It) (G1 : Hp) (ds : List D) : Prop := ∀ H0 G γ σ H, Same G1 G → DstG (withH B H0) G γ σ H →
  J.stop ds.length H ∧ ∀ i d, ds[i]? = some d → J.go i H ∧ ∀ x H', J.yld i H x H' → ∃ G', Same G G' ∧ DstG (withH B H0) G' γ σ H' ∧ Rp B.W G' x d
def tDI (B : Bs) (t : DA) : TI := fun σ H R' => ∃ G γ R, DstG B G γ σ H ∧ t γ R ∧ ∀ ds γ' G' H' J, R ds γ' → Same G G' → DstG B G' γ' σ H' → WalkD B J G' ds → R' J H'
theorem pi_imp {tg it : Expr} {w w' : TI} (h : PI X tg it w) (k : ∀ σ H R, w' σ H R → w σ H R) : PI X tg it w' := ⟨fun pins s σ H R I q => h.run pins s σ H R I (k σ H R q)⟩
theorem pi_seq {tg l : Expr} {tl : TE} (hl : PE X l tl) : PI X tg l (fun σ H R => tl σ H fun x H1 => ∃ a, x = .ref a ∧ ((∃ xs, SqL X.K H1 a xs) ∧ R (Itl X.K a) H1 ∨ (∃ xs, SqT X.K H1 a xs) ∧ R (Itt X.K a) H1)) := by
  refine ⟨fun pins s σ H R I h => ?_⟩
  refine thn (hl.run pins s σ H _ I h) fun v s1 ⟨x, H1, I1, r1, q1⟩ => ?_
  obtain ⟨a, e, q⟩ := q1
  subst e
  cases r1
  rcases q with ⟨⟨xs, hq⟩, q⟩ | ⟨⟨xs, hq⟩, q⟩
  · obtain ⟨its, rv, p, hz⟩ := I1.list hq
    refine wpAny_pyIter_list p.isList ?_
    refine ⟨s1.heap.objs.size, [s1.heap.objs.size], _, _, H1, rfl, I1.kept (t' := s1.toks) fun b o e => Heap.get?_push_of_some _ e, turn_list a _, ⟨_, Heap.get?_push_size _ rfl, rfl, rfl⟩, fun b hb => ?_, q⟩
    have e : b = s1.heap.objs.size := by simpa using hb
    subst e
    exact I1.fpOk (Nat.le_refl _) (I1.hok.fresh (Nat.le_refl _))
  · obtain ⟨its, rv, p, hz⟩ := I1.tuple hq
    refine wpAny_pyIter_tuple (show s1.heap.IsTuple a its.toArray from p) ?_
    refine ⟨s1.heap.objs.size, [s1.heap.objs.size], _, _, H1, rfl, I1.kept (t' := s1.toks) fun b o e => Heap.get?_push_of_some _ e, turn_tuple a _, ⟨_, Heap.get?_push_size _ rfl, rfl, rfl⟩, fun b hb => ?_, q⟩
    have e : b = s1.heap.objs.size := by simpa using hb
    subst e
    exact I1.fpOk (Nat.le_refl _) (I1.hok.fresh (Nat.le_refl _))
/-- the things of a list, a tuple -/
def itemsD : D → Option (List D)
  | .lst ds => some ds
  | .tup ds => some ds
  | _ => none
/-- a text's signs -/
def signs (z : Str) : List D := z.cps.toList.map fun c => .str ⟨#[c]⟩
def iSeq (t : DT) : DA := fun γ R => t γ fun d γ1 => match d with
  | .lst ds => R ds γ1
  | .tup ds => R ds γ1
  | .str z => R (signs z) γ1
  | _ => False
theorem sqT_mono {K : PySem.W.Frag} {a : Addr} {xs : List V} (e : Same G G') (h : SqT K G a xs) : SqT K G' a xs := by
  rcases h with (h | ⟨o, h⟩) | h
  · exact .inl (.inl (e _ _ h))
  · exact .inl (.inr ⟨o, e _ _ h⟩)
  · exact .inr h
theorem walkD_list {a : Addr} {vs : List V} {ds : List D} (h : SqL B.K G1 a vs) (r : RpAll B.W G1 vs ds) : WalkD B (Itl B.K a) G1 ds := fun H0 G γ σ H sm S => by
  have hs : SqL B.K H a vs := S.sub.seq (sm.seq h)
  refine ⟨⟨vs, hs, by rw [r.len]; exact Nat.le_refl _⟩, fun i d hd => ?_⟩
  obtain ⟨v, hv, rv⟩ := r.get hd
  refine ⟨⟨vs, v, hs, hv⟩, fun x H' y => ?_⟩
  obtain ⟨e, y⟩ := y
  subst e
  have := y vs hs
  rw [hv] at this
  cases this
  exact ⟨G, Same.refl _, S, rv.mono sm⟩
theorem walkD_tup {a : Addr} {vs : List V} {ds : List D} (h : SqT B.K G1 a vs) (r : RpAll B.W G1 vs ds) : WalkD B (Itt B.K a) G1 ds := fun H0 G γ σ H sm S => by
  have hs : SqT B.K H a vs := sqT_mono S.sub (sqT_mono sm h)
  refine ⟨⟨vs, hs, by rw [r.len]; exact Nat.le_refl _⟩, fun i d hd => ?_⟩
  obtain ⟨v, hv, rv⟩ := r.get hd
  refine ⟨⟨vs, v, hs, hv⟩, fun x H' y => ?_⟩
  obtain ⟨e, y⟩ := y
  subst e
  have := y vs hs
  rw [hv] at this
  cases this
  exact ⟨G, Same.refl _, S, rv.mono sm⟩
theorem pi_seqS {tg l : Expr} {tl : TE} (hl : PE X l tl) : PI X tg l (fun σ H R => tl σ H fun x H1 => (∃ a, x = .ref a ∧ ((∃ xs, SqL X.K H1 a xs) ∧ R (Itl X.K a) H1 ∨ (∃ xs, SqT X.K H1 a xs) ∧ R (Itt X.K a) H1)) ∨ ∃ z, x = .str z ∧ R (Its z) H1) := by
  refine ⟨fun pins s σ H R I h => ?_⟩
  refine thn (hl.run pins s σ H _ I h) fun v s1 ⟨x, H1, I1, r1, q1⟩ => ?_
  rcases q1 with ⟨a, e, q⟩ | ⟨x, ex, q⟩
  · subst e
    cases r1
    rcases q with ⟨⟨xs, hq⟩, q⟩ | ⟨⟨xs, hq⟩, q⟩
    · obtain ⟨its, rv, p, hz⟩ := I1.list hq
      refine wpAny_pyIter_list p.isList ?_
      refine ⟨s1.heap.objs.size, [s1.heap.objs.size], _, _, H1, rfl, I1.kept (t' := s1.toks) fun b o e => Heap.get?_push_of_some _ e, turn_list a _, ⟨_, Heap.get?_push_size _ rfl, rfl, rfl⟩, fun b hb => ?_, q⟩
      have e : b = s1.heap.objs.size := by simpa using hb
      subst e
      exact I1.fpOk (Nat.le_refl _) (I1.hok.fresh (Nat.le_refl _))
    · obtain ⟨its, rv, p, hz⟩ := I1.tuple hq
      refine wpAny_pyIter_tuple (show s1.heap.IsTuple a its.toArray from p) ?_
      refine ⟨s1.heap.objs.size, [s1.heap.objs.size], _, _, H1, rfl, I1.kept (t' := s1.toks) fun b o e => Heap.get?_push_of_some _ e, turn_tuple a _, ⟨_, Heap.get?_push_size _ rfl, rfl, rfl⟩, fun b hb => ?_, q⟩
      have e : b = s1.heap.objs.size := by simpa using hb
      subst e
      exact I1.fpOk (Nat.le_refl _) (I1.hok.fresh (Nat.le_refl _))
  · subst ex
    obtain ⟨t, rfl⟩ := r1
    cases ha : x.cps.all (· < 128)
    · exact wpAny_pyIter_wide ha (pi_one (tk := s1.toks) I1 _ (turn_str _ x t "str_iterator" (.inr rfl)) ⟨_, Heap.get?_push_size _ rfl, rfl, rfl⟩ q)
    · exact wpAny_pyIter_ascii ha (pi_one (tk := s1.toks) I1 _ (turn_str _ x t "str_ascii_iterator" (.inl rfl)) ⟨_, Heap.get?_push_size _ rfl, rfl, rfl⟩ q)
theorem walkD_str {z : Str} : WalkD B (Its z) G1 (signs z) := fun H0 G γ σ H sm S => by
  refine ⟨by show z.cps.size ≤ (signs z).length; simp [signs], fun i d hd => ?_⟩
  unfold signs at hd
  rw [List.getElem?_map] at hd
  cases q : z.cps.toList[i]? with
  | none => rw [q] at hd; cases hd
  | some c =>
    rw [q] at hd
    cases hd
    have hz : z.cps[i]? = some c := by rw [← Array.getElem?_toList]; exact q
    refine ⟨by show i < z.cps.size; exact (Array.getElem?_eq_some_iff.mp hz).1, fun x H' y => ?_⟩
    obtain ⟨e, c', hc, ex⟩ := y
    rw [hz] at hc
    cases hc
    subst e ex
    exact ⟨G, Same.refl _, S, .str _⟩
theorem i_seq {tg l : Expr} (hK : X.K = B.K) (hl : PE X l (tD B t)) : PI X tg l (tDI B (iSeq t)) := pi_imp (pi_seqS hl) fun σ H R' ⟨G, γ, R, S, h, k⟩ => ⟨G, γ, _, S, h, fun d γ1 G1 v H1 q sm S1 r => by
  split at q
  · cases r with
    | @lst a vs _ hs ra =>
      refine .inl ⟨a, rfl, .inl ⟨⟨vs, ?_⟩, ?_⟩⟩
      · rw [hK]; exact SqL.of (S1.sub _ _ hs)
      · rw [hK]; exact k _ _ _ _ _ q sm S1 (walkD_list (SqL.of hs) ra)
  · cases r with
    | @tup a vs _ hs ra =>
      refine .inl ⟨a, rfl, .inr ⟨⟨vs, ?_⟩, ?_⟩⟩
      · rw [hK]; exact hs.sq S1.sub
      · rw [hK]; exact k _ _ _ _ _ q sm S1 (walkD_tup (hs.sq0) ra)
  · cases rpStr r
    exact .inr ⟨_, rfl, k _ _ _ _ _ q sm S1 walkD_str⟩
  · exact q.elim⟩
def rngD (lo : Int) (n : Nat) : List D := (List.range n).map fun k : Nat => .int (lo + k)
theorem walkD_rng {lo : Int} {n : Nat} : WalkD B (Itr lo n) G1 (rngD lo n) := fun H0 G γ σ H sm S => by
  refine ⟨by show n ≤ (rngD lo n).length; simp [rngD], fun i d hd => ?_⟩
  have hi : i < n := by
    have := (List.getElem?_eq_some_iff.mp hd).1
    simpa [rngD] using this
  have e : d = .int (lo + i) := by
    simp [rngD, hi] at hd
    exact hd.symm
  subst e
  refine ⟨hi, fun x H' y => ?_⟩
  obtain ⟨e, y⟩ := y
  subst e y
  exact ⟨G, Same.refl _, S, .int _⟩
def iRng1D (t : DA) : DA := fun γ R => t γ fun ds γ1 => match ds with
  | [.int j] => (-(2 ^ 62) ≤ j ∧ j < 2 ^ 62) ∧ R (rngD 0 j.toNat) γ1
  | _ => False
theorem i_rng1 {tg it : Expr} {t : DA} (h : PI X tg it (iRng1 (tDA B t))) : PI X tg it (tDI B (iRng1D t)) := pi_imp h fun σ H R' ⟨G, γ, R, S, h, k⟩ => ⟨G, γ, _, S, h, fun ds γ1 G1 vs H1 q sm S1 r => by
  split at q
  · cases r with
    | cons r1 r2 =>
      cases r2
      cases rpInt r1
      exact ⟨_, rfl, q.1.1, q.1.2, k _ _ _ _ _ q.2 sm S1 walkD_rng⟩
  · exact q.elim⟩
def iRng2D (t : DA) : DA := fun γ R => t γ fun ds γ1 => match ds with
  | [.int i, .int j] => (-(2 ^ 62) ≤ i ∧ i < 2 ^ 62 ∧ -(2 ^ 62) ≤ j ∧ j < 2 ^ 62) ∧ R (rngD i (j - i).toNat) γ1
  | _ => False
theorem i_rng2 {tg it : Expr} {t : DA} (h : PI X tg it (iRng2 (tDA B t))) : PI X tg it (tDI B (iRng2D t)) := pi_imp h fun σ H R' ⟨G, γ, R, S, h, k⟩ => ⟨G, γ, _, S, h, fun ds γ1 G1 vs H1 q sm S1 r => by
  split at q
  · cases r with
    | cons r1 r2 =>
      cases r2 with
      | cons r2 r3 =>
        cases r3
        cases rpInt r1
        cases rpInt r2
        exact ⟨_, _, rfl, q.1, k _ _ _ _ _ q.2 sm S1 walkD_rng⟩
  · exact q.elim⟩
def rngC (lo c : Int) (n : Nat) : List D := (List.range n).map fun k : Nat => .int (lo + k * c)
theorem walkD_rngC {lo c : Int} {n : Nat} : WalkD B (Itc lo c n) G1 (rngC lo c n) := fun H0 G γ σ H sm S => by
  refine ⟨by show n ≤ (rngC lo c n).length; simp [rngC], fun i d hd => ?_⟩
  have hi : i < n := by
    have := (List.getElem?_eq_some_iff.mp hd).1
    simpa [rngC] using this
  have e : d = .int (lo + i * c) := by
    simp [rngC, hi] at hd
    exact hd.symm
  subst e
  refine ⟨hi, fun x H' y => ?_⟩
  obtain ⟨e, y⟩ := y
  subst e y
  exact ⟨G, Same.refl _, S, .int _⟩
def iRng3D (t : DA) : DA := fun γ R => t γ fun ds γ1 => match ds with
  | [.int i, .int j, .int c] => ∃ n, RgC i j c n ∧ R (rngC i c n) γ1
  | _ => False
theorem i_rng3 {tg it : Expr} {t : DA} (h : PI X tg it (iRng3 (tDA B t))) : PI X tg it (tDI B (iRng3D t)) := pi_imp h fun σ H R' ⟨G, γ, R, S, h, k⟩ => ⟨G, γ, _, S, h, fun ds γ1 G1 vs H1 q sm S1 r => by
  split at q
  · cases r with
    | cons r1 r2 =>
      cases r2 with
      | cons r2 r3 =>
        cases r3 with
        | cons r3 r4 =>
          cases r4
          cases rpInt r1
          cases rpInt r2
          cases rpInt r3
          obtain ⟨n, hn, q⟩ := q
          exact ⟨_, _, _, n, rfl, hn, k _ _ _ _ _ q sm S1 walkD_rngC⟩
  · exact q.elim⟩
/-- reversed(range(n)) -/
def iRevR1 (t : DT) : DA := fun γ R => t γ fun d γ1 => match d with
  | .int n => (0 ≤ n ∧ n < 2 ^ 62) ∧ R (rngC (n - 1) (-1) n.toNat) γ1
  | _ => False
theorem i_revR1 {tg it : Expr} {ta : DT} (h : PI X tg it (iRevR (tRg1 (tD B ta)))) : PI X tg it (tDI B (iRevR1 ta)) := pi_imp h fun σ H R' ⟨G, γ, R, S, h, k⟩ => ⟨G, γ, _, S, h, fun d γ1 G1 v H1 q sm S1 r => by
  split at q
  · rename_i n
    cases rpInt r
    obtain ⟨⟨h0, h1⟩, q⟩ := q
    refine ⟨n, rfl, by decide, by decide, by omega, h1, ?_⟩
    have e : (0 : Int) + (((n - 0).toNat : Nat) : Int) - 1 = n - 1 := by omega
    have e2 : (n - 0).toNat = n.toNat := by omega
    rw [e, e2]
    exact k _ _ _ _ _ q sm S1 walkD_rngC
  · exact q.elim⟩
/-- new pairs -/
theorem pair_step {G γ σ H} {x y : V} {d e : D} {T : Addr} (S : DstG B G γ σ H) (rx : Rp B.W G x d) (ry : Rp B.W G y e) (hT : H T = none) : ∃ G', Same G G' ∧ DstG B G' γ σ (upd H T (.tup [x, y])) ∧ Rp B.W G' (.ref T) (.tup [d, e]) :=
  S.newTup (.cons rx (.cons ry .nil)) hT
def enumD (ds : List D) : List D := ds.zipIdx.map fun p => .tup [.int (p.2 : Nat), p.1]
theorem enumD_get {ds : List D} {i : Nat} {c : D} (h : (enumD ds)[i]? = some c) : ∃ d, ds[i]? = some d ∧ c = .tup [.int (i : Nat), d] := by
  unfold enumD at h
  rw [List.getElem?_map, List.getElem?_zipIdx] at h
  cases q : ds[i]? with
  | none => rw [q] at h; cases h
  | some d =>
    rw [q] at h
    simp at h
    exact ⟨d, rfl, h.symm⟩
theorem enumD_len {ds : List D} : (enumD ds).length = ds.length := by simp [enumD]
theorem walkD_enum {a : Addr} {vs : List V} {ds : List D} (h : SqL B.K G1 a vs) (r : RpAll B.W G1 vs ds) : WalkD B (Ite B.K a) G1 (enumD ds) := fun H0 G γ σ H sm S => by
  have hs : SqL B.K H a vs := S.sub.seq (sm.seq h)
  refine ⟨⟨vs, hs, by rw [r.len, enumD_len]; exact Nat.le_refl _⟩, fun i c hc => ?_⟩
  obtain ⟨d, hd, rfl⟩ := enumD_get hc
  obtain ⟨v, hv, rv⟩ := r.get hd
  refine ⟨⟨vs, v, hs, hv⟩, fun x H' y => ?_⟩
  obtain ⟨T, x', h1, h2, h3, h4⟩ := y
  have := h4 vs hs
  rw [hv] at this
  cases this
  subst h1 h3
  exact pair_step (B := withH B H0) S (.int _) (rv.mono sm) h2
def iEnumD (t : DA) : DA := fun γ R => t γ fun ds γ1 => match ds with
  | [.lst es] => R (enumD es) γ1
  | _ => False
theorem i_enum {tg it : Expr} {t : DA} (h : PI X tg it (iEnum B.K (tDA B t))) : PI X tg it (tDI B (iEnumD t)) := pi_imp h fun σ H R' ⟨G, γ, R, S, h, k⟩ => ⟨G, γ, _, S, h, fun ds γ1 G1 vs H1 q sm S1 r => by
  split at q
  · cases r with
    | cons r1 r2 =>
      cases r2
      cases r1 with
      | lst hs ra => exact ⟨_, _, rfl, SqL.of (S1.sub _ _ hs), k _ _ _ _ _ q sm S1 (walkD_enum (SqL.of hs) ra)⟩
  · exact q.elim⟩
def zipD (ds es : List D) : List D := (ds.zip es).map fun p => .tup [p.1, p.2]
theorem zipD_get {ds es : List D} {i : Nat} {c : D} (h : (zipD ds es)[i]? = some c) : ∃ d e, ds[i]? = some d ∧ es[i]? = some e ∧ c = .tup [d, e] := by
  unfold zipD at h
  rw [List.getElem?_map] at h
  cases q : (ds.zip es)[i]? with
  | none => rw [q] at h; cases h
  | some p =>
    rw [q] at h
    simp at h
    obtain ⟨h1, h2⟩ := List.getElem?_zip_eq_some.mp q
    exact ⟨p.1, p.2, h1, h2, h.symm⟩
theorem zipD_len {ds es : List D} : (zipD ds es).length = min ds.length es.length := by simp [zipD]
theorem walkD_zip {a b : Addr} {vs us : List V} {ds es : List D} (h : SqL B.K G1 a vs) (r : RpAll B.W G1 vs ds) (h' : SqL B.K G1 b us) (r' : RpAll B.W G1 us es) : WalkD B (Itz B.K a b) G1 (zipD ds es) := fun H0 G γ σ H sm S => by
  have hs : SqL B.K H a vs := S.sub.seq (sm.seq h)
  have hs' : SqL B.K H b us := S.sub.seq (sm.seq h')
  refine ⟨⟨vs, us, hs, hs', by rw [zipD_len, r.len, r'.len]; omega⟩, fun i c hc => ?_⟩
  obtain ⟨d, e, hd, he, rfl⟩ := zipD_get hc
  obtain ⟨v, hv, rv⟩ := r.get hd
  obtain ⟨u, hu, ru⟩ := r'.get he
  refine ⟨⟨vs, us, v, u, hs, hs', hv, hu⟩, fun x H' y => ?_⟩
  obtain ⟨T, x', y', h1, h2, h3, h4, h5⟩ := y
  have e1 := h4 vs hs
  rw [hv] at e1
  cases e1
  have e2 := h5 us hs'
  rw [hu] at e2
  cases e2
  subst h1 h3
  exact pair_step (B := withH B H0) S (rv.mono sm) (ru.mono sm) h2
theorem walkD_zipT {a b : Addr} {vs us : List V} {ds es : List D} (h : SqT B.K G1 a vs) (r : RpAll B.W G1 vs ds) (h' : SqT B.K G1 b us) (r' : RpAll B.W G1 us es) : WalkD B (RZ.ItzT B.K a b) G1 (zipD ds es) := fun H0 G γ σ H sm S => by
  have hs : SqT B.K H a vs := sqT_mono S.sub (sqT_mono sm h)
  have hs' : SqT B.K H b us := sqT_mono S.sub (sqT_mono sm h')
  refine ⟨⟨vs, us, hs, hs', by rw [zipD_len, r.len, r'.len]; omega⟩, fun i c hc => ?_⟩
  obtain ⟨d, e, hd, he, rfl⟩ := zipD_get hc
  obtain ⟨v, hv, rv⟩ := r.get hd
  obtain ⟨u, hu, ru⟩ := r'.get he
  refine ⟨⟨vs, us, v, u, hs, hs', hv, hu⟩, fun x H' y => ?_⟩
  obtain ⟨T, x', y', h1, h2, h3, h4, h5⟩ := y
  have e1 := h4 vs hs
  rw [hv] at e1
  cases e1
  have e2 := h5 us hs'
  rw [hu] at e2
  cases e2
  subst h1 h3
  exact pair_step (B := withH B H0) S (rv.mono sm) (ru.mono sm) h2
/-- both lists, or both tuples -/
def iZipD (t : DA) : DA := fun γ R => t γ fun ds γ1 => match ds with
  | [.lst xs, .lst ys] => R (zipD xs ys) γ1
  | [.tup xs, .tup ys] => R (zipD xs ys) γ1
  | _ => False
theorem i_zip {tg it : Expr} {t : DA} (h : PI X tg it (RZ.iZipA B.K (tDA B t))) : PI X tg it (tDI B (iZipD t)) := pi_imp h fun σ H R' ⟨G, γ, R, S, h, k⟩ => ⟨G, γ, _, S, h, fun ds γ1 G1 vs H1 q sm S1 r => by
  split at q
  · cases r with
    | cons r1 r2 =>
      cases r2 with
      | cons r2 r3 =>
        cases r3
        cases r1 with
        | lst hs ra =>
          cases r2 with
          | lst hs' ra' => exact ⟨_, _, _, _, rfl, .inl ⟨SqL.of (S1.sub _ _ hs), SqL.of (S1.sub _ _ hs'), k _ _ _ _ _ q sm S1 (walkD_zip (SqL.of hs) ra (SqL.of hs') ra')⟩⟩
  · cases r with
    | cons r1 r2 =>
      cases r2 with
      | cons r2 r3 =>
        cases r3
        cases r1 with
        | tup hs ra =>
          cases r2 with
          | tup hs' ra' => exact ⟨_, _, _, _, rfl, .inr ⟨hs.sq S1.sub, hs'.sq S1.sub, k _ _ _ _ _ q sm S1 (walkD_zipT (hs.sq0) ra (hs'.sq0) ra')⟩⟩
  · exact q.elim⟩
/-! ### for -/
def forD (b : BdT) (s : DS) (E : DEnds) : List D → Gm → Prop
  | [], γ => E.nx γ
  | d :: ds, γ => b d γ fun γ1 => s { nx := forD b s E ds, ct := forD b s E ds, bk := E.nx, rt := E.rt } γ1
def sFor (t : DA) (b : BdT) (s : DS) : DS := fun E γ => t γ fun ds γ1 => forD b s E ds γ1
theorem s_for {vs : List Nat} {t : DA} {bd : BdT} (h : PS X st (tFor (tDI B t) (tDG B vs bd) (tDS B s))) : PS X st (tDS B (sFor t bd s)) := ps_imp h fun D σ H ⟨G, γ, E, S, h, F⟩ => by
  refine ⟨G, γ, _, S, h, fun ds γ1 G1 H1 J q sm S1 w => ?_⟩
  refine ⟨fun i m σ H => ∃ G γ, m = ds.length - i ∧ i ≤ ds.length ∧ Same G1 G ∧ DstG B G γ σ H ∧ forD bd s E (ds.drop i) γ, ⟨_, G1, γ1, rfl, Nat.zero_le _, Same.refl _, S1, q⟩, ?_⟩
  rintro i m σ2 H2 ⟨G2, γ2, rfl, hi, sm2, S2, q2⟩
  obtain ⟨w1, w2⟩ := w B.H0 G2 γ2 σ2 H2 sm2 S2
  by_cases hlt : i < ds.length
  · right
    have hd : ds[i]? = some ds[i] := List.getElem?_eq_getElem hlt
    obtain ⟨g, y⟩ := w2 i _ hd
    rw [List.drop_eq_getElem_cons hlt] at q2
    refine ⟨g, fun σ' H' => ∃ G γ, Same G1 G ∧ DstG B G γ σ' H' ∧ forD bd s E (ds.drop (i + 1)) γ, fun σ' H' ⟨G3, γ3, s3, S3, q3⟩ => ⟨ds.length - (i + 1), by omega, G3, γ3, rfl, hlt, s3, S3, q3⟩, fun x H' yy => ?_⟩
    obtain ⟨G3, s3, S3, r3⟩ := y x H' yy
    refine ⟨G3, γ2, _, _, S3, r3, q2, fun γ4 σ4 q4 S4 _ => ?_⟩
    have s13 : Same G1 G3 := sm2.trans s3
    refine ⟨G3, γ4, _, S4, q4, ⟨fun γ5 G5 σ5 H5 q5 s5 S5 => ⟨G5, γ5, s13.trans s5, S5, q5⟩, fun d γ5 G5 σ5 v H5 q5 s5 S5 r5 => F.rt _ _ _ _ _ _ q5 (sm.trans (s13.trans s5)) S5 r5, fun γ5 G5 σ5 H5 q5 s5 S5 => F.nx _ _ _ _ q5 (sm.trans (s13.trans s5)) S5, fun γ5 G5 σ5 H5 q5 s5 S5 => ⟨G5, γ5, s13.trans s5, S5, q5⟩⟩⟩
  · left
    have e : i = ds.length := by omega
    subst e
    rw [List.drop_length] at q2
    exact ⟨w1, F.nx _ _ _ _ q2 (sm.trans sm2) S2⟩
/-! ### while -/
def sWhile (c : DB) (s : DS) : DS := fun E γ => ∃ W : Nat → Gm → Prop, (∃ m, W m γ) ∧ ∀ m γ, W m γ → c γ fun p γ1 =>
  (p → s { nx := fun γ' => ∃ m', m' < m ∧ W m' γ', ct := fun γ' => ∃ m', m' < m ∧ W m' γ', bk := E.nx, rt := E.rt } γ1) ∧ (¬p → E.nx γ1)
theorem s_while {c : DB} (h : PS X st (tWhile (tDB B c) (tDS B s))) : PS X st (tDS B (sWhile c s)) := ps_imp h fun D σ H ⟨G, γ, E, S, ⟨W, ⟨m0, w0⟩, turn⟩, F⟩ => by
  refine ⟨fun m σ H => ∃ G1 γ, Same G G1 ∧ DstG B G1 γ σ H ∧ W m γ, ⟨m0, G, γ, Same.refl _, S, w0⟩, ?_⟩
  rintro m σ2 H2 ⟨G2, γ2, s2, S2, w2⟩
  refine ⟨G2, γ2, _, S2, turn m γ2 w2, fun p b γ3 G3 H3 ⟨h1, h2⟩ hp s3 S3 => ?_⟩
  cases b with
  | true =>
    rw [if_pos rfl]
    refine ⟨fun σ' H' => ∃ m', m' < m ∧ ∃ G1 γ, Same G G1 ∧ DstG B G1 γ σ' H' ∧ W m' γ, fun σ' H' z => z, G3, γ3, _, S3, h1 (hp.mp rfl), ?_⟩
    exact ⟨fun γ5 G5 σ5 H5 ⟨m', l, q5⟩ s5 S5 => ⟨m', l, G5, γ5, s2.trans (s3.trans s5), S5, q5⟩, fun d γ5 G5 σ5 v H5 q5 s5 S5 r5 => F.rt _ _ _ _ _ _ q5 (s2.trans (s3.trans s5)) S5 r5,
      fun γ5 G5 σ5 H5 q5 s5 S5 => F.nx _ _ _ _ q5 (s2.trans (s3.trans s5)) S5, fun γ5 G5 σ5 H5 ⟨m', l, q5⟩ s5 S5 => ⟨m', l, G5, γ5, s2.trans (s3.trans s5), S5, q5⟩⟩
  | false =>
    rw [if_neg Bool.false_ne_true]
    exact F.nx _ _ _ _ (h2 fun z => nomatch hp.mpr z) (s2.trans s3) S3
end
end EL
namespace EL
open PySem PySem.Spec PyProof.Rows L2
/-! ### defs: what a call comes to -/
abbrev FD := List D → (D → Prop) → (Nat → List D → Prop) → Prop
/-- an exception, as it leaves: its class, its own dict where it has one -/
def XAt (W : Cw) (G H : Hp) (n : Nat) (fs : List D) (cv : Value) (o : Option Addr) : Prop :=
  ∃ C ns, W.cl n = some (C, ns) ∧ cv = .ref C ∧ ((fs = [] ∧ ns = [] ∧ o = none) ∨ ∃ d vs, o = some d ∧ H d = some (.xd (ns.zip vs)) ∧ vs.length = ns.length ∧ RpAll W G vs fs)
def noX : Nat → List D → Prop := fun _ _ => False
/-- K: the written part; cl: the classes; DkF: the deck's word by how many draws there were; c: how many draws it makes at most; n: how many arguments -/
def spD (K : PySem.W.Frag) (cl : Nat → Option (Addr × List Str)) (DkF : Nat → Hp → Addr → Addr → Prop) (c n : Nat) (F : FD) : Sp := fun vs H Q E => ∃ (m : Nat) (dk : Option (Addr × Addr)) (G : Hp) (ds : List D) (R : D → Prop) (xc : Nat → List D → Prop), m + c ≤ 2 ^ 50 ∧ (∀ m, DkLaw (DkF m)) ∧ (∀ m m' H d c, m ≤ m' → DkF m H d c → DkF m' H d c) ∧
  (∀ d c, dk = some (d, c) → DkF m H d c ∧ G d = none ∧ G c = none) ∧ Same G H ∧ (∀ p xs, H p = some (.tup xs) → G p = some (.tup xs)) ∧ RpAll ⟨dk, cl, K⟩ G vs ds ∧ ds.length = n ∧ F ds R xc ∧
  (∀ d v G' H', R d → Same G G' → Same G' H' → (∀ p xs, H' p = some (.tup xs) → G' p = some (.tup xs)) → (∀ p, H p ≠ none → G p = none → G' p = none) → Kp ⟨dk, cl, K⟩ H H' → (∀ d e, dk = some (d, e) → DkF (m + c) H' d e) → Rp ⟨dk, cl, K⟩ G' v d → Q v H') ∧
  ∀ n fs cv o G' H', xc n fs → Same G G' → Same G' H' → (∀ p xs, H' p = some (.tup xs) → G' p = some (.tup xs)) → (∀ p, H p ≠ none → G p = none → G' p = none) → Kp ⟨dk, cl, K⟩ H H' → (∀ d e, dk = some (d, e) → DkF (m + c) H' d e) → XAt ⟨dk, cl, K⟩ G' H' n fs cv o → E cv o H'
theorem spD_len {K : PySem.W.Frag} {cl : Nat → Option (Addr × List Str)} {DkF : Nat → Hp → Addr → Addr → Prop} {c n m : Nat} {F : FD} (h : n = m) : ∀ vs H Q E, spD K cl DkF c n F vs H Q E → vs.length = m := by
  rintro vs H Q E ⟨_, dk, G, ds, R, xc, _, _, _, _, _, _, r, hl, _⟩
  rw [r.len, hl, h]
/-- what is raised under B is what leaves the def -/
def XOk (B : Bs) : Prop := ∀ n fs cv o G γ σ H, B.xc n fs → DstG B G γ σ H → XAt B.W G H n fs cv o → B.E cv o H
/-- B's deck is the callee's, behind some draws -/
def DkIs (B : Bs) (DkF : Nat → Hp → Addr → Addr → Prop) : Prop := ∃ m, m + B.cost ≤ 2 ^ 50 ∧ B.DkAt = fun k => DkF (m + k)
/-- what is known of the deck's word, for calls -/
structure DkK (B : Bs) (DkF : Nat → Hp → Addr → Addr → Prop) : Prop where
  is : DkIs B DkF
  law : ∀ m, DkLaw (DkF m)
  up : ∀ m m' H d c, m ≤ m' → DkF m H d c → DkF m' H d c
def startL (N n : Nat) (ds : List D) : GL := ds.map Sl.fz ++ List.replicate (N - n) .un
def startG (N n : Nat) (ds : List D) : Gm := ⟨startL N n ds, 0⟩
theorem start_ok {W : Cw} {DkAt : Nat → Hp → Addr → Addr → Prop} {G H : Hp} {N : List Str} {vs : List V} {ds : List D} {xc : Nat → List D → Prop} {E : XK} {cost : Nat} (L : ∀ m, DkLaw (DkAt m)) (up : ∀ m m' H d c, m ≤ m' → DkAt m H d c → DkAt m' H d c) (hd : ∀ d c, W.dk = some (d, c) → DkAt 0 H d c ∧ G d = none ∧ G c = none) (sm : Same G H) (tu : ∀ p xs, H p = some (.tup xs) → G p = some (.tup xs)) (r : RpAll W G vs ds) :
    Dst ⟨W, DkAt, H, G, xc, E, cost⟩ 0 G (startL N.length ds.length ds) (L2.start N vs) H where
  law := L
  le := Nat.zero_le _
  up := up
  sub := sm
  sub0 := Same.refl _
  kept := Kp.refl
  fresh := fun p _ h => h
  tups := tu
  dkok := fun d c e => by
    obtain ⟨h1, h2, h3⟩ := hd d c e
    obtain ⟨t1, t2⟩ := (L _).there _ _ _ h1
    exact ⟨h1, t1, t2, h2, h3⟩
  len := by simp [L2.start, startL, r.len]
  slot := fun i s e => by
    unfold startL at e
    unfold L2.start
    by_cases l : i < ds.length
    · rw [List.getElem?_append_left (by rw [List.length_map]; exact l), List.getElem?_map] at e
      have hd : ds[i]? = some ds[i] := List.getElem?_eq_getElem l
      rw [hd] at e
      obtain ⟨v, hv, rv⟩ := r.get hd
      cases e
      refine ⟨some v, ?_, v, rfl, rv⟩
      rw [List.getElem?_append_left (by rw [List.length_map, r.len]; exact l), List.getElem?_map, hv]
      rfl
    · rw [List.getElem?_append_right (by rw [List.length_map]; omega)] at e
      rw [List.getElem?_append_right (by rw [List.length_map, r.len]; omega)]
      rw [List.getElem?_replicate] at e ⊢
      rw [List.length_map] at e ⊢
      rw [r.len]
      split at e
      · cases e
        rw [if_pos (by assumption)]
        exact ⟨none, rfl, trivial⟩
      · cases e
  off := fun i s p e hp => by
    exfalso
    have := List.mem_of_getElem? e
    rcases List.mem_append.mp this with h | h
    · obtain ⟨d, _, z⟩ := List.mem_map.mp h
      subst z
      cases hp
    · have := List.eq_of_mem_replicate h
      subst this
      cases hp
  nd := fun i j p s t e _ hp _ => by
    exfalso
    have := List.mem_of_getElem? e
    rcases List.mem_append.mp this with h | h
    · obtain ⟨d, _, z⟩ := List.mem_map.mp h
      subst z
      cases hp
    · have := List.eq_of_mem_replicate h
      subst this
      cases hp
/-- a def by its body's data reading -/
theorem bodyD {X : Cx} {K : PySem.W.Frag} {cl : Nat → Option (Addr × List Str)} {DkF : Nat → Hp → Addr → Addr → Prop} {c n : Nat} {F : FD} {N : List Str} {vs : List V} {H : Hp} {Q : VK} {E : XK} {body : List Stmt} {s : (Nat → List D → Prop) → DS} (h : spD K cl DkF c n F vs H Q E)
    (der : ∀ dk G xc DkAt, XOk ⟨⟨dk, cl, K⟩, DkAt, H, G, xc, E, c⟩ → DkK ⟨⟨dk, cl, K⟩, DkAt, H, G, xc, E, c⟩ DkF → PSs X body (tDS ⟨⟨dk, cl, K⟩, DkAt, H, G, xc, E, c⟩ (s xc)))
    (rd : ∀ ds R xc, ds.length = n → F ds R xc → s xc ⟨fun _ => R .non, fun d _ => R d, fun _ => False, fun _ => False⟩ (startG N.length n ds)) :
    ∃ t, PSs X body t ∧ t { nx := fun _ H' => Q .non H', rt := Q } (L2.start N vs) H := by
  obtain ⟨m, dk, G, ds, R, xc, hm, L, up, hd, sm, tu, r, hl, hF, k, kx⟩ := h
  subst hl
  have L' : ∀ k, DkLaw (DkF (m + k)) := fun k => L _
  have up' : ∀ k k' H d c, k ≤ k' → DkF (m + k) H d c → DkF (m + k') H d c := fun k k' H d c h => up _ _ H d c (by omega)
  refine ⟨_, der dk G xc (fun k => DkF (m + k)) ?_ ⟨⟨m, hm, rfl⟩, L, up⟩, G, _, _, start_ok L' up' hd sm tu r, rd ds R xc rfl hF, ?_⟩
  · exact fun n fs cv o G' γ σ H' q S x => kx n fs cv o G' H' q S.sub0 S.sub S.tups S.fresh S.kept (fun d e z => up _ _ _ _ _ (Nat.add_le_add_left S.le m) (S.dkok d e z).1) x
  have out : ∀ d v G' H' γ σ, R d → DstG ⟨⟨dk, cl, K⟩, fun k => DkF (m + k), H, G, xc, E, c⟩ G' γ σ H' → Rp ⟨dk, cl, K⟩ G' v d → Q v H' := fun d v G' H' γ σ hR S rv =>
    k d v G' H' hR S.sub0 S.sub S.tups S.fresh S.kept (fun d e z => up _ _ _ _ _ (Nat.add_le_add_left S.le m) (S.dkok d e z).1) rv
  exact ⟨fun γ G' σ H' q s S => out _ _ _ _ _ _ q S .non, fun d γ G' σ v H' q s S r => out _ _ _ _ _ _ q S r, fun _ _ _ _ q => q.elim, fun _ _ _ _ q => q.elim⟩
section
variable {X : Cx} {B : Bs} {G G' G1 : Hp} {γ γ' : Gm} {σ : L2.St} {H H' : Hp} {e a b : Expr} {ta tb t : DT} {pos : Pos} {st : Stmt}
/-- more draws -/
def plusC (γ : Gm) (c : Nat) : Gm := ⟨γ.sl, γ.ct + c⟩
/-- behind a call -/
theorem Dst.after {m m' : Nat} {γ : GL} (S : Dst B m G γ σ H) (hm : m' ≤ B.cost) (s1 : Same G G') (s2 : Same G' H') (tu : ∀ p xs, H' p = some (.tup xs) → G' p = some (.tup xs)) (fr : ∀ p, H p ≠ none → G p = none → G' p = none) (kp : Kp B.W H H') (hd : ∀ d c, B.W.dk = some (d, c) → B.DkAt m' H' d c) : Dst B m' G' γ σ H' := by
  refine S.heapsC hm s1 s2 (fun b o _ e z => kp b o e z) (fun p h0 g0 => ?_) tu hd fun i s p e hp => ?_
  · refine fr p ?_ (S.fresh p h0 g0)
    by_cases z : ∀ d c, B.W.dk = some (d, c) → p ≠ d ∧ p ≠ c
    · cases q : B.H0 p with
      | none => exact absurd q h0
      | some o => rw [S.kept p o q z]; exact fun z => nomatch z
    · intro hp
      apply z
      intro d c e
      obtain ⟨t1, t2⟩ := (S.law _).there _ _ _ (S.dkok d c e).1
      exact ⟨fun z => t1 (z ▸ hp), fun z => t2 (z ▸ hp)⟩
  · obtain ⟨h0, hg⟩ := S.off i s p e hp
    obtain ⟨o, _, h2⟩ := S.slot i s e
    rcases h2.there p hp with ⟨xs, h⟩ | ⟨xs, h⟩ | ⟨xs, h⟩
    · exact ⟨by rw [h]; exact kp p _ h (S.offdk h0), fr p (by rw [h]; exact fun z => nomatch z) hg⟩
    · exact ⟨by rw [h]; exact kp p _ h (S.offdk h0), fr p (by rw [h]; exact fun z => nomatch z) hg⟩
    · exact ⟨by rw [h]; exact kp p _ h (S.offdk h0), fr p (by rw [h]; exact fun z => nomatch z) hg⟩
theorem sp_run {DkF : Nat → Hp → Addr → Addr → Prop} {c n : Nat} {F : FD} {vs : List V} {ds : List D} {R : D → Prop} {xc : Nat → List D → Prop} {Q : VK} {E : XK} (hB : DkIs B DkF) (L : ∀ m, DkLaw (DkF m)) (up : ∀ m m' H d c, m ≤ m' → DkF m H d c → DkF m' H d c) (S : DstG B G γ σ H) (hc : γ.ct + c ≤ B.cost) (r : RpAll B.W G vs ds) (hl : ds.length = n) (hF : F ds R xc)
    (k : ∀ d G' v H', R d → Same G G' → DstG B G' (plusC γ c) σ H' → Rp B.W G' v d → Q v H') (kx : ∀ n fs cv o G' H', xc n fs → Same G G' → DstG B G' (plusC γ c) σ H' → XAt B.W G' H' n fs cv o → E cv o H') : spD B.K B.W.cl DkF c n F vs H Q E := by
  obtain ⟨m0, hb, hm⟩ := hB
  have at1 : ∀ k H d c, B.DkAt k H d c ↔ DkF (m0 + k) H d c := fun k H d c => by rw [hm]
  refine ⟨m0 + γ.ct, B.W.dk, G, ds, R, xc, by omega, L, up, fun d e z => ?_, S.sub, S.tups, r, hl, hF, fun d v G' H' hR s1 s2 tu fr kp hd rv => k d G' v H' hR s1 (S.after hc s1 s2 tu fr kp fun d e z => (at1 _ _ _ _).mpr (by have := hd d e z; rw [Nat.add_assoc] at this; exact this)) rv,
    fun n fs cv o G' H' hx s1 s2 tu fr kp hd x => kx n fs cv o G' H' hx s1 (S.after hc s1 s2 tu fr kp fun d e z => (at1 _ _ _ _).mpr (by have := hd d e z; rw [Nat.add_assoc] at this; exact this)) x⟩
  exact ⟨(at1 _ _ _ _).mp (S.dkok d e z).1, S.gdk d e z⟩
theorem DkK.withH {B : Bs} {DkF : Nat → Hp → Addr → Addr → Prop} (h : DkK B DkF) (H0 : Hp) : DkK (withH B H0) DkF := ⟨h.is, h.law, h.up⟩
/-- a def that draws nothing -/
def dCall (n : Nat) (F : FD) (xc : Nat → List D → Prop) (ta : DA) : DT := fun γ R => ta γ fun ds γ1 => ds.length = n ∧ F ds (fun d => R d γ1) xc
/-- one that draws at most c times -/
def dCallC (c n : Nat) (F : FD) (cost : Nat) (xc : Nat → List D → Prop) (ta : DA) : DT := fun γ R => ta γ fun ds γ1 => ds.length = n ∧ γ1.ct + c ≤ cost ∧ F ds (fun d => R d (plusC γ1 c)) xc
variable {DkF : Nat → Hp → Addr → Addr → Prop}
theorem plus0 {γ : Gm} : plusC γ 0 = γ := rfl
theorem d_callC (hB : DkK B DkF) {c n : Nat} {F : FD} {ta : DA} {E : XK} (h : PE X e (tCall (spD B.K B.W.cl DkF c n F) [] E (tDA B ta))) : PE X e (tD B (dCallC c n F B.cost noX ta)) := pe_imp h fun σ H Q ⟨G, γ, R, S, h, k⟩ =>
  ⟨G, γ, _, S, h, fun ds γ1 G1 vs H1 ⟨hl, hc, hF⟩ sm S1 r => by
    show spD B.K B.W.cl DkF c n F (vs ++ []) H1 Q E
    rw [List.append_nil]
    exact sp_run hB.is hB.law hB.up S1 hc r hl hF (fun d G' v H' hR s' S' r' => k _ _ _ _ _ hR (sm.trans s') S' r') fun _ _ _ _ _ _ z => z.elim⟩
theorem d_call (hB : DkK B DkF) {n : Nat} {F : FD} {ta : DA} {E : XK} (h : PE X e (tCall (spD B.K B.W.cl DkF 0 n F) [] E (tDA B ta))) : PE X e (tD B (dCall n F noX ta)) := pe_imp h fun σ H Q ⟨G, γ, R, S, h, k⟩ =>
  ⟨G, γ, _, S, h, fun ds γ1 G1 vs H1 ⟨hl, hF⟩ sm S1 r => by
    show spD B.K B.W.cl DkF 0 n F (vs ++ []) H1 Q E
    rw [List.append_nil]
    exact sp_run (c := 0) hB.is hB.law hB.up S1 S1.le r hl hF (fun d G' v H' hR s' S' r' => k _ _ _ _ _ hR (sm.trans s') S' r') fun _ _ _ _ _ _ z => z.elim⟩
theorem d_call0 (hB : DkK B DkF) {n : Nat} {F : FD} {E : XK} (h : PE X e (tCall (spD B.K B.W.cl DkF 0 n F) [] E tNil)) : PE X e (tD B (dCall n F noX aNil)) := pe_imp h fun σ H Q ⟨G, γ, R, S, ⟨hl, hF⟩, k⟩ =>
  sp_run (c := 0) hB.is hB.law hB.up S S.le .nil hl hF (fun d G' v H' hR s' S' r' => k _ _ _ _ _ hR s' S' r') fun _ _ _ _ _ _ z => z.elim
/-- one that may raise: what it lets out leaves here, too -/
theorem d_callX (hB : DkK B DkF) {c n : Nat} {F : FD} {ta : DA} (hx : XOk B) (h : PE X e (tCall (spD B.K B.W.cl DkF c n F) [] B.E (tDA B ta))) : PE X e (tD B (dCallC c n F B.cost B.xc ta)) := pe_imp h fun σ H Q ⟨G, γ, R, S, h, k⟩ =>
  ⟨G, γ, _, S, h, fun ds γ1 G1 vs H1 ⟨hl, hc, hF⟩ sm S1 r => by
    show spD B.K B.W.cl DkF c n F (vs ++ []) H1 Q B.E
    rw [List.append_nil]
    exact sp_run hB.is hB.law hB.up S1 hc r hl hF (fun d G' v H' hR s' S' r' => k _ _ _ _ _ hR (sm.trans s') S' r') fun n fs cv o G' H' z s' S' x => hx n fs cv o G' (plusC γ1 c) _ H' z S' x⟩
/-- a method of an instance of class c -/
def dMeth (k n : Nat) (F : FD) (xc : Nat → List D → Prop) (to : DT) (ta : DA) : DT := fun γ R => to γ fun d γ1 => match d with
  | .obj c' fs => c' = k ∧ ta γ1 fun ds γ2 => (D.obj c' fs :: ds).length = n ∧ F (D.obj c' fs :: ds) (fun r => R r γ2) xc
  | _ => False
theorem lookup_zip {ns : List Str} {vs : List V} {m : Str} (h : ns.contains m = false) : (ns.zip vs).lookup m = none := by
  induction ns generalizing vs with
  | nil => rfl
  | cons x ns ih =>
    cases vs with
    | nil => rfl
    | cons v vs =>
      rw [List.contains_cons, Bool.or_eq_false_iff] at h
      rw [List.zip_cons_cons, List.lookup_cons, h.1]
      exact ih h.2
theorem d_meth (hB : DkK B DkF) {C : Addr} {m : Str} {kc n : Nat} {ns : List Str} {F : FD} {ta : DA} {E : XK} (hc : B.W.cl kc = some (C, ns)) (hm : ns.contains m = false) (h : PE X e (tMeth C m (spD B.K B.W.cl DkF 0 n F) [] E (tD B t) (tDA B ta))) : PE X e (tD B (dMeth kc n F noX t ta)) := pe_imp h fun σ H Q ⟨G, γ, R, S, h, k⟩ =>
  ⟨G, γ, _, S, h, fun d γ1 G1 v H1 q sm S1 r => by
    split at q
    · obtain ⟨e, h2⟩ := q
      subst e
      have r0 := r
      cases r with
      | obj hC hl hv ra =>
        rw [hc] at hC
        cases hC
        refine ⟨_, _, _, rfl, S1.sub _ _ hv, lookup_zip hm, G1, γ1, _, S1, h2, fun ds γ2 G2 vs H2 ⟨hl, hF⟩ sm2 S2 r2 => ?_⟩
        show spD B.K B.W.cl DkF 0 n F (_ :: (vs ++ [])) H2 Q E
        rw [List.append_nil]
        exact sp_run (c := 0) hB.is hB.law hB.up S2 S2.le (.cons (r0.mono sm2) r2) hl hF (fun d G' v H' hR s' S' r' => k _ _ _ _ _ hR (sm.trans (sm2.trans s')) S' r') fun _ _ _ _ _ _ z => z.elim
    · exact q.elim⟩
theorem d_meth0 (hB : DkK B DkF) {C : Addr} {m : Str} {kc n : Nat} {ns : List Str} {F : FD} {E : XK} (hc : B.W.cl kc = some (C, ns)) (hm : ns.contains m = false) (h : PE X e (tMeth C m (spD B.K B.W.cl DkF 0 n F) [] E (tD B t) tNil)) : PE X e (tD B (dMeth kc n F noX t aNil)) := pe_imp h fun σ H Q ⟨G, γ, R, S, h, k⟩ =>
  ⟨G, γ, _, S, h, fun d γ1 G1 v H1 q sm S1 r => by
    split at q
    · obtain ⟨e, hl, hF⟩ := q
      subst e
      have r0 := r
      cases r with
      | obj hC hl' hv ra =>
        rw [hc] at hC
        cases hC
        refine ⟨_, _, _, rfl, S1.sub _ _ hv, lookup_zip hm, ?_⟩
        exact sp_run (c := 0) hB.is hB.law hB.up S1 S1.le (.cons r0 .nil) hl hF (fun d G' v H' hR s' S' r' => k _ _ _ _ _ hR (sm.trans s') S' r') fun _ _ _ _ _ _ z => z.elim
    · exact q.elim⟩
/-- a promise by addresses, told by data -/
theorem fn_conv {P : Program} {w : World} {K : PySem.W.Frag} {mg : Str → Option Value} {base : Heap} {CX : CXT} {k : Nat} {f : Addr} {fd : FuncData} {ps : List Str} {sp sp' : Sp} (h : FnOk P w K mg base CX k f fd ps sp) (c : ∀ vs H Q E, sp' vs H Q E → sp vs H Q E) : FnOk P w K mg base CX k f fd ps sp' := h.imp c
/-! ### items, lengths, slices -/
def ixF : F2 := fun d e R => match d, e with
  | .tup ds, .int i => ∃ c, atI ds i = some c ∧ R c
  | .lst ds, .int i => ∃ c, atI ds i = some c ∧ R c
  | .str z, .int i => z.length ≤ 1000000 ∧ ∃ c, atI z.cps.toList i = some c ∧ R (.str ⟨#[c]⟩)
  | _, _ => False
theorem atI_len {vs : List V} {ds : List D} {W : Cw} (r : RpAll W G vs ds) {i : Int} {c : D} (h : atI ds i = some c) : ∃ v, atI vs i = some v ∧ Rp W G v c := by
  unfold atI at h ⊢
  rw [r.len]
  cases q : ixN ds.length i with
  | none => rw [q] at h; cases h
  | some j =>
    rw [q] at h
    exact r.get h
theorem ok_ix (hK : X.K = B.K) : OkR2 B (rIx X.K) ixF := by
  intro G γ σ H x y d e R Q S rx ry h1 k
  rw [hK]
  unfold ixF at h1
  split at h1
  · obtain ⟨c, h1, h2⟩ := h1
    cases rpInt ry
    cases rx with
    | tup hs ra =>
      obtain ⟨v, hv, rv⟩ := atI_len ra h1
      exact .inr (.inl ⟨_, _, _, v, rfl, rfl, hs.sq S.sub, hv, k _ _ _ _ h2 (Same.refl _) S rv⟩)
  · obtain ⟨c, h1, h2⟩ := h1
    cases rpInt ry
    cases rx with
    | lst hs ra =>
      obtain ⟨v, hv, rv⟩ := atI_len ra h1
      exact .inl ⟨_, _, _, v, rfl, rfl, SqL.of (S.sub _ _ hs), hv, k _ _ _ _ h2 (Same.refl _) S rv⟩
  · obtain ⟨hz, c, h1, h2⟩ := h1
    cases rpInt ry
    cases rpStr rx
    exact .inr (.inr ⟨_, _, c, rfl, rfl, sz_ok hz, h1, k _ _ _ _ h2 (Same.refl _) S (.str _)⟩)
  · exact h1.elim
theorem d_item (hK : X.K = B.K) (ha : PE X a (tD B ta)) (hb : PE X b (tD B tb)) (hs : PlainIx b) : PE X (.Subscript a b pos) (tD B (dOp ixF ta tb)) := d_ix ix_seq (ok_ix hK) ha hb hs
/-! ### calls by values -/
abbrev FC := List D → (D → Prop) → Prop
def OkRC (B : Bs) (r : List V → Hp → VK → Prop) (f : FC) : Prop := ∀ G γ σ H vs ds R Q, DstG B G γ σ H → RpAll B.W G vs ds → f ds R →
  (∀ c G' v H', R c → Same G G' → DstG B G' γ σ H' → Rp B.W G' v c → Q v H') → r vs H Q
def dCB (f : FC) (ta : DA) : DT := fun γ R => ta γ fun ds γ1 => f ds fun c => R c γ1
theorem d_cb {r : List V → Hp → VK → Prop} {f : FC} {ta : DA} (hr : OkRC B r f) (h : PE X e (tCB r (tDA B ta))) : PE X e (tD B (dCB f ta)) := pe_imp h fun σ H Q ⟨G, γ, R, S, h, k⟩ =>
  ⟨G, γ, _, S, h, fun ds γ1 G1 vs H1 hf sm S1 r1 => hr _ _ _ _ _ _ _ _ S1 r1 hf fun c G' v H' hc s' S' r' => k _ _ _ _ _ hc (sm.trans s') S' r'⟩
def lenF : FC := fun ds R => match ds with
  | [.tup xs] => R (.int (xs.length : Nat))
  | [.lst xs] => R (.int (xs.length : Nat))
  | [.str z] => z.length ≤ 1000000 ∧ R (.int (z.length : Nat))
  | _ => False
def rLen (K : PySem.W.Frag) : List V → Hp → VK → Prop := fun xs H Q => (∃ p ys, xs = [.ref p] ∧ (SqL K H p ys ∨ SqT K H p ys) ∧ Q (.int ys.length) H) ∨ ∃ z, xs = [.str z] ∧ z.length ≤ sizeLine ∧ Q (.int z.length) H
theorem call_lenD : CallR X (.builtin "len") (rLen X.K) := CallR.or call_len_seq call_len_str
theorem ok_len (hK : X.K = B.K) : OkRC B (rLen X.K) lenF := by
  intro G γ σ H vs ds R Q S r h1 k
  rw [hK]
  unfold lenF at h1
  split at h1
  · cases r with
    | cons r1 r2 =>
      cases r2
      cases r1 with
      | tup hs ra =>
        refine .inl ⟨_, _, rfl, .inr (hs.sq S.sub), ?_⟩
        rw [ra.len]
        exact k _ _ _ _ h1 (Same.refl _) S (.int _)
  · cases r with
    | cons r1 r2 =>
      cases r2
      cases r1 with
      | lst hs ra =>
        refine .inl ⟨_, _, rfl, .inl (SqL.of (S.sub _ _ hs)), ?_⟩
        rw [ra.len]
        exact k _ _ _ _ h1 (Same.refl _) S (.int _)
  · cases r with
    | cons r1 r2 =>
      cases r2
      cases rpStr r1
      exact .inr ⟨_, rfl, sz_ok h1.1, k _ _ _ _ h1.2 (Same.refl _) S (.int _)⟩
  · exact h1.elim
def absF : FC := fun ds R => match ds with
  | [.int i] => R (.int (if i < 0 then -i else i))
  | _ => False
theorem ok_abs : OkRC B (fun xs H Q => ∃ i, xs = [.int i] ∧ Q (.int (if i < 0 then -i else i)) H) absF := by
  intro G γ σ H vs ds R Q S r h2 k
  unfold absF at h2
  split at h2
  · cases r with
    | cons r1 r2 =>
      cases r2
      cases rpInt r1
      exact ⟨_, rfl, k _ _ _ _ h2 (Same.refl _) S (.int _)⟩
  · exact h2.elim
def int1F : FC := fun ds R => match ds with
  | [.int i] => R (.int i)
  | [.bl b] => R (.int (if b then 1 else 0))
  | _ => False
theorem ok_int1 : OkRC B (fun xs H Q => (∃ i, xs = [.int i] ∧ Q (.int i) H) ∨ ∃ k, xs = [.bl k] ∧ Q (.int (if k then 1 else 0)) H) int1F := by
  intro G γ σ H vs ds R Q S r h2 k
  unfold int1F at h2
  split at h2
  · cases r with
    | cons r1 r2 =>
      cases r2
      cases rpInt r1
      exact .inl ⟨_, rfl, k _ _ _ _ h2 (Same.refl _) S (.int _)⟩
  · cases r with
    | cons r1 r2 =>
      cases r2
      cases rpBl r1
      exact .inr ⟨_, rfl, k _ _ _ _ h2 (Same.refl _) S (.int _)⟩
  · exact h2.elim
def min2F : FC := fun ds R => match ds with
  | [.int i, .int j] => R (.int (min i j))
  | _ => False
theorem ok_min2 : OkRC B (fun xs H Q => ∃ i j, xs = [.int i, .int j] ∧ Q (.int (if j < i then j else i)) H) min2F := by
  intro G γ σ H vs ds R Q S r h2 k
  unfold min2F at h2
  split at h2
  · rename_i i j
    cases r with
    | cons r1 r2 =>
      cases r2 with
      | cons r2 r3 =>
        cases r3
        cases rpInt r1
        cases rpInt r2
        refine ⟨_, _, rfl, ?_⟩
        have e : (if j < i then j else i) = min i j := by split <;> omega
        rw [e]
        exact k _ _ _ _ h2 (Same.refl _) S (.int _)
  · exact h2.elim
def max2F : FC := fun ds R => match ds with
  | [.int i, .int j] => R (.int (max i j))
  | _ => False
theorem ok_max2 : OkRC B (fun xs H Q => ∃ i j, xs = [.int i, .int j] ∧ Q (.int (if j > i then j else i)) H) max2F := by
  intro G γ σ H vs ds R Q S r h2 k
  unfold max2F at h2
  split at h2
  · rename_i i j
    cases r with
    | cons r1 r2 =>
      cases r2 with
      | cons r2 r3 =>
        cases r3
        cases rpInt r1
        cases rpInt r2
        refine ⟨_, _, rfl, ?_⟩
        have e : (if j > i then j else i) = max i j := by split <;> omega
        rw [e]
        exact k _ _ _ _ h2 (Same.refl _) S (.int _)
  · exact h2.elim
/-- tuple(list), tuple(tuple) -/
def tupF : FC := fun ds R => match ds with
  | [.lst es] => R (.tup es)
  | [.tup es] => R (.tup es)
  | _ => False
theorem ok_tupOf (hK : X.K = B.K) : OkRC B (fun xs H Q => ∃ p ys, xs = [.ref p] ∧ ((SqL X.K H p ys ∧ ∀ l, H l = none → Q (.ref l) (upd H l (.tup ys))) ∨ (SqT X.K H p ys ∧ Q (.ref p) H))) tupF := by
  intro G γ σ H vs ds R Q S r h2 k
  rw [hK]
  unfold tupF at h2
  split at h2
  · cases r with
    | cons r1 r2 =>
      cases r2
      cases r1 with
      | lst hs ra => exact ⟨_, _, rfl, .inl ⟨SqL.of (S.sub _ _ hs), fun l hl => by
          obtain ⟨G2, s2, S2, r2⟩ := S.newTup ra hl
          exact k _ _ _ _ h2 s2 S2 r2⟩⟩
  · cases r with
    | cons r1 r2 =>
      cases r2
      cases r1 with
      | tup hs ra => exact ⟨_, _, rfl, .inr ⟨hs.sq S.sub, k _ _ _ _ h2 (Same.refl _) S (.tup hs ra)⟩⟩
  · exact h2.elim
/-- list(list), list(tuple): new -/
def fListOf (ta : DA) : DA := fun γ R => ta γ fun ds γ1 => match ds with
  | [.lst es] => R es γ1
  | [.tup es] => R es γ1
  | _ => False
theorem f_listOf {ta : DA} (hK : X.K = B.K) (h : PE X e (tCB (fun xs H Q => ∃ p ys, xs = [.ref p] ∧ (SqL X.K H p ys ∨ SqT X.K H p ys) ∧ ∀ l, H l = none → Q (.ref l) (upd H l (.lst ys))) (tDA B ta))) : PE X e (tDF B (fListOf ta)) := pe_imp h fun σ H Q ⟨G, γ, R, S, h, k⟩ =>
  ⟨G, γ, _, S, h, fun ds γ1 G1 vs H1 q sm S1 r => by
    rw [hK]
    have fin : ∀ ys es, R es γ1 → RpAll B.W G1 ys es → ∀ l, H1 l = none → Q (.ref l) (upd H1 l (.lst ys)) := fun ys es h2 ra l hl => k _ _ _ _ _ _ h2 sm (S1.laid (fun _ z => nomatch z) hl) upd_same ra (S1.free0 hl) (S1.sub.free hl) (S1.noslot hl)
    split at q
    · cases r with
      | cons r1 r2 =>
        cases r2
        cases r1 with
        | lst hs ra => exact ⟨_, _, rfl, .inl (SqL.of (S1.sub _ _ hs)), fin _ _ q ra⟩
    · cases r with
      | cons r1 r2 =>
        cases r2
        cases r1 with
        | tup hs ra => exact ⟨_, _, rfl, .inr (hs.sq S1.sub), fin _ _ q ra⟩
    · exact q.elim⟩
/-! ### new lists by +, * -/
def fCatF (ta tb : DT) : DA := fun γ R => ta γ fun x γ1 => tb γ1 fun y γ2 => match x, y with
  | .lst ds, .lst es => ds.length + es.length ≤ 1000000 ∧ R (ds ++ es) γ2
  | _, _ => False
theorem f_cat (ha : PE X a (tD B ta)) (hb : PE X b (tD B tb)) : PE X (.BinOp a .Add b pos) (tDF B (fCatF ta tb)) := pe_imp (pe_op op_cat ha hb) fun σ H Q ⟨G, γ, R, S, h, k⟩ =>
  ⟨G, γ, _, S, h, fun x γ1 G1 v H1 h1 s1 S1 r1 => ⟨G1, γ1, _, S1, h1, fun y γ2 G2 u H2 q s2 S2 r2 => by
    split at q
    · obtain ⟨hl, h2⟩ := q
      cases r1 with
      | lst hs ra =>
        cases r2 with
        | lst hs' ra' =>
          refine ⟨_, _, _, _, rfl, rfl, S2.sub _ _ (s2 _ _ hs), S2.sub _ _ hs', by rw [ra.len, ra'.len]; exact sz_ok hl, fun p hp => ?_⟩
          exact k _ _ _ _ _ _ h2 (s1.trans s2) (S2.laid (fun _ z => nomatch z) hp) upd_same ((ra.mono s2).app ra') (S2.free0 hp) (S2.sub.free hp) (S2.noslot hp)
    · exact q.elim⟩⟩
def fRep (ta tb : DT) : DA := fun γ R => ta γ fun x γ1 => tb γ1 fun y γ2 => match x, y with
  | .lst ds, .int k => (-(2 ^ 62) ≤ k ∧ k < 2 ^ 62 ∧ ds.length * k.toNat ≤ 1000000) ∧ R (repD k ds) γ2
  | _, _ => False
theorem f_rep (ha : PE X a (tD B ta)) (hb : PE X b (tD B tb)) : PE X (.BinOp a .Mult b pos) (tDF B (fRep ta tb)) := pe_imp (pe_op op_rep ha hb) fun σ H Q ⟨G, γ, R, S, h, k⟩ =>
  ⟨G, γ, _, S, h, fun x γ1 G1 v H1 h1 s1 S1 r1 => ⟨G1, γ1, _, S1, h1, fun y γ2 G2 u H2 q s2 S2 r2 => by
    split at q
    · obtain ⟨⟨h0, h3, hl⟩, h2⟩ := q
      cases rpInt r2
      cases r1 with
      | lst hs ra =>
        refine ⟨_, _, _, rfl, rfl, S2.sub _ _ (s2 _ _ hs), by omega, by omega, by rw [ra.len]; exact sz_ok hl, fun p hp => ?_⟩
        exact k _ _ _ _ _ _ h2 (s1.trans s2) (S2.laid (fun _ z => nomatch z) hp) upd_same (rp_rep (ra.mono s2) _) (S2.free0 hp) (S2.sub.free hp) (S2.noslot hp)
    · exact q.elim⟩⟩
/-! ### fields -/
def dFld (c i : Nat) (t : DT) : DT := fun γ R => t γ fun d γ1 => match d with
  | .obj c' fs => c' = c ∧ ∃ x, fs[i]? = some x ∧ R x γ1
  | _ => False
theorem lookup_at {ns : List Str} {vs : List V} {f : Str} {i : Nat} {v : V} (hn : ns[i]? = some f) (nd : ns.Nodup) (hv : vs[i]? = some v) : (ns.zip vs).lookup f = some v := by
  induction ns generalizing vs i with
  | nil => simp at hn
  | cons x ns ih =>
    cases vs with
    | nil => simp at hv
    | cons u vs =>
      rw [List.nodup_cons] at nd
      rw [List.zip_cons_cons, List.lookup_cons]
      cases i with
      | zero =>
        simp at hn hv
        subst hn hv
        simp
      | succ i =>
        have hn' : ns[i]? = some f := by simpa using hn
        have hv' : vs[i]? = some v := by simpa using hv
        have : (f == x) = false := by
          rw [beq_eq_false_iff_ne]
          intro z
          subst z
          exact nd.1 (List.mem_of_getElem? hn')
        rw [this]
        exact ih hn' nd.2 hv'
theorem d_fld {C : Addr} {f : Str} {c i : Nat} {ns : List Str} (hK : X.K = B.K) (hc : B.W.cl c = some (C, ns)) (hi : ns[i]? = some f) (nd : ns.Nodup) (cl : Cls B.K C) (na : NoAttr B.K C f) (h : PE X a (tD B t)) (hb : attributeBase a f X.env (eval a X.env) = eval a X.env := by rfl) : PE X (.Attribute a f pos) (tD B (dFld c i t)) := pe_imp (pe_fld h hb) fun σ H Q ⟨G, γ, R, S, h, k⟩ =>
  ⟨G, γ, _, S, h, fun d γ1 G1 v H1 q sm S1 r => by
    rw [hK]
    split at q
    · obtain ⟨e, x, hx, h2⟩ := q
      subst e
      cases r with
      | obj hC hl hv ra =>
        rw [hc] at hC
        cases hC
        obtain ⟨u, hu, ru⟩ := ra.get hx
        exact ⟨_, C, _, _, u, rfl, S1.sub _ _ hv, cl, na, lookup_at hi nd hu, k _ _ _ _ _ h2 sm S1 ru⟩
    · exact q.elim⟩
/-! ### slices -/
def cutD (ds : List D) (lo hi : Option Int) : List D := (ds.drop (HT.sIx ds.length 0 lo)).take (HT.sIx ds.length ds.length hi - HT.sIx ds.length 0 lo)
abbrev DO := Gm → (Option Int → Gm → Prop) → Prop
def tDO (B : Bs) (t : DO) : TO := fun σ H Q => ∃ G γ R, DstG B G γ σ H ∧ t γ R ∧ ∀ o γ' G' H', R o γ' → Same G G' → DstG B G' γ' σ H' → Q o H'
def oNone : DO := fun γ R => R none γ
def oSome (t : DT) : DO := fun γ R => t γ fun d γ1 => match d with
  | .int i => R (some i) γ1
  | _ => False
theorem po_imp {e : Option Expr} {t t' : TO} (h : PO X e t) (k : ∀ σ H Q, t' σ H Q → t σ H Q) : PO X e t' := ⟨fun pins s σ H Q I q => h.run pins s σ H Q I (k σ H Q q)⟩
theorem o_none : PO X none (tDO B oNone) := po_imp po_none fun σ H Q ⟨G, γ, R, S, h, k⟩ => k _ _ _ _ h (Same.refl _) S
theorem o_some (h : PE X e (tD B t)) : PO X (some e) (tDO B (oSome t)) := po_imp (po_some h) fun σ H Q ⟨G, γ, R, S, h, k⟩ => ⟨G, γ, _, S, h, fun d γ1 G1 v H1 q sm S1 r => by
  split at q
  · cases rpInt r
    exact ⟨_, rfl, k _ _ _ _ q sm S1⟩
  · exact q.elim⟩
theorem RpAll.cut {W : Cw} {vs : List V} {ds : List D} (r : RpAll W G vs ds) (lo hi : Option Int) : RpAll W G (cutV vs lo hi) (cutD ds lo hi) := by
  unfold cutV cutD
  rw [r.len]
  exact (r.drop _).take _
def dSl (t : DT) (tl th : DO) : DT := fun γ R => t γ fun d γ1 => tl γ1 fun lo γ2 => th γ2 fun hi γ3 => match d with
  | .tup ds => R (.tup (cutD ds lo hi)) γ3
  | .lst ds => R (.lst (cutD ds lo hi)) γ3
  | .str z => z.length ≤ 1000000 ∧ R (.str (cutS z lo hi)) γ3
  | _ => False
def rSlD (K : PySem.W.Frag) : V → Option Int → Option Int → Hp → VK → Prop := fun x lo hi H Q => rSlA K x lo hi H Q ∨ (rSlL K x lo hi H Q ∨ rSlS x lo hi H Q)
theorem sl_D : SlR X (rSlD X.K) := SlR.or sl_tupA (SlR.or sl_list sl_str)
theorem d_sl {lo hi : Option Expr} {p2 : Pos} {tl th : DO} (hK : X.K = B.K) (hp : PE X (.Subscript e (.Slice lo hi none p2) pos) (tSl (rSlD X.K) (tD B t) (tDO B tl) (tDO B th))) : PE X (.Subscript e (.Slice lo hi none p2) pos) (tD B (dSl t tl th)) :=
  pe_imp hp fun σ H Q ⟨G, γ, R, S, h, k⟩ => ⟨G, γ, _, S, h, fun d γ1 G1 v H1 h1 s1 S1 r1 => ⟨G1, γ1, _, S1, h1, fun lo γ2 G2 H2 h2 s2 S2 => ⟨G2, γ2, _, S2, h2, fun hi γ3 G3 H3 h3 s3 S3 => by
    rw [hK]
    have r3 := r1.mono (s2.trans s3)
    split at h3
    · rename_i ds
      cases r3 with
      | @tup pa vs _ hs ra =>
        refine .inl ⟨_, _, rfl, hs.sq S3.sub, fun hw => ?_, fun _ p hp => ?_⟩
        · refine k _ _ _ _ _ h3 (s1.trans (s2.trans s3)) S3 ?_
          have e : cutD ds lo hi = ds := by
            unfold cutD
            rw [← ra.len, hw.1, hw.2, ra.len, List.drop_zero, Nat.sub_zero, List.take_length]
          rw [e]
          exact .tup hs ra
        · obtain ⟨G4, s4, S4, r4⟩ := S3.newTup (ra.cut lo hi) hp
          exact k _ _ _ _ _ h3 ((s1.trans (s2.trans s3)).trans s4) S4 r4
    · cases r3 with
      | @lst pa vs _ hs ra =>
        refine .inr (.inl ⟨_, _, rfl, SqL.of (S3.sub _ _ hs), fun p hp => ?_⟩)
        obtain ⟨G4, s4, S4, r4⟩ := S3.newLst (ra.cut lo hi) hp
        exact k _ _ _ _ _ h3 ((s1.trans (s2.trans s3)).trans s4) S4 r4
    · cases rpStr r3
      exact .inr (.inr ⟨_, rfl, sz_ok h3.1, k _ _ _ _ _ h3.2 (s1.trans (s2.trans s3)) S3 (.str _)⟩)
    · exact h3.elim⟩⟩⟩
/-- a list's slice: new -/
def fSlL (t : DT) (tl th : DO) : DA := fun γ R => t γ fun d γ1 => tl γ1 fun lo γ2 => th γ2 fun hi γ3 => match d with
  | .lst ds => R (cutD ds lo hi) γ3
  | _ => False
theorem f_slL {lo hi : Option Expr} {p2 : Pos} {tl th : DO} (hK : X.K = B.K) (hp : PE X (.Subscript e (.Slice lo hi none p2) pos) (tSl (rSlL X.K) (tD B t) (tDO B tl) (tDO B th))) : PE X (.Subscript e (.Slice lo hi none p2) pos) (tDF B (fSlL t tl th)) :=
  pe_imp hp fun σ H Q ⟨G, γ, R, S, h, k⟩ => ⟨G, γ, _, S, h, fun d γ1 G1 v H1 h1 s1 S1 r1 => ⟨G1, γ1, _, S1, h1, fun lo γ2 G2 H2 h2 s2 S2 => ⟨G2, γ2, _, S2, h2, fun hi γ3 G3 H3 h3 s3 S3 => by
    rw [hK]
    have r3 := r1.mono (s2.trans s3)
    split at h3
    · cases r3 with
      | @lst pa vs _ hs ra =>
        refine ⟨_, _, rfl, SqL.of (S3.sub _ _ hs), fun p hp => ?_⟩
        exact k _ _ _ _ _ _ h3 (s1.trans (s2.trans s3)) (S3.laid (fun _ z => nomatch z) hp) upd_same (ra.cut lo hi) (S3.free0 hp) (S3.sub.free hp) (S3.noslot hp)
    · exact h3.elim⟩⟩⟩
/-! ### own lists -/
theorem Dst.store {m : Nat} {γ : GL} (S : Dst B m G γ σ H) {i : Nat} {p : Addr} {ds es : List D} {us : List V} (h : γ[i]? = some (.own p ds)) (r : RpAll B.W G us es) : Dst B m G (γ.set i (.own p es)) σ (upd H p (.lst us)) := by
  obtain ⟨o, h1, h2, vs, h3, h4⟩ := S.slot i _ h
  subst h2
  obtain ⟨h5, h6⟩ := S.off i _ p h (List.mem_singleton.mpr rfl)
  have Sw : Dst B m G (γ.set i .un) σ H := S.weak
  have no : NoSlot (γ.set i .un) p := fun j s e hp => by
    by_cases z : i = j
    · subst z
      rw [List.getElem?_set_self (List.getElem?_eq_some_iff.mp h).1] at e
      cases e
      cases hp
    · rw [List.getElem?_set_ne z] at e
      exact z (S.nd i j p _ s h e (List.mem_singleton.mpr rfl) hp)
  have S2 := Sw.offed (o := .lst us) (fun _ z => nomatch z) h6 h5 no
  have S3 := slot_set S2 (i := i) (v := .ref p) (s := .own p es) ⟨rfl, us, upd_same, r⟩ fun p' hp' => by
    cases List.mem_singleton.mp hp'
    exact ⟨h5, h6, fun j t _ e => no j t e⟩
  rw [set_same h1, List.set_set] at S3
  exact S3
/-- x.append(e) of an own list -/
def sApp (i : Nat) (t : DT) : DS := fun E γ => (∃ p ds, look γ i = .own p ds) ∧ t γ fun d γ1 => match look γ1 i with
  | .own p es => es.length < 1000000 ∧ E.nx (putS γ1 i (.own p (es ++ [d])))
  | _ => False
theorem s_app {i : Nat} (h : PS X st (tDrop (tBM X.K "list" rAppend (tVar i) (tCons (tD B t) tNil)))) (hK : X.K = B.K) : PS X st (tDS B (sApp i t)) := ps_imp h fun De σ H ⟨G, γ, E, S, ⟨⟨p0, ds, hi⟩, h⟩, F⟩ => by
  obtain ⟨o, h1, h2, vs, h3, h4⟩ := S.slot i _ (look_get hi (fun z => nomatch z))
  subst h2
  refine ⟨_, h1, .inl ⟨rfl, vs, SqL.of h3⟩, G, γ, _, S, h, fun d γ1 G1 v H1 q sm S1 r => ?_⟩
  split at q
  · rename_i p es hi1
    obtain ⟨hl, q⟩ := q
    obtain ⟨o', k1, k2, us, k3, k4⟩ := S1.slot i _ (look_get hi1 (fun z => nomatch z))
    subst k2
    rw [h1] at k1
    cases k1
    refine ⟨p0, us, v, rfl, rfl, k3, by rw [k4.len]; exact Nat.lt_of_lt_of_le hl (by decide), ?_⟩
    rw [putS_eq] at q
    exact F.nx _ _ _ _ q sm (S1.store (look_get hi1 (fun z => nomatch z)) (k4.app (.cons r .nil)))
  · exact q.elim
/-- x[k] of an own list: it stays one's own -/
def dIxO (i : Nat) (t : DT) : DT := fun γ R => t γ fun d γ1 => match look γ1 i, d with
  | .own p ds, .int k => ∃ c, atI ds k = some c ∧ R c γ1
  | _, _ => False
end
end EL
namespace EL
open PySem PySem.Spec PyProof.Rows L2
/-! ### comprehensions -/
def wipeL (γ : GL) : List Nat → GL
  | [] => γ
  | v :: vs => putL (wipeL γ vs) v .un
def wipeS (γ : Gm) (vs : List Nat) : Gm := ⟨wipeL γ.sl vs, γ.ct⟩
theorem wipe_get (σ : L2.St) (j : Nat) : ∀ vs : List Nat, (wipe σ vs)[j]? = if j ∈ vs then (σ[j]?).map fun _ => none else σ[j]?
  | [] => by simp [wipe]
  | v :: vs => by
    show ((wipe σ vs).set v none)[j]? = _
    by_cases z : v = j
    · subst z
      rw [if_pos List.mem_cons_self, List.getElem?_set]
      rw [if_pos rfl, wipe_length]
      by_cases l : v < σ.length
      · rw [if_pos l, List.getElem?_eq_getElem l]; rfl
      · rw [if_neg l, List.getElem?_eq_none (by omega)]; rfl
    · rw [List.getElem?_set_ne z, wipe_get σ j vs]
      have : (j ∈ v :: vs) ↔ j ∈ vs := by simp only [List.mem_cons]; exact ⟨fun h => h.resolve_left (fun e => z e.symm), .inr⟩
      by_cases h : j ∈ vs
      · rw [if_pos h, if_pos (this.mpr h)]
      · rw [if_neg h, if_neg (fun q => h (this.mp q))]
theorem wipe_wipe (σ : L2.St) (vs : List Nat) : wipe (wipe σ vs) vs = wipe σ vs := by
  apply List.ext_getElem?
  intro j
  rw [wipe_get, wipe_get]
  by_cases h : j ∈ vs
  · rw [if_pos h, if_pos h]
    cases σ[j]? <;> rfl
  · rw [if_neg h, if_neg h]
theorem wipeL_len (γ : GL) : ∀ vs : List Nat, (wipeL γ vs).length = γ.length
  | [] => rfl
  | v :: vs => by
    show (putL (wipeL γ vs) v .un).length = _
    rw [putL_eq, List.length_set, wipeL_len γ vs]
theorem wipeL_get (γ : GL) (j : Nat) : ∀ vs : List Nat, (wipeL γ vs)[j]? = if j ∈ vs then (γ[j]?).map fun _ => Sl.un else γ[j]?
  | [] => by simp [wipeL]
  | v :: vs => by
    show (putL (wipeL γ vs) v .un)[j]? = _
    rw [putL_eq]
    by_cases z : v = j
    · subst z
      rw [if_pos List.mem_cons_self, List.getElem?_set]
      rw [if_pos rfl, wipeL_len]
      by_cases l : v < γ.length
      · rw [if_pos l, List.getElem?_eq_getElem l]; rfl
      · rw [if_neg l, List.getElem?_eq_none (by omega)]; rfl
    · rw [List.getElem?_set_ne z, wipeL_get γ j vs]
      have : (j ∈ v :: vs) ↔ j ∈ vs := by simp only [List.mem_cons]; exact ⟨fun h => h.resolve_left (fun e => z e.symm), .inr⟩
      by_cases h : j ∈ vs
      · rw [if_pos h, if_pos (this.mpr h)]
      · rw [if_neg h, if_neg (fun q => h (this.mp q))]

section
variable {X : Cx} {B : Bs} {G G' G1 : Hp} {γ γ' : Gm} {σ σ' : L2.St} {H H' : Hp} {e a b : Expr} {ta tb t : DT} {pos : Pos} {st : Stmt} {p : Addr} {o o' : HO}
theorem Dst.wiped {m : Nat} {γ : GL} (S : Dst B m G γ σ H) (vs : List Nat) : Dst B m G (wipeL γ vs) (wipe σ vs) H := S.reslot (by rw [wipe_length, wipeL_len]; exact S.len) fun i s e => by
  rw [wipeL_get] at e
  by_cases h : i ∈ vs
  · rw [if_pos h] at e
    cases q : γ[i]? with
    | none => rw [q] at e; cases e
    | some u => rw [q] at e; cases e; exact .inl rfl
  · rw [if_neg h] at e
    exact .inr ⟨e, by rw [wipe_get, if_neg h]⟩
theorem Dst.unwipe {m : Nat} {γ : GL} {vs : List Nat} (S : Dst B m G γ (wipe σ vs) H) : Dst B m G (wipeL γ vs) σ H := S.reslot (by rw [wipeL_len, ← S.len, wipe_length]) fun i s e => by
  rw [wipeL_get] at e
  by_cases h : i ∈ vs
  · rw [if_pos h] at e
    cases q : γ[i]? with
    | none => rw [q] at e; cases e
    | some u => rw [q] at e; cases e; exact .inl rfl
  · rw [if_neg h] at e
    exact .inr ⟨e, by rw [wipe_get, if_neg h]⟩
theorem NoSlot.wipe {γ : GL} {p : Addr} (h : NoSlot γ p) (vs : List Nat) : NoSlot (wipeL γ vs) p := fun i s e hp => by
  rw [wipeL_get] at e
  split at e
  · cases q : γ[i]? with
    | none => rw [q] at e; cases e
    | some u => rw [q] at e; cases e; cases hp
  · exact h i s e hp
/-- an object that none knows is held fast for a while -/
theorem Dst.hide {m : Nat} {γ : GL} (S : Dst B m G γ σ H) (hp : H p = some o) (hg : G p = none) (h0 : B.H0 p = none) (hn : NoSlot γ p) : Dst (withH B (upd B.H0 p o)) m G γ σ H where
  law := S.law
  le := S.le
  up := S.up
  sub := S.sub
  sub0 := S.sub0
  kept := fun b u e z => by
    by_cases q : b = p
    · subst q
      have e : upd B.H0 b o b = some u := e
      rw [upd_same] at e
      cases e
      exact hp
    · have e : upd B.H0 p o b = some u := e
      rw [upd_ne q] at e
      exact S.kept b u e z
  fresh := fun q h1 h2 => by
    by_cases z : q = p
    · subst z; exact hg
    · have h1 : upd B.H0 p o q ≠ none := h1
      rw [upd_ne z] at h1
      exact S.fresh q h1 h2
  tups := S.tups
  dkok := fun d c e => by
    obtain ⟨h1, h2, h3, h4, h5⟩ := S.dkok d c e
    refine ⟨h1, ?_, ?_, h4, h5⟩
    · show upd B.H0 p o d ≠ none
      rw [upd_ne (fun z => h2 (by rw [z]; exact h0))]; exact h2
    · show upd B.H0 p o c ≠ none
      rw [upd_ne (fun z => h3 (by rw [z]; exact h0))]; exact h3
  len := S.len
  slot := S.slot
  off := fun i s q e hq => by
    have n : q ≠ p := fun n => hn i s e (by rw [← n]; exact hq)
    exact ⟨by show upd B.H0 p o q = none; rw [upd_ne n]; exact (S.off i s q e hq).1, (S.off i s q e hq).2⟩
  nd := S.nd
theorem Dst.unhide {m : Nat} {γ : GL} (S : Dst (withH B (upd B.H0 p o)) m G γ σ H) (h0 : B.H0 p = none) (hg0 : B.G0 p = none) (hdk : ∀ d c, B.W.dk = some (d, c) → B.H0 d ≠ none ∧ B.H0 c ≠ none) : Dst B m G γ σ H ∧ H p = some o ∧ G p = none ∧ NoSlot γ p := by
  have up : ∀ q, B.H0 q ≠ none → upd B.H0 p o q = B.H0 q := fun q h => upd_ne (fun z => h (by rw [z]; exact h0))
  have ns : NoSlot γ p := fun i s e hq => by
    have c : upd B.H0 p o p = none := (S.off i s p e hq).1
    rw [upd_same] at c
    cases c
  refine ⟨?_, ?_, ?_, ns⟩
  · constructor
    · exact S.law
    · exact S.le
    · exact S.up
    · exact S.sub
    · exact S.sub0
    · intro b u e z
      exact S.kept b u (by show upd B.H0 p o b = some u; rw [up b (by rw [e]; exact fun z => nomatch z)]; exact e) z
    · intro q h1 h2
      exact S.fresh q (by show upd B.H0 p o q ≠ none; rw [up q h1]; exact h1) h2
    · exact S.tups
    · intro d c e
      obtain ⟨h1, _, _, h4, h5⟩ := S.dkok d c e
      obtain ⟨h2, h3⟩ := hdk d c e
      exact ⟨h1, h2, h3, h4, h5⟩
    · exact S.len
    · exact S.slot
    · intro i s q e hq
      have c : upd B.H0 p o q = none := (S.off i s q e hq).1
      have n : q ≠ p := fun n => by subst n; exact ns i s e hq
      rw [upd_ne n] at c
      exact ⟨c, (S.off i s q e hq).2⟩
    · exact S.nd
  · refine S.kept p o upd_same fun d c e => ?_
    obtain ⟨h2, h3⟩ := hdk d c e
    exact ⟨fun z => h2 (by rw [← z]; exact h0), fun z => h3 (by rw [← z]; exact h0)⟩
  · exact S.fresh p (by show upd B.H0 p o p ≠ none; rw [upd_same]; exact fun z => nomatch z) hg0
def tDx (B : Bs) (t : DT) : TE := fun σ H Q => ∃ H0, tD (withH B H0) t σ H Q
def tDBx (B : Bs) (t : DB) : TT := fun σ H Q => ∃ H0, tDB (withH B H0) t σ H Q
def tDGx (B : Bs) (vs : List Nat) (b : BdT) : TG := fun v σ H Q => ∃ H0, tDG (withH B H0) vs b v σ H Q
theorem dx (h : ∀ H0, PE X e (tD (withH B H0) t)) : PE X e (tDx B t) := ⟨fun pins s σ H Q I ⟨H0, q⟩ => (h H0).run pins s σ H Q I q⟩
theorem gx {tg : Expr} {vs : List Nat} {bd : BdT} (h : ∀ H0, PG X tg (tDG (withH B H0) vs bd)) : PG X tg (tDGx B vs bd) := ⟨fun pins s σ H v u Q I r ⟨H0, q⟩ => (h H0).run pins s σ H v u Q I r q⟩
def bYes : DB := fun γ R => R True γ
theorem bx_yes : PTs X [] (tDBx B bYes) := ⟨fun pins s σ H Q I hh => by
  obtain ⟨H0, G, γ, R, S, h, k⟩ := hh
  exact pts_nil.run pins s σ H Q I (k True true γ G H h (by simp) (Same.refl _) S)⟩
theorem bx_one {c : Expr} {t : DB} (h : ∀ H0, PT X c (tDB (withH B H0) t)) : PTs X [c] (tDBx B t) := ⟨fun pins s σ H Q I ⟨H0, q⟩ => (pts_one (h H0)).run pins s σ H Q I q⟩
def lcD (bd : BdT) (tt : DB) (te : DT) (vs : List Nat) : List D → List D → Gm → (List D → Gm → Prop) → Prop
  | [], acc, γ, R => R acc (wipeS γ vs)
  | d :: ds, acc, γ, R => bd d γ fun γ2 => tt γ2 fun p γ3 => (p → te γ3 fun c γ4 => lcD bd tt te vs ds (acc ++ [c]) (wipeS γ4 vs) R) ∧ (¬p → lcD bd tt te vs ds acc (wipeS γ3 vs) R)
def fLc (t : DA) (bd : BdT) (tt : DB) (te : DT) (vs : List Nat) : DA := fun γ R => t γ fun ds γ1 => ds.length ≤ 1000000 ∧ lcD bd tt te vs ds [] (wipeS γ1 vs) R
theorem lc_run {t : DA} {bd : BdT} {tt : DB} {te : DT} {vs : List Nat} : ∀ σ H Q, tDF B (fLc t bd tt te vs) σ H Q → tLc (tDI B t) (tDGx B vs bd) (tDBx B tt) (tDx B te) vs σ H Q := fun σ H Q ⟨G, γ, R, S, h, k⟩ => by
  refine ⟨G, γ, _, S, h, fun ds γ1 G1 H1 J ⟨lim, q⟩ sm S1 w Dd hD => ?_⟩
  have hg0 : B.G0 Dd = none := S1.sub0.free (S1.sub.free hD)
  have hh0 := S1.free0 hD
  have hdk : ∀ d c, B.W.dk = some (d, c) → B.H0 d ≠ none ∧ B.H0 c ≠ none := fun d c e => ⟨(S1.dkok d c e).2.1, (S1.dkok d c e).2.2.1⟩
  refine ⟨fun i m H => ∃ G γ us acc, m = ds.length - i ∧ i ≤ ds.length ∧ acc.length ≤ i ∧ Same G1 G ∧ DstG B G γ (wipe σ vs) H ∧ H Dd = some (.lst us) ∧ RpAll B.W G us acc ∧ G Dd = none ∧ NoSlot γ.sl Dd ∧ lcD bd tt te vs (ds.drop i) acc γ R,
    ⟨_, G1, wipeS γ1 vs, [], [], rfl, Nat.zero_le _, Nat.le_refl _, Same.refl _, (S1.laid (o := .lst []) (fun _ z => nomatch z) hD).wiped vs, upd_same, .nil, S1.sub.free hD, (S1.noslot hD).wipe vs, q⟩, ?_⟩
  rintro i m H2 ⟨G2, γ2, us, acc, rfl, hi, hacc, sm2, S2, hu, ra, hg, hn, q2⟩
  have S2h := S2.hide hu hg hh0 hn
  obtain ⟨w1, w2⟩ := w _ G2 γ2 _ H2 sm2 S2h
  by_cases hlt : i < ds.length
  · right
    obtain ⟨go, y⟩ := w2 i _ (List.getElem?_eq_getElem hlt)
    rw [List.drop_eq_getElem_cons hlt] at q2
    refine ⟨go, fun H' => ∃ G γ us acc, acc.length ≤ i + 1 ∧ Same G1 G ∧ DstG B G γ (wipe σ vs) H' ∧ H' Dd = some (.lst us) ∧ RpAll B.W G us acc ∧ G Dd = none ∧ NoSlot γ.sl Dd ∧ lcD bd tt te vs (ds.drop (i + 1)) acc γ R,
      fun H' ⟨G3, γ3, us, acc, z⟩ => ⟨ds.length - (i + 1), by omega, G3, γ3, us, acc, rfl, hlt, z⟩, fun x H' yy => ?_⟩
    obtain ⟨G3, s3, S3, r3⟩ := y x H' yy
    refine ⟨upd B.H0 Dd (.lst us), G3, γ2, _, _, S3, r3, q2, fun γ4 σ4 q4 S4 w4 => ⟨w4.trans (wipe_wipe σ vs), ?_⟩⟩
    have w4' : wipe σ4 vs = wipe σ vs := w4.trans (wipe_wipe σ vs)
    have s13 : Same G1 G3 := sm2.trans s3
    refine ⟨_, G3, γ4, _, S4, q4, fun pp b γ5 G5 H5 ⟨h1, h2⟩ hpb s5 S5 => ?_⟩
    cases b with
    | true =>
      refine iteT ?_
      refine ⟨_, G5, γ5, _, S5, h1 (hpb.mp rfl), fun c γ6 G6 v H6 q6 s6 S6 r6 => ?_⟩
      obtain ⟨S6', hu6, hg6, hn6⟩ := S6.unhide hh0 hg0 hdk
      have ra6 := ra.mono (s3.trans (s5.trans s6))
      have hl : acc.length < 1000000 := by omega
      refine ⟨us, hu6, by rw [ra6.len]; exact Nat.lt_of_lt_of_le hl (by decide), G6, wipeS γ6 vs, us ++ [v], acc ++ [c], by rw [List.length_append]; exact Nat.succ_le_succ hacc, s13.trans (s5.trans s6), ?_, upd_same, ra6.app (.cons r6 .nil), hg6, hn6.wipe vs, q6⟩
      rw [← w4']
      exact (S6'.wiped vs).offed (fun _ z => nomatch z) hg6 hh0 (hn6.wipe vs)
    | false =>
      refine iteF ?_
      obtain ⟨S5', hu5, hg5, hn5⟩ := S5.unhide hh0 hg0 hdk
      refine ⟨G5, wipeS γ5 vs, us, acc, by omega, s13.trans s5, ?_, hu5, ra.mono (s3.trans s5), hg5, hn5.wipe vs, h2 fun z => nomatch hpb.mpr z⟩
      rw [← w4']
      exact S5'.wiped vs
  · left
    have e : i = ds.length := by omega
    subst e
    rw [List.drop_length] at q2
    exact ⟨w1, k _ _ _ _ _ _ q2 (sm.trans sm2) S2.unwipe hu ra hh0 hg (hn.wipe vs)⟩
theorem f_lc {t : DA} {bd : BdT} {tt : DB} {te : DT} {vs : List Nat} (h : PE X e (tLc (tDI B t) (tDGx B vs bd) (tDBx B tt) (tDx B te) vs)) : PE X e (tDF B (fLc t bd tt te vs)) := pe_imp h lc_run
theorem a_lc {t : DA} {bd : BdT} {tt : DB} {te : DT} {vs : List Nat} {g : TG} (h : PS X st (tAsg (tLc (tDI B t) (tDGx B vs bd) (tDBx B tt) (tDx B te) vs) g)) : PS X st (tAsg (tDF B (fLc t bd tt te vs)) g) := ps_imp h fun De σ H q => lc_run σ H _ q
theorem a_f {t : DA} {g : TG} (h : PS X st (tAsg (tDF B t) g)) : PS X st (tAsg (tD B (dF t)) g) := ps_imp h fun De σ H ⟨G, γ, R, S, h, k⟩ =>
  ⟨G, γ, _, S, h, fun ds γ1 G1 p vs H1 h1 s1 S1 hp r1 h0 hg hn => by
    obtain ⟨S2, sm⟩ := S1.frz hp h0 hg hn
    exact k _ _ _ _ _ h1 (s1.trans sm) S2 (.lst upd_same (r1.mono sm))⟩
/-! ### in, not in -/
def flatD : D → Bool
  | .non => true
  | .bl _ => true
  | .int _ => true
  | .str _ => true
  | _ => false
def eqF : D → D → Bool
  | .non, .non => true
  | .bl a, .bl b => a == b
  | .bl a, .int b => (if a then 1 else 0) == b
  | .int a, .bl b => a == (if b then 1 else 0)
  | .int a, .int b => a == b
  | .str a, .str b => a == b
  | _, _ => false
def inDs (d : D) (ds : List D) : Bool := ds.any fun y => eqF y d
theorem flat_of {W : Cw} {v : V} {d : D} (r : Rp W G v d) (h : flatD d = true) : flatV v = true := by
  cases r <;> first | rfl | cases h
theorem eqF_of {W : Cw} {v u : V} {d c : D} (r : Rp W G v d) (r' : Rp W G u c) (h : flatD d = true) (h' : flatD c = true) : eqV v u = eqF d c := by
  cases r <;> first | (cases h; done) | (cases r' <;> first | (cases h'; done) | rfl)
theorem flats_of {W : Cw} : ∀ {vs : List V} {ds : List D}, RpAll W G vs ds → ds.all flatD = true → vs.all flatV = true
  | _, _, .nil, _ => rfl
  | _, _, .cons r t, h => by
    rw [List.all_cons, Bool.and_eq_true] at h ⊢
    exact ⟨flat_of r h.1, flats_of t h.2⟩
theorem in_of {W : Cw} {v : V} {d : D} (r : Rp W G v d) (h : flatD d = true) : ∀ {vs : List V} {ds : List D}, RpAll W G vs ds → ds.all flatD = true → inV v vs = inDs d ds
  | _, _, .nil, _ => rfl
  | _, _, .cons r' t, h' => by
    rw [List.all_cons, Bool.and_eq_true] at h'
    have ih := in_of r h t h'.2
    unfold inV inDs at ih ⊢
    rw [List.any_cons, List.any_cons, eqF_of r' r h'.1 h, ih]
/-- in a list, a tuple of flat things -/
def inP (neg : Bool) : FP := fun d e R => match e with
  | .lst ds => (flatD d = true ∧ ds.all flatD = true) ∧ R ((inDs d ds = true) ↔ neg = false)
  | .tup ds => (flatD d = true ∧ ds.all flatD = true) ∧ R ((inDs d ds = true) ↔ neg = false)
  | _ => False
theorem ok_inP {neg : Bool} (hK : X.K = B.K) : OkRP B (rIn X.K neg) (inP neg) := by
  intro G γ σ H x y d e R Q S rx ry h k
  rw [hK]
  unfold inP at h
  split at h
  · obtain ⟨⟨h2, h3⟩, h⟩ := h
    cases ry with
    | lst hs ra =>
      refine ⟨_, _, rfl, .inl (SqL.of (S.sub _ _ hs)), flat_of rx h2, flats_of ra h3, ?_⟩
      rw [in_of rx h2 ra h3]
      exact k _ _ _ _ h (by cases neg <;> simp) (Same.refl _) S
  · obtain ⟨⟨h2, h3⟩, h⟩ := h
    cases ry with
    | tup hs ra =>
      refine ⟨_, _, rfl, .inr (hs.sq S.sub), flat_of rx h2, flats_of ra h3, ?_⟩
      rw [in_of rx h2 ra h3]
      exact k _ _ _ _ h (by cases neg <;> simp) (Same.refl _) S
  · exact h.elim
/-- one sign in a text -/
def inSP (neg : Bool) : FP := fun d e R => match d, e with
  | .str c, .str z => ∃ x, c = ⟨#[x]⟩ ∧ R ((x ∈ z.cps.toList) ↔ neg = false)
  | _, _ => False
theorem ok_inSP : OkRP B (fun x y H Q => ∃ (c : Nat) (z : Str), x = .str ⟨#[c]⟩ ∧ y = .str z ∧ Q (.bl (decide (c ∈ z.cps.toList))) H) (inSP false) := by
  intro G γ σ H x y d e R Q S rx ry h k
  unfold inSP at h
  split at h
  · obtain ⟨c, rfl, h⟩ := h
    cases rpStr rx
    cases rpStr ry
    exact ⟨c, _, rfl, rfl, k _ _ _ _ h (by simp) (Same.refl _) S⟩
  · exact h.elim
/-! ### isinstance of a built-in class, of built-in data -/
def tyN : D → Option String
  | .non => some "NoneType"
  | .bl _ => some "bool"
  | .int _ => some "int"
  | .str _ => some "str"
  | .tup _ => some "tuple"
  | .lst _ => some "list"
  | .dct _ => some "dict"
  | .dcT _ => some "dict"
  | _ => none
def tyIs (T n : String) : Bool := n == T || (n == "bool" && T == "int")
def isiF (T : String) : FC := fun ds R => match ds with
  | [d, _] => match tyN d with
    | some n => R (.bl (tyIs T n))
    | none => False
  | _ => False
def rIsiB (K : PySem.W.Frag) (T : String) : List V → Hp → VK → Prop := fun xs H Q => ∃ x t b, xs = [x, .ty T] ∧ TyX K H x t ∧ PySem.W.kitOne K t (.type T) = some b ∧ Q (.bl b) H
theorem call_isiB {T : String} : CallR X (.builtin "isinstance") (rIsiB X.K T) := fun pins s σ H xs us Q I r ⟨x, t, b, e, ty, k, q⟩ => call_isi pins s σ H xs us Q I r ⟨x, .ty T, t, .type T, b, e, .ty T, ty, k, q⟩
theorem TyD_of {W : Cw} {v : V} {d : D} {n : String} (h : tyN d = some n) (r : Rp W G v d) (s : Same G H) : TyX W.K H v (.type n) := by
  cases r with
  | non => cases h; exact .base .non
  | bl b => cases h; exact .base (.bl b)
  | int i => cases h; exact .base (.int i)
  | str z => cases h; exact .base (.str z)
  | tup hs ra =>
    cases h
    rcases hs with hs | ⟨_, o, its, n, h1, h2, _⟩
    · exact .base (.tup (s _ _ hs))
    · exact .kTuple h1 h2
  | lst hs ra => cases h; exact .base (.lst (s _ _ hs))
  | dct hs ra => cases h; exact .base (.dK (s _ _ hs))
  | dcT hs => cases h; exact .base (.dT (s _ _ hs))
  | obj _ _ _ _ => cases h
  | dk _ => cases h
  | opq v => cases h
/-- a class's name as the second: (T, .ty T) -/
theorem ok_isiB {T : String} (hK : X.K = B.K) (hk : ∀ n ∈ ["NoneType", "bool", "int", "str", "tuple", "list", "dict"], kitB n T = some (tyIs T n)) (G γ σ H) {vs : List V} {ds : List D} {R : D → Prop} {Q : VK} (S : DstG B G γ σ H) {x : V} {d : D} (r1 : Rp B.W G x d) (h : isiF T [d, .opq (.ty T)] R)
    (k : ∀ c G' v H', R c → Same G G' → DstG B G' γ σ H' → Rp B.W G' v c → Q v H') : rIsiB X.K T [x, .ty T] H Q := by
  unfold isiF at h
  dsimp only at h
  cases q : tyN d with
  | none => rw [q] at h; exact h.elim
  | some n =>
    rw [q] at h
    refine ⟨x, _, _, rfl, by rw [hK]; exact TyD_of q r1 S.sub, kit_ty (hk n ?_), k _ _ _ _ h (Same.refl _) S (.bl _)⟩
    cases d <;> first | (cases q; done) | (cases q; simp)
end
/-! ### data as the library has it; repr, == -/
mutual
def py : D → PyData
  | .non => .none
  | .bl b => .bool b
  | .int i => .int i
  | .str z => .str z
  | .tup ds => .tuple (pys ds)
  | .lst ds => .list (pys ds)
  | _ => .none
def pys : List D → List PyData
  | [] => []
  | d :: ds => py d :: pys ds
end
mutual
def isPy : D → Bool
  | .tup ds => isPys ds
  | .lst ds => isPys ds
  | .dct _ => false
  | .dcT _ => false
  | .obj _ _ => false
  | .dk => false
  | .opq _ => false
  | _ => true
def isPys : List D → Bool
  | [] => true
  | d :: ds => isPy d && isPys ds
end
section
variable {X : Cx} {B : Bs} {G G' G1 : Hp} {γ γ' : Gm} {σ σ' : L2.St} {H H' : Hp} {e a b : Expr} {ta tb t : DT} {pos : Pos} {st : Stmt} {p : Addr} {o o' : HO}
mutual
theorem py_of {W : Cw} (s : Same G H) : ∀ {v : V} {d : D}, Rp W G v d → isPy d = true → Dp W.K H v (py d)
  | _, _, .non, _ => by rw [py]; exact .non
  | _, _, .bl b, _ => by rw [py]; exact .bl b
  | _, _, .int i, _ => by rw [py]; exact .int i
  | _, _, .str z, _ => by rw [py]; exact .str z
  | _, _, .tup (ds := ds) hs ra, h => by rw [isPy] at h; rw [py]; exact .tup (hs.sq s) (pys_of s ra h)
  | _, _, .lst (ds := ds) hs ra, h => by rw [isPy] at h; rw [py]; exact .lst (SqL.of (s _ _ hs)) (pys_of s ra h)
  | _, _, .dct _ _, h => by rw [isPy] at h; cases h
  | _, _, .dcT _, h => by rw [isPy] at h; cases h
  | _, _, .obj _ _ _ _, h => by rw [isPy] at h; cases h
  | _, _, .dk _, h => by rw [isPy] at h; cases h
  | _, _, .opq _, h => by rw [isPy] at h; cases h
theorem pys_of {W : Cw} (s : Same G H) : ∀ {vs : List V} {ds : List D}, RpAll W G vs ds → isPys ds = true → DpAll W.K H vs (pys ds)
  | _, _, .nil, _ => by rw [pys]; exact .nil
  | _, _, .cons (d := d) (ds := ds) r t, h => by
    rw [isPys, Bool.and_eq_true] at h
    rw [pys]
    exact .cons (py_of s r h.1) (pys_of s t h.2)
end
/-- what == is told of: data of built-in kinds, of no great depth -/
def okD (d : D) : Prop := isPy d = true ∧ SeqAt.shaped (py d) = true
def eqD (d e : D) : Bool := PyData.eqv (py d) (py e)
def eqP : FP := fun d e R => match d, e with
  | .int i, .int j => R (i = j)
  | .str i, .str j => R (i = j)
  | .bl i, .bl j => R (i = j)
  | .non, .non => R True
  | _, _ => (okD d ∧ okD e) ∧ R (eqD d e = true)
def neP : FP := fun d e R => eqP d e fun p => R (¬p)
theorem eq_core (S : DstG B G γ σ H) {x y : V} {d e : D} {R : Prop → Prop} (rx : Rp B.W G x d) (ry : Rp B.W G y e) (h : eqP d e R) : ∃ p b, R p ∧ (b = true ↔ p) ∧ ((scal x y = true ∧ decide (x = y) = b) ∨ ∃ q r, Dp B.K H x q ∧ Dp B.K H y r ∧ SeqAt.shaped q = true ∧ SeqAt.shaped r = true ∧ PyData.eqv q r = b) := by
  unfold eqP at h
  split at h
  · cases rpInt rx
    cases rpInt ry
    exact ⟨_, _, h, by simp, .inl ⟨rfl, rfl⟩⟩
  · cases rpStr rx
    cases rpStr ry
    exact ⟨_, _, h, by simp, .inl ⟨rfl, rfl⟩⟩
  · cases rpBl rx
    cases rpBl ry
    exact ⟨_, _, h, by simp, .inl ⟨rfl, rfl⟩⟩
  · cases rpNon rx
    cases rpNon ry
    exact ⟨_, _, h, by simp, .inl ⟨rfl, rfl⟩⟩
  · obtain ⟨⟨⟨h1, h2⟩, h3, h4⟩, h⟩ := h
    exact ⟨_, _, h, Iff.rfl, .inr ⟨_, _, py_of S.sub rx h1, py_of S.sub ry h3, h2, h4, rfl⟩⟩
theorem ok_eqP (hK : X.K = B.K) : OkRP B (fun x y H Q => rEq x y H Q ∨ rEqD X.K x y H Q) eqP := by
  intro G γ σ H x y d e R Q S rx ry h k
  rw [hK]
  obtain ⟨p, b, hR, hb, ⟨h1, h2⟩ | ⟨q, r, h1, h2, h3, h4, h5⟩⟩ := eq_core S rx ry h
  · refine .inl ⟨h1, ?_⟩
    rw [h2]
    exact k _ _ _ _ hR hb (Same.refl _) S
  · refine .inr ⟨q, r, h1, h2, h3, h4, ?_⟩
    rw [h5]
    exact k _ _ _ _ hR hb (Same.refl _) S
theorem ok_neP (hK : X.K = B.K) : OkRP B (fun x y H Q => rNe x y H Q ∨ rNeD X.K x y H Q) neP := by
  intro G γ σ H x y d e R Q S rx ry h k
  rw [hK]
  obtain ⟨p, b, hR, hb, ⟨h1, h2⟩ | ⟨q, r, h1, h2, h3, h4, h5⟩⟩ := eq_core S rx ry h
  · refine .inl ⟨h1, ?_⟩
    rw [h2]
    exact k _ _ _ _ hR (by rw [← hb]; cases b <;> simp) (Same.refl _) S
  · refine .inr ⟨q, r, h1, h2, h3, h4, ?_⟩
    rw [h5]
    exact k _ _ _ _ hR (by rw [← hb]; cases b <;> simp) (Same.refl _) S
theorem op_eqPP (hu : X.A.units + 64 < cLine) : OpR X (compareOp .Eq) (fun x y H Q => rEq x y H Q ∨ rEqD X.K x y H Q) := OpR.or op_eq (op_eqD hu)
theorem op_nePP (hu : X.A.units + 64 < cLine) : OpR X (compareOp .NotEq) (fun x y H Q => rNe x y H Q ∨ rNeD X.K x y H Q) := OpR.or op_ne (op_neD hu)
/-! ### is, is not: None, truths -/
def isP (neg : Bool) : FP := fun d e R => match d, e with
  | .opq _, _ => False
  | .non, .non => R (True ↔ neg = false)
  | .bl i, .bl j => R ((i = j) ↔ neg = false)
  | _, .non => R (False ↔ neg = false)
  | _, _ => False
theorem rp_non {W : Cw} {v : V} {d : D} (r : Rp W G v d) (h : ∀ w, d ≠ .opq w) : v = .non ↔ d = .non := by
  cases r <;> first | exact absurd rfl (h _) | simp
theorem isP_core {W : Cw} {neg : Bool} {d e : D} {R : Prop → Prop} {x y : V} (rx : Rp W G x d) (ry : Rp W G y e) (h : isP neg d e R) :
    (y = .non ∧ ∃ p, R (p ↔ neg = false) ∧ (x = .non ↔ p)) ∨ ∃ a b, x = .bl a ∧ y = .bl b ∧ R ((a = b) ↔ neg = false) := by
  cases e with
  | non =>
    cases rpNon ry
    cases d with
    | opq v => exact h.elim
    | non => cases rpNon rx; exact .inl ⟨rfl, _, h, by simp⟩
    | _ => exact .inl ⟨rfl, _, h, by rw [rp_non rx (fun w z => nomatch z)]; simp⟩
  | bl j =>
    cases rpBl ry
    cases d with
    | bl i => cases rpBl rx; exact .inr ⟨_, _, rfl, rfl, h⟩
    | _ => exact h.elim
  | _ => cases d <;> exact h.elim
theorem ok_isP : OkRP B (fun x y H Q => (y = .non ∧ Q (.bl (decide (x = .non))) H) ∨ ∃ a b, x = .bl a ∧ y = .bl b ∧ Q (.bl (decide (a = b))) H) (isP false) := by
  intro G γ σ H x y d e R Q S rx ry h k
  rcases isP_core rx ry h with ⟨e, p, hR, hp⟩ | ⟨a, b, e1, e2, hR⟩
  · exact .inl ⟨e, k _ _ _ _ hR (by simp [hp]) (Same.refl _) S⟩
  · exact .inr ⟨a, b, e1, e2, k _ _ _ _ hR (by simp) (Same.refl _) S⟩
theorem ok_isnotP : OkRP B (fun x y H Q => (y = .non ∧ Q (.bl (!decide (x = .non))) H) ∨ ∃ a b, x = .bl a ∧ y = .bl b ∧ Q (.bl (!decide (a = b))) H) (isP true) := by
  intro G γ σ H x y d e R Q S rx ry h k
  rcases isP_core rx ry h with ⟨e, p, hR, hp⟩ | ⟨a, b, e1, e2, hR⟩
  · exact .inl ⟨e, k _ _ _ _ hR (by simp [hp]) (Same.refl _) S⟩
  · exact .inr ⟨a, b, e1, e2, k _ _ _ _ hR (by simp) (Same.refl _) S⟩
theorem op_isPP : OpR X (compareOp .Is) (fun x y H Q => (y = .non ∧ Q (.bl (decide (x = .non))) H) ∨ ∃ a b, x = .bl a ∧ y = .bl b ∧ Q (.bl (decide (a = b))) H) := OpR.or op_isN op_is_bl
theorem op_isnotPP : OpR X (compareOp .IsNot) (fun x y H Q => (y = .non ∧ Q (.bl (!decide (x = .non))) H) ∨ ∃ a b, x = .bl a ∧ y = .bl b ∧ Q (.bl (!decide (a = b))) H) := OpR.or op_notN op_isnot_bl
end
end EL
namespace EL
open PySem PySem.Spec PyProof.Rows L2
/-! ### own things lent: for one expression they are read alone, then one's own again -/
def thawSl (s : Sl) : Sl := match thaw s with
  | some d => .fz d
  | none => s
def thawL (γ : GL) : GL := γ.map thawSl
def thawAll (γ : Gm) : Gm := ⟨thawL γ.sl, γ.ct⟩
def asAll (γ : GL) : List Addr := γ.flatMap Sl.as
theorem mem_asAll {γ : GL} {p : Addr} : p ∈ asAll γ ↔ ∃ (i : Nat) (s : Sl), γ[i]? = some s ∧ p ∈ s.as := by
  unfold asAll
  rw [List.mem_flatMap]
  constructor
  · rintro ⟨s, hs, hp⟩
    obtain ⟨i, hi⟩ := List.getElem?_of_mem hs
    exact ⟨i, s, hi, hp⟩
  · rintro ⟨i, s, hi, hp⟩
    exact ⟨s, List.mem_of_getElem? hi, hp⟩
theorem thawSl_as (s : Sl) : (thawSl s).as = [] := by cases s <;> rfl
theorem SlOk.thawL {W : Cw} {G H : Hp} {o : Option V} {s : Sl} {l : List Addr} (h : SlOk W G H o s) (hl : ∀ p ∈ s.as, p ∈ l) (e : Same G (froz G H l)) : SlOk W (froz G H l) H o (thawSl s) := by
  cases s with
  | un => trivial
  | fz d => obtain ⟨v, a, b⟩ := h; exact ⟨v, a, b.mono e⟩
  | own p ds =>
    obtain ⟨a, vs, b, c⟩ := h
    exact ⟨_, a, .lst (by rw [froz_in (hl p (List.mem_singleton.mpr rfl))]; exact b) (c.mono e)⟩
  | ownD p kvs =>
    obtain ⟨a, vs, b, c⟩ := h
    exact ⟨_, a, .dct (by rw [froz_in (hl p (List.mem_singleton.mpr rfl))]; exact b) (c.mono e)⟩
  | ownT p kvs =>
    obtain ⟨a, b⟩ := h
    exact ⟨_, a, .dcT (by rw [froz_in (hl p (List.mem_singleton.mpr rfl))]; exact b)⟩
  | ownL p kvs =>
    obtain ⟨a, b, c, nd⟩ := h
    refine ⟨_, a, .dct (by rw [froz_in (hl p List.mem_cons_self)]; exact b) ?_⟩
    have go : ∀ l' : List (Key × (Addr × List D)), (∀ k ∈ l', k ∈ kvs) → RpKv W (froz G H l) (l'.map fun k => (k.1, V.ref k.2.1)) (l'.map fun k => (k.1, D.lst k.2.2)) := by
      intro l'
      induction l' with
      | nil => exact fun _ => .nil
      | cons k l' ih =>
        intro hk
        obtain ⟨vs, x, y⟩ := c k (hk k List.mem_cons_self)
        exact .cons (.lst (by rw [froz_in (hl _ (List.mem_cons_of_mem _ (List.mem_map.mpr ⟨k, hk k List.mem_cons_self, rfl⟩)))]; exact x) (y.mono e)) (ih fun k' hk' => hk k' (List.mem_cons_of_mem _ hk'))
    exact go kvs fun _ h => h
section
variable {X : Cx} {B : Bs} {G G' G1 G2 : Hp} {γ γ' : Gm} {σ σ' : L2.St} {H H' H2 : Hp} {e a b : Expr} {ta tb t : DT} {pos : Pos} {st : Stmt} {p : Addr} {o o' : HO}
theorem Dst.lend {m : Nat} {γ : GL} (S : Dst B m G γ σ H) : Same G (froz G H (asAll γ)) ∧ Dst B m (froz G H (asAll γ)) (thawL γ) σ H := by
  have off : ∀ b ∈ asAll γ, B.H0 b = none ∧ G b = none := fun b hb => by
    obtain ⟨i, s, e, hp⟩ := mem_asAll.mp hb
    exact S.off i s b e hp
  have sm : Same G (froz G H (asAll γ)) := fun b u e => by
    rw [froz_out fun z => by rw [(off b z).2] at e; cases e]
    exact e
  have at1 : ∀ (i : Nat) (t : Sl), (thawL γ)[i]? = some t → ∃ s, γ[i]? = some s ∧ t = thawSl s := fun i t e => by
    unfold thawL at e
    rw [List.getElem?_map] at e
    cases q : γ[i]? with
    | none => rw [q] at e; cases e
    | some s => rw [q] at e; cases e; exact ⟨s, rfl, rfl⟩
  refine ⟨sm, ?_⟩
  constructor
  · exact S.law
  · exact S.le
  · exact S.up
  · intro b u e
    by_cases z : b ∈ asAll γ
    · rw [froz_in z] at e; exact e
    · rw [froz_out z] at e; exact S.sub b u e
  · exact fun b u e => sm b u (S.sub0 b u e)
  · exact S.kept
  · intro q h1 h2
    rw [froz_out fun z => h1 (off q z).1]; exact S.fresh q h1 h2
  · intro q xs e
    by_cases z : q ∈ asAll γ
    · rw [froz_in z]; exact e
    · rw [froz_out z]; exact S.tups q xs e
  · exact S.dkok
  · unfold thawL; rw [List.length_map]; exact S.len
  · intro i t e
    obtain ⟨s, h, rfl⟩ := at1 i t e
    obtain ⟨o, h1, h2⟩ := S.slot i s h
    exact ⟨o, h1, h2.thawL (fun p hp => mem_asAll.mpr ⟨i, s, h, hp⟩) sm⟩
  · intro i t p e hp
    obtain ⟨s, h, rfl⟩ := at1 i t e
    rw [thawSl_as] at hp
    cases hp
  · intro i j p t u e _ hp _
    obtain ⟨s, h, rfl⟩ := at1 i t e
    rw [thawSl_as] at hp
    cases hp
def unf (G : Hp) (l : List Addr) : Hp := fun b => if b ∈ l then none else G b
theorem unf_in {l : List Addr} {b : Addr} (h : b ∈ l) : unf G l b = none := if_pos h
theorem unf_out {l : List Addr} {b : Addr} (h : b ∉ l) : unf G l b = G b := if_neg h
theorem Dst.unlend {m m' : Nat} {γ : GL} {vs : List Nat} (S : Dst B m G γ σ H) (sm : Same (froz G H (asAll γ)) G2) (S2 : Dst B m' G2 (wipeL (thawL γ) vs) σ H2) :
    Same G (unf G2 (asAll γ)) ∧ Dst B m' (unf G2 (asAll γ)) (wipeL γ vs) σ H2 ∧ SameT G2 (unf G2 (asAll γ)) := by
  have off : ∀ b ∈ asAll γ, B.H0 b = none ∧ G b = none := fun b hb => by
    obtain ⟨i, s, e, hp⟩ := mem_asAll.mp hb
    exact S.off i s b e hp
  have there : ∀ b ∈ asAll γ, ((∃ xs, H b = some (.lst xs)) ∨ (∃ xs, H b = some (.dK xs)) ∨ ∃ xs, H b = some (.dT xs)) ∧ G2 b = H b ∧ H2 b = H b := fun b hb => by
    obtain ⟨i, s, e, hp⟩ := mem_asAll.mp hb
    obtain ⟨o, _, h2⟩ := S.slot i s e
    rcases h2.there b hp with ⟨xs, h⟩ | ⟨xs, h⟩ | ⟨xs, h⟩
    · have g := sm b _ (by rw [froz_in hb]; exact h)
      exact ⟨.inl ⟨xs, h⟩, by rw [g, h], by rw [S2.sub b _ g, h]⟩
    · have g := sm b _ (by rw [froz_in hb]; exact h)
      exact ⟨.inr (.inl ⟨xs, h⟩), by rw [g, h], by rw [S2.sub b _ g, h]⟩
    · have g := sm b _ (by rw [froz_in hb]; exact h)
      exact ⟨.inr (.inr ⟨xs, h⟩), by rw [g, h], by rw [S2.sub b _ g, h]⟩
  have sg : Same G (unf G2 (asAll γ)) := fun b u e => by
    have n : b ∉ asAll γ := fun z => by rw [(off b z).2] at e; cases e
    rw [unf_out n]
    exact sm b u (by rw [froz_out n]; exact e)
  have at1 : ∀ (i : Nat) (t : Sl), (wipeL γ vs)[i]? = some t → (t = .un ∧ i < γ.length) ∨ (γ[i]? = some t ∧ i ∉ vs) := fun i t e => by
    rw [wipeL_get] at e
    by_cases h : i ∈ vs
    · rw [if_pos h] at e
      cases q : γ[i]? with
      | none => rw [q] at e; cases e
      | some u => rw [q] at e; cases e; exact .inl ⟨rfl, (List.getElem?_eq_some_iff.mp q).1⟩
    · rw [if_neg h] at e
      exact .inr ⟨e, h⟩
  refine ⟨sg, ?_, ?_⟩
  · constructor
    · exact S.law
    · exact S2.le
    · exact S.up
    · intro b u e
      by_cases z : b ∈ asAll γ
      · rw [unf_in z] at e; cases e
      · rw [unf_out z] at e; exact S2.sub b u e
    · exact fun b u e => sg b u (S.sub0 b u e)
    · exact S2.kept
    · intro q h1 h2
      by_cases z : q ∈ asAll γ
      · exact unf_in z
      · rw [unf_out z]; exact S2.fresh q h1 h2
    · intro q xs e
      by_cases z : q ∈ asAll γ
      · obtain ⟨h, _, h2⟩ := there q z
        rw [h2] at e
        rcases h with ⟨ys, h⟩ | ⟨ys, h⟩ | ⟨ys, h⟩ <;> (rw [h] at e; cases e)
      · rw [unf_out z]; exact S2.tups q xs e
    · exact S2.dkok
    · rw [wipeL_len]; exact S.len
    · intro i t e
      rcases at1 i t e with ⟨e1, l⟩ | ⟨h, _⟩
      · subst e1
        have l' : i < σ.length := by rw [S.len]; exact l
        exact ⟨σ[i], List.getElem?_eq_getElem l', trivial⟩
      · obtain ⟨o, h1, h2⟩ := S.slot i t h
        exact ⟨o, h1, h2.mono sg fun p hp => (there p (mem_asAll.mpr ⟨i, t, h, hp⟩)).2.2⟩
    · intro i t p e hp
      rcases at1 i t e with ⟨e1, l⟩ | ⟨h, _⟩
      · subst e1; cases hp
      · exact ⟨(S.off i t p h hp).1, unf_in (mem_asAll.mpr ⟨i, t, h, hp⟩)⟩
    · intro i j p s t e1 e2 p1 p2
      rcases at1 i s e1 with ⟨q, _⟩ | ⟨h1, _⟩
      · subst q; cases p1
      · rcases at1 j t e2 with ⟨q, _⟩ | ⟨h2, _⟩
        · subst q; cases p2
        · exact S.nd i j p s t h1 h2 p1 p2
  · intro b u e n1 n2 n3
    rw [unf_out fun z => ?_]
    · exact e
    · obtain ⟨h, h1, _⟩ := there b z
      rw [h1] at e
      rcases h with ⟨ys, h⟩ | ⟨ys, h⟩ | ⟨ys, h⟩
      · rw [h] at e; cases e; exact n1 _ rfl
      · rw [h] at e; cases e; exact n2 _ rfl
      · rw [h] at e; cases e; exact n3 _ rfl
/-- what an expression leaves of the slots that were lent: but its own variables all is as it was; there may be more draws -/
def dLend (t : DT) : DT := fun γ R => t (thawAll γ) fun c γ' => solid c = true ∧ ∃ vs, γ'.sl = wipeL (thawL γ.sl) vs ∧ R c ⟨wipeL γ.sl vs, γ'.ct⟩
theorem d_lend (h : PE X e (tD B t)) : PE X e (tD B (dLend t)) := pe_imp h fun σ H Q ⟨G, γ, R, S, h, k⟩ => by
  obtain ⟨sm, S1⟩ := S.lend
  refine ⟨_, thawAll γ, _, S1, h, fun d γ' G' v H' ⟨hs, vs, e, q⟩ s' S' r => ?_⟩
  have S'' : Dst B γ'.ct G' γ'.sl σ H' := S'
  rw [e] at S''
  obtain ⟨sg, S3, st⟩ := S.unlend s' S''
  exact k d ⟨wipeL γ.sl vs, γ'.ct⟩ _ v H' q sg S3 (r.solid st hs)
def bLend (t : DB) : DB := fun γ R => t (thawAll γ) fun p γ' => ∃ vs, γ'.sl = wipeL (thawL γ.sl) vs ∧ R p ⟨wipeL γ.sl vs, γ'.ct⟩
theorem b_lend {t : DB} (h : PT X e (tDB B t)) : PT X e (tDB B (bLend t)) := pt_imp h fun σ H Q ⟨G, γ, R, S, h, k⟩ => by
  obtain ⟨sm, S1⟩ := S.lend
  refine ⟨_, thawAll γ, _, S1, h, fun p b γ' G' H' ⟨vs, e, q⟩ hb s' S' => ?_⟩
  have S'' : Dst B γ'.ct G' γ'.sl σ H' := S'
  rw [e] at S''
  obtain ⟨sg, S3, st⟩ := S.unlend s' S''
  exact k p b ⟨wipeL γ.sl vs, γ'.ct⟩ _ H' q hb sg S3
def fLend (t : DA) : DA := fun γ R => t (thawAll γ) fun ds γ' => solids ds = true ∧ ∃ vs, γ'.sl = wipeL (thawL γ.sl) vs ∧ R ds ⟨wipeL γ.sl vs, γ'.ct⟩
theorem lend_core {t : DA} : ∀ σ H Q, tDF B (fLend t) σ H Q → tDF B t σ H Q := fun σ H Q ⟨G, γ, R, S, h, k⟩ => by
  obtain ⟨sm, S1⟩ := S.lend
  refine ⟨_, thawAll γ, _, S1, h, fun ds γ' G' p us H' ⟨hs, vs, e, q⟩ s' S' hp r h0 hg hn => ?_⟩
  have S'' : Dst B γ'.ct G' γ'.sl σ H' := S'
  rw [e] at S''
  obtain ⟨sg, S3, st⟩ := S.unlend s' S''
  have np : p ∉ asAll γ.sl := fun z => by
    obtain ⟨i, s, e, hq⟩ := mem_asAll.mp z
    obtain ⟨o, _, h2⟩ := S.slot i s e
    have : froz G H (asAll γ.sl) p = H p := froz_in z
    rcases h2.there p hq with ⟨xs, h⟩ | ⟨xs, h⟩ | ⟨xs, h⟩
    · rw [s' p _ (by rw [this]; exact h)] at hg; cases hg
    · rw [s' p _ (by rw [this]; exact h)] at hg; cases hg
    · rw [s' p _ (by rw [this]; exact h)] at hg; cases hg
  refine k ds ⟨wipeL γ.sl vs, γ'.ct⟩ _ p us H' q sg S3 hp (r.solid st hs) h0 (by rw [unf_out np]; exact hg) ?_
  exact NoSlot.wipe (fun i s e hq => np (mem_asAll.mpr ⟨i, s, e, hq⟩)) vs
theorem f_lend {t : DA} (h : PE X e (tDF B t)) : PE X e (tDF B (fLend t)) := pe_imp h lend_core
theorem a_lend {t : DA} {g : TG} (h : PS X st (tAsg (tDF B t) g)) : PS X st (tAsg (tDF B (fLend t)) g) := ps_imp h fun De σ H q => lend_core σ H _ q
/-! ### own lists changed: what a method makes of the content and the arguments -/
abbrev FM := List D → List D → (D → List D → Prop) → Prop
def OkM (r : V → List V → Hp → VK → Prop) (f : FM) : Prop := ∀ (W : Cw) (G H : Hp) (p : Addr) (us xs : List V) (ds es : List D) (R : D → List D → Prop) (Q : VK), Same G H → H p = some (.lst us) → G p = none → RpAll W G us ds → RpAll W G xs es → f ds es R →
  (∀ c v ws cs, R c cs → Rp W G v c → RpAll W G ws cs → Q v (upd H p (.lst ws))) → r (.ref p) xs H Q
def dMut (i : Nat) (f : FM) (ta : DA) : DT := fun γ R => (∃ p ds, look γ i = .own p ds) ∧ ta γ fun es γ1 => match look γ1 i with
  | .own p ds => f ds es fun c cs => R c (putS γ1 i (.own p cs))
  | _ => False
theorem d_mut {i : Nat} {f : FM} {ta : DA} {r : V → List V → Hp → VK → Prop} (hr : OkM r f) (h : PE X e (tBM X.K "list" r (tVar i) (tDA B ta))) : PE X e (tD B (dMut i f ta)) := pe_imp h fun σ H Q ⟨G, γ, R, S, ⟨⟨p0, ds0, hi⟩, h⟩, k⟩ => by
  obtain ⟨o, h1, h2, vs, h3, h4⟩ := S.slot i _ (look_get hi (fun z => nomatch z))
  subst h2
  refine ⟨_, h1, .inl ⟨rfl, vs, SqL.of h3⟩, G, γ, _, S, h, fun es γ1 G1 xs H1 q sm S1 r1 => ?_⟩
  split at q
  · rename_i p ds hi1
    have hg := look_get hi1 (fun z => nomatch z)
    obtain ⟨o', k1, k2, us, k3, k4⟩ := S1.slot i _ hg
    subst k2
    rw [h1] at k1
    cases k1
    exact hr B.W G1 H1 p0 us xs ds es _ _ S1.sub k3 (S1.off i _ p0 hg (List.mem_singleton.mpr rfl)).2 k4 r1 q fun c v ws cs hR rv rw' => k _ (putS γ1 i (.own p0 cs)) _ _ _ hR sm (by rw [putS_eq]; exact S1.store hg rw') rv
  · exact q.elim
/-- without arguments -/
theorem d_mut0 {i : Nat} {f : FM} {r : V → List V → Hp → VK → Prop} (hr : OkM r f) (h : PE X e (tBM0 X.K "list" r (tVar i))) : PE X e (tD B (dMut i f aNil)) := pe_imp h fun σ H Q ⟨G, γ, R, S, ⟨⟨p0, ds0, hi⟩, q⟩, k⟩ => by
  obtain ⟨o, h1, h2, vs, h3, h4⟩ := S.slot i _ (look_get hi (fun z => nomatch z))
  subst h2
  refine ⟨_, h1, .inl ⟨rfl, vs, SqL.of h3⟩, ?_⟩
  unfold aNil at q
  dsimp only at q
  rw [hi] at q
  have hg := look_get hi (fun z => nomatch z)
  exact hr B.W G H p0 vs [] ds0 [] _ _ S.sub h3 (S.off i _ p0 hg (List.mem_singleton.mpr rfl)).2 h4 .nil q fun c v ws cs hR rv rw' => k _ (putS γ i (.own p0 cs)) _ _ _ hR (Same.refl _) (by rw [putS_eq]; exact S.store hg rw') rv
def appM : FM := fun ds es R => match es with
  | [d] => ds.length < 1000000 ∧ R .non (ds ++ [d])
  | _ => False
theorem ok_appM : OkM rAppend appM := by
  intro W G H p us xs ds es R Q sm hp hg ru rx h k
  unfold appM at h
  split at h
  · cases rx with
    | cons r1 r2 =>
      cases r2
      exact ⟨p, us, _, rfl, rfl, hp, by rw [ru.len]; exact Nat.lt_of_lt_of_le h.1 (by decide), k _ _ _ _ h.2 .non (ru.app (.cons r1 .nil))⟩
  · exact h.elim
def extM : FM := fun ds es R => match es with
  | [.lst cs] => ds.length + cs.length ≤ 1000000 ∧ R .non (ds ++ cs)
  | _ => False
theorem ok_extM : OkM rExtend extM := by
  intro W G H p us xs ds es R Q sm hp hg ru rx h k
  unfold extM at h
  split at h
  · cases rx with
    | cons r1 r2 =>
      cases r2
      cases r1 with
      | lst hs ra => exact ⟨p, _, us, _, rfl, rfl, hp, sm _ _ hs, by rw [ru.len, ra.len]; exact sz_ok h.1, k _ _ _ _ h.2 .non (ru.app ra)⟩
  · exact h.elim
def popM : FM := fun ds es R => match es with
  | [] => ∃ d, ds[ds.length - 1]? = some d ∧ R d ds.dropLast
  | _ => False
theorem RpAll.dropLast {W : Cw} {vs : List V} {ds : List D} (r : RpAll W G vs ds) : RpAll W G vs.dropLast ds.dropLast := by
  rw [List.dropLast_eq_take, List.dropLast_eq_take, r.len]
  exact r.take _
theorem ok_popM : OkM rPop popM := by
  intro W G H p us xs ds es R Q sm hp hg ru rx h k
  unfold popM at h
  split at h
  · cases rx
    obtain ⟨d, hd, h⟩ := h
    obtain ⟨v, hv, rv⟩ := ru.get hd
    exact ⟨p, us, v, rfl, rfl, hp, by rw [ru.len]; exact hv, k _ _ _ _ h rv ru.dropLast⟩
  · exact h.elim
def popAtM : FM := fun ds es R => match es with
  | [.int i] => (-(2 ^ 62) ≤ i ∧ i < 2 ^ 62) ∧ ∃ j d, seqIndex? i ds.length = some j ∧ ds[j]? = some d ∧ R d (ds.eraseIdx j)
  | _ => False
theorem ok_popAtM : OkM rPopAt popAtM := by
  intro W G H p us xs ds es R Q sm hp hg ru rx h k
  unfold popAtM at h
  split at h
  · cases rx with
    | cons r1 r2 =>
      cases r2
      cases rpInt r1
      obtain ⟨⟨l1, l2⟩, j, d, hj, hd, h⟩ := h
      obtain ⟨v, hv, rv⟩ := ru.get hd
      exact ⟨p, us, _, j, v, rfl, rfl, hp, by omega, by omega, by rw [ru.len]; exact hj, hv, k _ _ _ _ h rv (ru.erase j)⟩
  · exact h.elim
/-! ### x[k] = v of an own list -/
def sSetIt (i : Nat) (tk tv : DT) : DS := fun E γ => tv γ fun d γ1 => (∃ p ds, look γ1 i = .own p ds) ∧ tk γ1 fun k γ2 => match look γ2 i, k with
  | .own p ds, .int z => ∃ j, ixN ds.length z = some j ∧ E.nx (putS γ2 i (.own p (ds.set j d)))
  | _, _ => False
theorem s_setIt {i : Nat} {tk tv : DT} (h : PS X st (tAsg (tD B tv) (gSub (tVar i) (tD B tk) rSetL))) : PS X st (tDS B (sSetIt i tk tv)) := ps_imp h fun De σ H ⟨G, γ, E, S, h, F⟩ =>
  ⟨G, γ, _, S, h, fun d γ1 G1 v H1 ⟨⟨p0, ds0, hi⟩, q⟩ s1 S1 r1 => by
    obtain ⟨o, h1, h2, vs, h3, h4⟩ := S1.slot i _ (look_get hi (fun z => nomatch z))
    subst h2
    refine ⟨_, h1, G1, γ1, _, S1, q, fun k γ2 G2 u H2 q2 s2 S2 r2 => ?_⟩
    split at q2
    · rename_i p ds z hi2
      have hg := look_get hi2 (fun z => nomatch z)
      obtain ⟨o', k1, k2, us, k3, k4⟩ := S2.slot i _ hg
      subst k2
      rw [h1] at k1
      cases k1
      cases rpInt r2
      obtain ⟨j, hj, q2⟩ := q2
      refine ⟨p0, us, z, j, rfl, rfl, k3, by rw [k4.len]; exact hj, ?_⟩
      rw [putS_eq] at q2
      exact F.nx _ _ _ _ q2 (s1.trans s2) (S2.store hg (k4.set (r1.mono s2) j))
    · exact q2.elim⟩
end
end EL
namespace EL
open PySem PySem.Spec PyProof.Rows L2
section
variable {X : Cx} {B : Bs} {G G' G1 G2 : Hp} {γ γ' : Gm} {σ σ' : L2.St} {H H' H2 : Hp} {e a b : Expr} {ta tb t : DT} {pos : Pos} {st : Stmt} {p : Addr}
/-! ### lists of one kind -/
theorem rp_ints {W : Cw} : ∀ {ns : List Int} {vs : List V}, RpAll W G vs (ns.map D.int) → vs = ns.map V.int
  | [], _, .nil => rfl
  | n :: ns, _, .cons r t => by
    rw [rpInt r, rp_ints (ns := ns) t]
    rfl
theorem rp_bls {W : Cw} : ∀ {ns : List Bool} {vs : List V}, RpAll W G vs (ns.map D.bl) → vs = ns.map V.bl
  | [], _, .nil => rfl
  | n :: ns, _, .cons r t => by
    rw [rpBl r, rp_bls (ns := ns) t]
    rfl
theorem rp_strs {W : Cw} : ∀ {ns : List Str} {vs : List V}, RpAll W G vs (ns.map D.str) → vs = ns.map V.str
  | [], _, .nil => rfl
  | n :: ns, _, .cons r t => by
    rw [rpStr r, rp_strs (ns := ns) t]
    rfl
theorem ints_rp {W : Cw} : ∀ (ns : List Int), RpAll W G (ns.map V.int) (ns.map D.int)
  | [] => .nil
  | n :: ns => .cons (.int n) (ints_rp ns)
theorem strs_rp {W : Cw} : ∀ (ns : List Str), RpAll W G (ns.map V.str) (ns.map D.str)
  | [] => .nil
  | n :: ns => .cons (.str n) (strs_rp ns)
def anyF : FC := fun ds R => match ds with
  | [.lst xs] => ∃ bs : List Bool, xs = bs.map D.bl ∧ R (.bl (bs.any id))
  | _ => False
theorem ok_any (hK : X.K = B.K) : OkRC B (rAny X.K) anyF := by
  intro G γ σ H vs ds R Q S r h k
  rw [hK]
  unfold anyF at h
  split at h
  · obtain ⟨bs, e, h⟩ := h
    subst e
    cases r with
    | cons r1 r2 =>
      cases r2
      cases r1 with
      | lst hs ra =>
        rw [rp_bls ra] at hs
        exact ⟨_, bs, rfl, SqL.of (S.sub _ _ hs), k _ _ _ _ h (Same.refl _) S (.bl _)⟩
  · exact h.elim
def allF : FC := fun ds R => match ds with
  | [.lst xs] => ∃ bs : List Bool, xs = bs.map D.bl ∧ R (.bl (bs.all id))
  | _ => False
theorem ok_all (hK : X.K = B.K) : OkRC B (rAll X.K) allF := by
  intro G γ σ H vs ds R Q S r h k
  rw [hK]
  unfold allF at h
  split at h
  · obtain ⟨bs, e, h⟩ := h
    subst e
    cases r with
    | cons r1 r2 =>
      cases r2
      cases r1 with
      | lst hs ra =>
        rw [rp_bls ra] at hs
        exact ⟨_, bs, rfl, SqL.of (S.sub _ _ hs), k _ _ _ _ h (Same.refl _) S (.bl _)⟩
  · exact h.elim
def sumF : FC := fun ds R => match ds with
  | [.lst xs] => ∃ ns : List Int, xs = ns.map D.int ∧ R (.int ns.sum)
  | _ => False
theorem ok_sum (hK : X.K = B.K) : OkRC B (rSum X.K) sumF := by
  intro G γ σ H vs ds R Q S r h k
  rw [hK]
  unfold sumF at h
  split at h
  · obtain ⟨bs, e, h⟩ := h
    subst e
    cases r with
    | cons r1 r2 =>
      cases r2
      cases r1 with
      | lst hs ra =>
        rw [rp_ints ra] at hs
        exact ⟨_, bs, rfl, SqL.of (S.sub _ _ hs), k _ _ _ _ h (Same.refl _) S (.int _)⟩
  · exact h.elim
def maxF : FC := fun ds R => match ds with
  | [.lst xs] => ∃ ns : List Int, xs = ns.map D.int ∧ 0 < ns.length ∧ ∀ m, m ∈ ns → (∀ y, y ∈ ns → y ≤ m) → R (.int m)
  | _ => False
theorem ok_max (hK : X.K = B.K) : OkRC B (rMax X.K) maxF := by
  intro G γ σ H vs ds R Q S r h k
  rw [hK]
  unfold maxF at h
  split at h
  · obtain ⟨bs, e, hl, h⟩ := h
    subst e
    cases r with
    | cons r1 r2 =>
      cases r2
      cases r1 with
      | lst hs ra =>
        rw [rp_ints ra] at hs
        exact ⟨_, bs, rfl, SqL.of (S.sub _ _ hs), hl, fun m h1 h2 => k _ _ _ _ (h m h1 h2) (Same.refl _) S (.int _)⟩
  · exact h.elim
/-- tuple(reversed(xs)) -/
def dTupRev (t : DT) : DT := fun γ R => t γ fun d γ1 => match d with
  | .lst xs => R (.tup xs.reverse) γ1
  | _ => False
theorem d_tupRev (h : PE X e (RT.tTupRev B.K (tD B t))) : PE X e (tD B (dTupRev t)) := pe_imp h fun σ H Q ⟨G, γ, R, S, h, k⟩ => ⟨G, γ, _, S, h, fun d γ1 G1 v H1 q sm S1 r => by
  split at q
  · cases r with
    | lst hs ra =>
      refine ⟨_, _, rfl, SqL.of (S1.sub _ _ hs), fun l hl => ?_⟩
      obtain ⟨G2, s2, S2, r2⟩ := S1.newTup ra.rev hl
      exact k _ _ _ _ _ q (sm.trans s2) S2 r2
  · exact q.elim⟩
/-- xs[::-1] -/
def fRev (t : DT) : DA := fun γ R => t γ fun d γ1 => match d with
  | .lst xs => R xs.reverse γ1
  | _ => False
theorem f_rev (h : PE X e (tRevL B.K (tD B t))) : PE X e (tDF B (fRev t)) := pe_imp h fun σ H Q ⟨G, γ, R, S, h, k⟩ => ⟨G, γ, _, S, h, fun d γ1 G1 v H1 q sm S1 r => by
  split at q
  · cases r with
    | lst hs ra =>
      refine ⟨_, _, rfl, SqL.of (S1.sub _ _ hs), fun l hl => ?_⟩
      exact k _ _ _ _ _ _ q sm (S1.laid (fun _ z => nomatch z) hl) upd_same ra.rev (S1.free0 hl) (S1.sub.free hl) (S1.noslot hl)
  · exact q.elim⟩
/-! ### methods of texts -/
abbrev FS1 := Str → D → (D → Prop) → Prop
def dS1 (f : D → D → (D → Prop) → Prop) (to ta : DT) : DT := fun γ R => to γ fun d γ1 => match d with
  | .str z => ta γ1 fun x γ2 => f (.str z) x fun c => R c γ2
  | _ => False
def OkM1 (B : Bs) (r : V → List V → Hp → VK → Prop) (f : D → D → (D → Prop) → Prop) : Prop := ∀ G γ σ H (z : Str) x d R Q, DstG B G γ σ H → Rp B.W G x d → f (.str z) d R →
  (∀ c G' v H', R c → Same G G' → DstG B G' γ σ H' → Rp B.W G' v c → Q v H') → r (.str z) [x] H Q
theorem d_s1 {r : V → List V → Hp → VK → Prop} {f : D → D → (D → Prop) → Prop} (hr : OkM1 B r f) (h : PE X e (tM1 r (tD B t) (tD B ta))) : PE X e (tD B (dS1 f t ta)) := pe_imp h fun σ H Q ⟨G, γ, R, S, h, k⟩ =>
  ⟨G, γ, _, S, h, fun d γ1 G1 v H1 q s1 S1 r1 => by
    split at q
    · rename_i z
      cases rpStr r1
      exact ⟨⟨z, rfl⟩, G1, γ1, _, S1, q, fun x γ2 G2 u H2 q2 s2 S2 r2 => hr _ _ _ _ _ _ _ _ _ S2 r2 q2 fun c G' v H' hc s' S' r' => k _ _ _ _ _ hc (s1.trans (s2.trans s')) S' r'⟩
    · exact q.elim⟩
def joinF : D → D → (D → Prop) → Prop := fun d x R => match d, x with
  | .str a, .lst xs => ∃ ys : List Str, xs = ys.map D.str ∧ (ys.map (·.length)).sum + ys.length * a.length ≤ 1000000 ∧ R (.str (Txt.join a ys))
  | .str a, .tup xs => ∃ ys : List Str, xs = ys.map D.str ∧ (ys.map (·.length)).sum + ys.length * a.length ≤ 1000000 ∧ R (.str (Txt.join a ys))
  | _, _ => False
theorem ok_join (hK : X.K = B.K) : OkM1 B (fun x xs H Q => ∃ a p, ∃ ys : List Str, x = .str a ∧ xs = [.ref p] ∧ (SqL X.K H p (ys.map V.str) ∨ SqT X.K H p (ys.map V.str)) ∧
      (ys.map (·.length)).sum + ys.length * a.length ≤ 16777216 ∧ Q (.str (Txt.join a ys)) H) joinF := by
  intro G γ σ H z x d R Q S r h k
  rw [hK]
  unfold joinF at h
  split at h
  · rename_i _ e1
    cases e1
    obtain ⟨ys, e, hl, h⟩ := h
    subst e
    cases r with
    | lst hs ra =>
      rw [rp_strs ra] at hs
      exact ⟨_, _, ys, rfl, rfl, .inl (SqL.of (S.sub _ _ hs)), by omega, k _ _ _ _ h (Same.refl _) S (.str _)⟩
  · rename_i _ e1
    cases e1
    obtain ⟨ys, e, hl, h⟩ := h
    subst e
    cases r with
    | tup hs ra =>
      rw [rp_strs ra] at hs
      exact ⟨_, _, ys, rfl, rfl, .inr (hs.sq S.sub), by omega, k _ _ _ _ h (Same.refl _) S (.str _)⟩
  · exact h.elim
/-- s.index(t): it is there -/
def sindexF : D → D → (D → Prop) → Prop := fun d x R => match d, x with
  | .str a, .str b => ∃ i rest, Builtin.Str.occurrences a b 0 a.length 1 = i :: rest ∧ R (.int (i : Nat))
  | _, _ => False
theorem ok_sindex : OkM1 B (fun x xs H Q => ∃ a b i rest, x = .str a ∧ xs = [.str b] ∧ Builtin.Str.occurrences a b 0 a.length 1 = i :: rest ∧ Q (.int (i : Nat)) H) sindexF := by
  intro G γ σ H z x d R Q S r h k
  unfold sindexF at h
  split at h
  · rename_i _ e1
    cases e1
    obtain ⟨i, rest, hi, h⟩ := h
    cases rpStr r
    exact ⟨_, _, i, rest, rfl, rfl, hi, k _ _ _ _ h (Same.refl _) S (.int _)⟩
  · exact h.elim
/-! ### repr of data of built-in kinds -/
def showOk (d : D) : Prop := isPy d = true ∧ (py d).showable = true ∧ (py d).hasDict = false ∧ (py d).depth ≤ 60 ∧ (py d).shown.length ≤ 1000000
def shownD (d : D) : Str := (py d).shown
end
end EL
namespace EL
open PySem PySem.Spec PyProof.Rows L2
/-! ### dicts by keys that are ints and texts -/
def keyD : D → Option Key
  | .int i => some (.inl i)
  | .str z => some (.inr z)
  | _ => none
def keyEq : Key → Key → Bool
  | .inl i, .inl j => i == j
  | .inr a, .inr b => a == b
  | _, _ => false
theorem keyEq_iff {a b : Key} : keyEq a b = true ↔ a = b := by
  cases a <;> cases b <;> simp [keyEq]
theorem keyEq_dec (a b : Key) : keyEq a b = decide (a = b) := by
  rw [Bool.eq_iff_iff, keyEq_iff, decide_eq_true_eq]
section
variable {α : Type}
def getK (key : Key) : List (Key × α) → Option α
  | [] => none
  | kv :: r => if keyEq kv.1 key then some kv.2 else getK key r
/-- in its place, or at the end -/
def setK (key : Key) (v : α) : List (Key × α) → List (Key × α)
  | [] => [(key, v)]
  | kv :: r => if keyEq kv.1 key then (kv.1, v) :: setA key v r else kv :: setK key v r
where setA (key : Key) (v : α) : List (Key × α) → List (Key × α)
  | [] => []
  | kv :: r => (if keyEq kv.1 key then (kv.1, v) else kv) :: setA key v r
def mergeD (kvs : List (Key × α)) : List (Key × α) → List (Key × α)
  | [] => kvs
  | kv :: r => mergeD (setK kv.1 kv.2 kvs) r
end
section
variable {X : Cx} {B : Bs} {G G' G1 G2 : Hp} {γ γ' : Gm} {σ σ' : L2.St} {H H' H2 : Hp} {e a b : Expr} {ta tb t : DT} {pos : Pos} {st : Stmt} {p : Addr}
theorem rp_key {W : Cw} {v : V} {d : D} {key : Key} (r : Rp W G v d) (h : keyD d = some key) : v = kV key := by
  cases r <;> first | (cases h; done) | (cases h; rfl)
theorem valV_get {W : Cw} {key : Key} : ∀ {vs : List (Key × V)} {ds : List (Key × D)}, RpKv W G vs ds → (∀ d, getK key ds = some d → ∃ v, valV vs key = some v ∧ Rp W G v d) ∧ (getK key ds = none → valV vs key = none)
  | _, _, .nil => ⟨(fun _ h => nomatch h), fun _ => rfl⟩
  | _, _, .cons (k := k) (v := v) (d := d) r t => by
    obtain ⟨h1, h2⟩ := valV_get (key := key) t
    unfold getK
    dsimp only
    by_cases e : k = key
    · rw [if_pos (keyEq_iff.mpr e), valV_pos (p := (k, v)) e]
      exact ⟨fun d' q => ⟨v, rfl, by cases q; exact r⟩, fun q => nomatch q⟩
    · rw [if_neg (fun q => e (keyEq_iff.mp q)), valV_neg (p := (k, v)) e]
      exact ⟨h1, h2⟩
theorem rp_setA {W : Cw} {key : Key} {v : V} {d : D} (r : Rp W G v d) : ∀ {vs : List (Key × V)} {ds : List (Key × D)}, RpKv W G vs ds → RpKv W G (vs.map fun kv => if kv.1 = key then (kv.1, v) else kv) (setK.setA key d ds)
  | _, _, .nil => .nil
  | _, _, .cons (k := k) r' t => by
    unfold setK.setA
    rw [List.map_cons]
    dsimp only
    by_cases e : k = key
    · rw [if_pos e, if_pos (keyEq_iff.mpr e)]
      exact .cons r (rp_setA r t)
    · rw [if_neg e, if_neg (fun q => e (keyEq_iff.mp q))]
      exact .cons r' (rp_setA r t)
theorem rp_putN {W : Cw} {key : Key} {v : V} {d : D} (r : Rp W G v d) : ∀ {vs : List (Key × V)} {ds : List (Key × D)}, RpKv W G vs ds → ¬ (vs.any fun kv => decide (kv.1 = key)) = true → RpKv W G (vs ++ [(key, v)]) (setK key d ds)
  | _, _, .nil, _ => .cons r .nil
  | _, _, .cons (k := k) r' t, h => by
    rw [List.any_cons, Bool.or_eq_true, not_or] at h
    unfold setK
    dsimp only
    rw [if_neg (fun q => h.1 (by rw [decide_eq_true_eq]; exact keyEq_iff.mp q))]
    exact .cons r' (rp_putN r t h.2)
theorem rp_putY {W : Cw} {key : Key} {v : V} {d : D} (r : Rp W G v d) : ∀ {vs : List (Key × V)} {ds : List (Key × D)}, RpKv W G vs ds → (vs.any fun kv => decide (kv.1 = key)) = true → RpKv W G (vs.map fun kv => if kv.1 = key then (kv.1, v) else kv) (setK key d ds)
  | _, _, .nil, h => by cases h
  | _, _, .cons (k := k) r' t, h => by
    unfold setK
    dsimp only
    rw [List.map_cons]
    dsimp only
    by_cases e : k = key
    · rw [if_pos e, if_pos (keyEq_iff.mpr e)]
      exact .cons r (rp_setA r t)
    · rw [if_neg e, if_neg (fun q => e (keyEq_iff.mp q))]
      rw [List.any_cons, Bool.or_eq_true] at h
      rcases h with h | h
      · exact absurd (of_decide_eq_true h) e
      · exact .cons r' (rp_putY r t h)
theorem rp_putK {W : Cw} {key : Key} {v : V} {d : D} (r : Rp W G v d) {vs : List (Key × V)} {ds : List (Key × D)} (t : RpKv W G vs ds) : RpKv W G (putK vs key v) (setK key d ds) := by
  unfold putK
  by_cases h : (vs.any fun kv => decide (kv.1 = key)) = true
  · rw [if_pos h]; exact rp_putY r t h
  · rw [if_neg h]; exact rp_putN r t h
theorem rp_merge {W : Cw} : ∀ {us : List (Key × V)} {es : List (Key × D)}, RpKv W G us es → ∀ {vs : List (Key × V)} {ds : List (Key × D)}, RpKv W G vs ds → RpKv W G (mergeK vs us) (mergeD ds es)
  | _, _, .nil, _, _, t => t
  | _, _, .cons r u, _, _, t => by
    unfold mergeK mergeD
    rw [List.foldl_cons]
    exact rp_merge u (rp_putK r t)
/-! ### d[k], d.get(k), d.get(k, x), k in d -/
def dDget (td tk : DT) : DT := fun γ R => td γ fun d γ1 => tk γ1 fun k γ2 => match d, keyD k with
  | .dct kvs, some key => ∃ c, getK key kvs = some c ∧ R c γ2
  | _, _ => False
theorem d_dget {td tk : DT} (h : PE X e (tDGet (tD B td) (tD B tk))) : PE X e (tD B (dDget td tk)) := pe_imp h fun σ H Q ⟨G, γ, R, S, h, k⟩ =>
  ⟨G, γ, _, S, h, fun d γ1 G1 v H1 q s1 S1 r1 => ⟨G1, γ1, _, S1, q, fun kk γ2 G2 u H2 q2 s2 S2 r2 => by
    split at q2
    · rename_i kvs key hk
      obtain ⟨c, hc, q2⟩ := q2
      have r1 := r1.mono s2
      cases r1 with
      | dct hs ra =>
        obtain ⟨v, hv, rv⟩ := (valV_get ra).1 c hc
        refine ⟨_, v, rfl, ?_, k _ _ _ _ _ q2 (s1.trans s2) S2 rv⟩
        rw [rp_key r2 hk, ← hv]
        exact DGet.k (S2.sub _ _ hs)
    · exact q2.elim⟩⟩
def dDget1 (td tk : DT) : DT := fun γ R => td γ fun d γ1 => tk γ1 fun k γ2 => match d, keyD k with
  | .dct kvs, some key => match getK key kvs with
    | some c => R c γ2
    | none => R .non γ2
  | _, _ => False
theorem d_dget1 {td tk : DT} (hd : ∀ γ R, td γ R → td γ fun d γ' => R d γ' ∧ ∃ kvs, d = .dct kvs) (h : PE X e (tDGet1 (tD B td) (tD B tk))) : PE X e (tD B (dDget1 td tk)) := pe_imp h fun σ H Q ⟨G, γ, R, S, h, k⟩ =>
  ⟨G, γ, _, S, hd _ _ h, fun d γ1 G1 v H1 ⟨q, kvs, ed⟩ s1 S1 r1 => by
    subst ed
    cases r1 with
    | @dct a vs _ hs ra =>
      refine ⟨a, rfl, .inl ⟨vs, .inl (S1.sub _ _ hs)⟩, G1, γ1, _, S1, q, fun kk γ2 G2 u H2 q2 s2 S2 r2 => ?_⟩
      split at q2
      · rename_i kvs' key e1 hk
        cases e1
        have ra2 := ra.mono s2
        refine ⟨valV vs key, by rw [rp_key r2 hk]; exact DGet.k (S2.sub _ _ (s2 _ _ hs)), ?_⟩
        cases e : getK key kvs with
        | some c =>
          rw [e] at q2
          obtain ⟨v, hv, rv⟩ := (valV_get ra2).1 c e
          rw [hv]
          exact k _ _ _ _ _ q2 (s1.trans s2) S2 rv
        | none =>
          rw [e] at q2
          rw [(valV_get ra2).2 e]
          exact k _ _ _ _ _ q2 (s1.trans s2) S2 .non
      · exact q2.elim⟩
def dDget2 (td tk tx : DT) : DT := fun γ R => td γ fun d γ1 => (∃ kvs, d = .dct kvs) ∧ tk γ1 fun k γ2 => tx γ2 fun x γ3 => match d, keyD k with
  | .dct kvs, some key => (∀ c, getK key kvs = some c → R c γ3) ∧ (getK key kvs = none → R x γ3)
  | _, _ => False
theorem d_dget2 {td tk tx : DT} (h : PE X e (tDGet2 (tD B td) (tD B tk) (tD B tx))) : PE X e (tD B (dDget2 td tk tx)) := pe_imp h fun σ H Q ⟨G, γ, R, S, h, k⟩ =>
  ⟨G, γ, _, S, h, fun d γ1 G1 v H1 ⟨⟨kvs, ed⟩, q⟩ s1 S1 r1 => by
    subst ed
    cases r1 with
    | @dct a vs _ hs ra =>
      refine ⟨a, rfl, .inl ⟨vs, .inl (S1.sub _ _ hs)⟩, G1, γ1, _, S1, q, fun kk γ2 G2 u H2 q2 s2 S2 r2 => ⟨G2, γ2, _, S2, q2, fun x γ3 G3 w H3 q3 s3 S3 r3 => ?_⟩⟩
      split at q3
      · rename_i kvs' key e1 hk
        cases e1
        have ra2 := ra.mono (s2.trans s3)
        refine ⟨valV vs key, by rw [rp_key r2 hk]; exact DGet.k (S3.sub _ _ (s3 _ _ (s2 _ _ hs))), ?_⟩
        cases e : getK key kvs with
        | some c =>
          obtain ⟨v, hv, rv⟩ := (valV_get ra2).1 c e
          rw [hv]
          exact k _ _ _ _ _ (q3.1 c e) (s1.trans (s2.trans s3)) S3 rv
        | none =>
          rw [(valV_get ra2).2 e]
          exact k _ _ _ _ _ (q3.2 e) (s1.trans (s2.trans s3)) S3 r3
      · exact q3.elim⟩
/-! ### {k: v, ..} -/
def dPairs : List (DT × DT) → Gm → (List (D × D) → Gm → Prop) → Prop
  | [], γ, R => R [] γ
  | (tk, tv) :: r, γ, R => tk γ fun x γ1 => tv γ1 fun y γ2 => dPairs r γ2 fun ps γ3 => R ((x, y) :: ps) γ3
def keyed : List (D × D) → Option (List (Key × D))
  | [] => some []
  | (k, v) :: r => match keyD k, keyed r with
    | some key, some kvs => some ((key, v) :: kvs)
    | _, _ => none
def fDisp (ts : List (DT × DT)) : DKv := fun γ R => dPairs ts γ fun ps γ' => match keyed ps with
  | some kvs => R (mergeD [] kvs) γ'
  | none => False
def RpPr (W : Cw) (G : Hp) : List (V × V) → List (D × D) → Prop := Paired fun p q => Rp W G p.1 q.1 ∧ Rp W G p.2 q.2
theorem pairs_run : ∀ (ts : List (DT × DT)) (G : Hp) (γ : Gm) (H : Hp) (R : List (D × D) → Gm → Prop) (Q : List (V × V) → Hp → Prop), DstG B G γ σ H → dPairs ts γ R →
    (∀ ps γ' G' vs H', R ps γ' → ps.length = ts.length → Same G G' → DstG B G' γ' σ H' → RpPr B.W G' vs ps → Q vs H') → tPairs (ts.map fun t => (tD B t.1, tD B t.2)) σ H Q
  | [], G, γ, H, R, Q, S, h, k => k [] γ G [] H h rfl (Same.refl _) S .nil
  | (tk, tv) :: r, G, γ, H, R, Q, S, h, k => ⟨G, γ, _, S, h, fun x γ1 G1 u H1 q1 s1 S1 r1 => ⟨G1, γ1, _, S1, q1, fun y γ2 G2 w H2 q2 s2 S2 r2 =>
      pairs_run r G2 γ2 H2 _ _ S2 q2 fun ps γ' G' vs H' q l s' S' rp => k _ _ _ _ _ q (by show ps.length + 1 = r.length + 1; rw [l]) (s1.trans (s2.trans s')) S' (.cons ⟨r1.mono (s2.trans s'), r2.mono s'⟩ rp)⟩⟩
theorem keyed_rp {W : Cw} {G : Hp} : ∀ {vs : List (V × V)} {ps : List (D × D)} {kvs : List (Key × D)}, RpPr W G vs ps → keyed ps = some kvs → ∃ us : List (Key × V), vs = us.map (fun kv => (kV kv.1, kv.2)) ∧ RpKv W G us kvs ∧ us.length = ps.length
  | _, _, kvs, .nil, h => by cases h; exact ⟨[], rfl, .nil, rfl⟩
  | _, _, kvs, .cons (b := (k, d)) r t, h => by
    unfold keyed at h
    split at h
    · rename_i key kvs' h1 h2
      cases h
      obtain ⟨us, e, ru, l⟩ := keyed_rp t h2
      refine ⟨(key, _) :: us, ?_, .cons r.2 ru, by rw [List.length_cons, l]; rfl⟩
      rw [List.map_cons, ← e]
      congr 1
      exact Prod.ext (rp_key r.1 h1) rfl
    · cases h
def tDP (B : Bs) (ts : List (DT × DT)) : List (TE × TE) := ts.map fun t => (tDx B t.1, tDx B t.2)
theorem f_disp {ts : List (DT × DT)} (h15 : ts.length ≤ 15) (h : PE X e (tDisp (tDP B ts))) : PE X e (tDFd B (fDisp ts)) := pe_imp h fun σ H Q ⟨G, γ, R, S, h, k⟩ p hp => by
  have hg : G p = none := S.sub.free hp
  have h0 : B.H0 p = none := S.free0 hp
  have hdk : ∀ d c, B.W.dk = some (d, c) → B.H0 d ≠ none ∧ B.H0 c ≠ none := fun d c e => ⟨(S.dkok d c e).2.1, (S.dkok d c e).2.2.1⟩
  have hn := S.noslot hp
  have S1 := (S.laid (o := .dK []) (fun _ z => nomatch z) hp).hide upd_same hg h0 hn
  have x : ∀ (ts : List (DT × DT)) σ H Q, tPairs (ts.map fun t => (tD (withH B (upd B.H0 p (.dK []))) t.1, tD (withH B (upd B.H0 p (.dK []))) t.2)) σ H Q → tPairs (tDP B ts) σ H Q := by
    intro ts
    induction ts with
    | nil => exact fun _ _ _ h => h
    | cons t r ih => exact fun σ H Q ⟨G, γ, R, S, h, k⟩ => ⟨_, G, γ, R, S, h, fun d γ' G' v H' a b c d' => by
        obtain ⟨G5, γ5, R5, S5, h5, k5⟩ := k d γ' G' v H' a b c d'
        exact ⟨_, G5, γ5, R5, S5, h5, fun d γ' G' v H' a b c d' => ih _ _ _ (k5 d γ' G' v H' a b c d')⟩⟩
  refine x ts σ _ _ (pairs_run (B := withH B (upd B.H0 p (.dK []))) ts G γ _ _ _ S1 h fun ps γ' G' vs H' q l s' S' rp => ?_)
  split at q
  · rename_i kvs hk
    obtain ⟨S2, hp2, hg2, hn2⟩ := S'.unhide h0 (S.sub0.free hg) hdk
    obtain ⟨us, e, ru, lu⟩ := keyed_rp rp hk
    refine ⟨hp2, us, e, by omega, ?_⟩
    exact k _ _ _ _ _ _ q s' (S2.offed (fun _ z => nomatch z) hg2 h0 hn2) upd_same (rp_merge ru .nil) h0 hg2 hn2
  · exact q.elim
end
end EL
namespace EL
open PySem PySem.Spec PyProof.Rows L2
open AutoSeq1 (wpAny_loadPart')
/-! ### enumerate(tuple) -/
theorem meets_enumerate_newT (l : Addr) (items : Array Value) (n : Nat) (dct : Option Addr) (sl : Array (Option Value)) :
    Meets (Builtin.«enumerate.__new__» ⟨[.type "enumerate", .ref l], []⟩) (fun _ R s => s.heap.get? l = some { cls := .type "tuple", dict := dct, data := .seq items n, slots := sl } ∧
      R (.ok (.ret (.ref (s.heap.push { cls := .type "tuple_iterator", data := .fields #[.ref l, .int 0 0] }).objs.size)))
        { s with heap := (s.heap.push { cls := .type "tuple_iterator", data := .fields #[.ref l, .int 0 0] }).push { cls := .type "enumerate", data := .fields #[.none, .bool false, .ref s.heap.objs.size, rawInt 0, .none, .none] } }) :=
  .of_wp fun prog w A R s h => by
    obtain ⟨hp, g, d, tk, os⟩ := s; obtain ⟨hl, h⟩ := h
    have hsub := sub_enumerate
    have hL : Heap.IsTuple (Shared.heap ⟨hp, g, d, tk, os⟩) l items := ⟨_, hl, rfl, n, rfl⟩
    wp_walk using wpAny_loadPart' hl
    refine wpAny_stack_any fun st => wpAny_pure ?_
    split
    · rename_i c _ _ _ _ _
      cases (c == Value.type "enumerate")
      · wp_walk using wpAny_loadPart' hl, wpAny_pyIter_tuple hL
        exact ⟨_, rfl, h⟩
      · wp_walk using wpAny_loadPart' hl, wpAny_pyIter_tuple hL
        exact ⟨_, rfl, h⟩
    · wp_walk using wpAny_loadPart' hl, wpAny_pyIter_tuple hL
      exact ⟨_, rfl, h⟩
section
variable {prog : Program} {w : World} {A : Around} {E : Value → Shared → Prop} {s : Shared}
theorem call_enumerate_tuple {l : Addr} {items : Array Value} {Q : Value → Shared → Prop} (hL : s.heap.IsTuple l items)
    (h : ∀ h', IsEnum h' (s.heap.objs.size + 1) s.heap.objs.size 0 .none → h'.IsTupleIter s.heap.objs.size l 0 → h'.objs.size = s.heap.objs.size + 2 →
      (∀ b o, s.heap.get? b = some o → h'.get? b = some o) → Q (.ref (s.heap.objs.size + 1)) { s with heap := h' }) :
    wpAny (model prog w) A (call (.type "enumerate") [.ref l]) Q E s := by
  obtain ⟨⟨c, dct, dt, sl⟩, hl, hc, n, hd⟩ := hL
  replace hc : c = .type "tuple" := hc
  replace hd : dt = .seq items n := hd
  subst hc hd
  refine callType_new F.called_enumerate (by decide) (F.typeCall_enumerate_1 _) (F.newCall_enumerate_1 _) (fun obj => F.args_object_init_2 obj _) F.entry_enumerate_new
    (meets_enumerate_newT l items n dct sl) ⟨hl, ?_⟩
  have hz : (s.heap.push { cls := .type "tuple_iterator", data := .fields #[.ref l, .int 0 0] }).objs.size = s.heap.objs.size + 1 := Heap.size_push ..
  show _ ∧ _
  rw [hz]
  have he : IsEnum ((s.heap.push { cls := .type "tuple_iterator", data := .fields #[.ref l, .int 0 0] }).push
      { cls := .type "enumerate", data := .fields #[.none, .bool false, .ref s.heap.objs.size, rawInt 0, .none, .none] }) (s.heap.objs.size + 1) s.heap.objs.size 0 .none := by
    have := Heap.get?_push_size (s.heap.push { cls := .type "tuple_iterator", data := .fields #[.ref l, .int 0 0] })
      (o := { cls := .type "enumerate", data := .fields #[.none, .bool false, .ref s.heap.objs.size, rawInt 0, .none, .none] }) rfl
    rw [hz] at this; exact this
  refine ⟨⟨_, he, rfl⟩, h _ he ⟨_, Heap.get?_push_of_some _ (Heap.get?_push_size _ rfl), rfl, rfl⟩ (by rw [Heap.size_push, hz]) fun b o x => Heap.get?_push_of_some _ (Heap.get?_push_of_some _ x)⟩
end
/-- the tuple at a, each item in a new pair -/
def IteT (K : PySem.W.Frag) (a : Addr) : It :=
  ⟨fun i H => ∃ (xs : List V) (x : V), SqT K H a xs ∧ xs[i]? = some x, fun i H v H' => ∃ T x, v = .ref T ∧ H T = none ∧ H' = upd H T (.tup [.int (i : Nat), x]) ∧ ∀ xs, SqT K H a xs → xs[i]? = some x, fun i H => ∃ xs : List V, SqT K H a xs ∧ xs.length ≤ i⟩
theorem turn_enumT {P : Program} {w : World} {K : PySem.W.Frag} {elts : List Expr} {kk : Nat} {tpos : Pos} (a e it : Addr) :
    Turn P w K (.Tuple elts kk tpos) (IteT K a) [e, it] e (fun i h => (∃ old, IsEnum h e it ((i : Nat) : Int) old) ∧ h.IsTupleIter it a i ∧ e ≠ it) where
  mem := by simp
  obj := fun i h st b hb => by
    obtain ⟨⟨old, he⟩, ⟨o, ho, hc, hd⟩, _⟩ := st
    have e' : b = e ∨ b = it := by simpa using hb
    rcases e' with z | z
    · rw [z]; exact ⟨_, he, fun v q => nomatch q⟩
    · rw [z]; exact ⟨o, ho, fun v q => by rw [hd] at q; cases q⟩
  keep := fun i h h' st k => let ⟨⟨old, he⟩, hi, hne⟩ := st; ⟨⟨old, k e (by simp) _ he⟩, hi.at fun o q => k it (by simp) o q, hne⟩
  item := by
    intro X hP hw hK hc i pins s σ H E I hf st hg
    subst hP hw hK
    obtain ⟨⟨old, he⟩, hit, hne⟩ := st
    obtain ⟨xs, x, hq, hx⟩ := hg
    obtain ⟨its, rv, p, hz⟩ := I.tuple hq
    obtain ⟨u, hu, ru⟩ := rv.get hx
    have hel : e < s.heap.objs.size := Heap.lt_size he
    have hil : it < s.heap.objs.size := by obtain ⟨_, q, _⟩ := hit; exact Heap.lt_size q
    have hp : s.heap.IsTuple a its.toArray := p
    have hai : a ≠ it := fun z => by
      subst z
      obtain ⟨o1, h1, c1, _⟩ := id hp
      obtain ⟨o2, h2, c2, _⟩ := id hit
      rw [h1] at h2; cases h2; rw [c1] at c2; exact absurd c2 (by decide)
    have hae : e ≠ a := fun z => by
      subst z
      obtain ⟨o1, h1, c1, _⟩ := id hp
      have he' : s.heap.get? e = some _ := he
      rw [h1] at he'
      cases he'
      exact absurd (show Value.type "enumerate" = Value.type "tuple" from c1) (by decide)
    have hlen : i < its.toArray.size := by
      have := (List.getElem?_eq_some_iff.mp hu).1
      simpa using this
    refine wpAny_pyNext_enum_itemD (Draws.tuple (A := X.A.in1) (show X.A.in1.handled = none from I.ok.hd hc) it a hai its.toArray) he ⟨hit, hp⟩ hlen hne (by simp [hne, hae]) fun y h' tk hP ho hst' hT hsz hk => ?_
    obtain ⟨hit', hp'⟩ := hst'
    have hy : y = u := by
      have h1 : its.toArray[i]? = some y := hP
      rw [List.getElem?_toArray, hu] at h1
      exact (Option.some.inj h1).symm
    subst hy
    refine ⟨_, rfl, wpAny_letOwnedTupleGo_enum (s := { s with heap := h', toks := tk + 1 }) ho fun h'' he' sb => ?_⟩
    have hT2 : h''.get? s.heap.objs.size = some { cls := .type "tuple", data := .seq #[.int i tk, y] } := (sb.2 _ (Nat.ne_of_gt hel)).trans hT
    have new : ObjOk X.prog X.w (upd H s.heap.objs.size (.tup [.int (i : Nat), x])) h'' s.heap.objs.size (.tup [.int (i : Nat), x]) :=
      ⟨by show 2 ≤ sizeLine; decide, [.int i tk, y], .cons ⟨_, rfl⟩ (.cons ru .nil), ⟨_, hT2, rfl, _, rfl⟩⟩
    have I1 : Inv X pins σ (upd H s.heap.objs.size (.tup [.int (i : Nat), x])) { s with heap := h'', toks := tk + 1 } :=
      I.turnedNew (ch := [e, it]) (fun b ob hb q => (sb.2 b (fun z => hb (by simp [z]))).trans (hk b ob (fun z => hb (by simp [z])) (fun z => hb (by simp [z])) q)) hf (Nat.le_refl _) new
    refine ⟨.ref s.heap.objs.size, _, I1, rfl, ⟨_, x, rfl, I.hok.fresh (Nat.le_refl _), rfl, fun ys hy => by rw [I.tuple_inj hy hq]; exact hx⟩, ⟨⟨y, ?_⟩, hit'.at fun o q => (sb.2 it (Ne.symm hne)).trans q, hne⟩, fun b hb => ?_⟩
    · have e1 : ((i + 1 : Nat) : Int) = (i : Int) + 1 := by omega
      rw [e1]; exact he'
    · have hb' : b < s.heap.objs.size := by
        have e' : b = e ∨ b = it := by simpa using hb
        rcases e' with z | z
        · rw [z]; exact hel
        · rw [z]; exact hil
      rw [upd_ne (Nat.ne_of_lt hb')]
      exact (hf b hb).1
  done := by
    intro X hP hw hK hc i pins s σ H E I hf st hg
    subst hP hw hK
    obtain ⟨⟨old, he⟩, hit, hne⟩ := st
    obtain ⟨xs, hq, hx⟩ := hg
    obtain ⟨its, rv, p, hz⟩ := I.tuple hq
    obtain ⟨f0, f1, f2, f3, f4, f5⟩ := hf it (by simp)
    have hl := rv.length
    have hp : s.heap.IsTuple a its.toArray := p
    have hT : s.TypeIs (.ref e) "enumerate" := ⟨_, he, rfl⟩
    unfold pyNext
    refine wpAny_bind (wpAny_attempt (wpAny_callSpecial?_slot (name := Str.ofString "__next__") hT F.slot_enumerate_next
      (wpAny_call_entry F.slot_enumerate_next hT F.entry_enumerate_next ?_ (F.args_enumerate_next_1 _))))
    show wpAny _ _ (field (.ref e) 2 >>= _) _ _ _
    refine wpAny_bind (wpAny_field he rfl (x := .ref it) rfl ?_)
    refine wpAny_bind (wpAny_nextOf_tuple_end (I.ok.hd hc) hit hp (by simp; omega) fun h' x he' hx' => ?_)
    obtain ⟨o, ho, hc'⟩ := hx'
    refine wpAny_bind (wpAny_isInstance (T := "StopIteration") (b := true) ⟨o, ho, hc'⟩ isSubtype_stop ?_)
    exact wpAny_pure ⟨rfl, I.turned (t' := s.toks) (fun b o hb q => he' b o hb q) f0 f1 f3 f4 f5⟩
  self := fun A i s Q E st h => let ⟨⟨_, he⟩, _⟩ := st; wpAny_pyIter_enum he h
/-- a list, or a tuple -/
def iEnumA (K : PySem.W.Frag) (ta : TA) : TI := fun σ H R => ta σ H fun vs H1 => ∃ a xs, vs = [.ref a] ∧ ((SqL K H1 a xs ∧ R (Ite K a) H1) ∨ (SqT K H1 a xs ∧ R (IteT K a) H1))
theorem pi_enumA {X : Cx} {e : Expr} {ta : TA} {p pos tpos : Pos} {elts : List Expr} {kk : Nat} (hg : Gl X "enumerate") (hm : X.mg "enumerate" = none) (ha : PA X [e] ta) (hs : starEach [e] X.env = [(false, eval e X.env)] := by rfl) :
    PI X (.Tuple elts kk tpos) (.Call (.Name "enumerate" p) [e] [] pos) (iEnumA X.K ta) := by
  refine ⟨fun pins s σ H R I h => ?_⟩
  refine Call_ (ld_blt I hg hm boot_enumerate (PyProof.Rows.callWith_type1 (thn (ha.run pos pins s σ H _ I h) fun us s1 ⟨vs, H1, I1, r1, q1⟩ => ?_) hs rfl))
  obtain ⟨a, xs, ex, hq⟩ := q1
  subst ex
  cases r1 with
  | cons r rr =>
    cases rr
    cases r
    have fp : ∀ b ∈ [s1.heap.objs.size + 1, s1.heap.objs.size], FpOk X pins H1 b := fun b hb => by
      have e' : b = s1.heap.objs.size + 1 ∨ b = s1.heap.objs.size := by simpa using hb
      have hle : s1.heap.objs.size ≤ b := by
        rcases e' with z | z
        · rw [z]; exact Nat.le_add_right _ _
        · rw [z]; exact Nat.le_refl _
      exact I1.fpOk hle (I1.hok.fresh hle)
    rcases hq with ⟨hq, q⟩ | ⟨hq, q⟩
    · obtain ⟨its, rv, p', hz⟩ := I1.list hq
      refine call_enumerate_list p'.isList fun h' he hit hsz hk => wpAny_pyIter_enum he ?_
      have I2 : Inv X pins σ H1 { s1 with heap := h' } := I1.kept (t' := s1.toks) hk
      exact ⟨s1.heap.objs.size + 1, [s1.heap.objs.size + 1, s1.heap.objs.size], _, _, H1, rfl, I2, turn_enum a (s1.heap.objs.size + 1) s1.heap.objs.size, ⟨⟨.none, he⟩, hit, Nat.succ_ne_self _⟩, fp, q⟩
    · obtain ⟨its, rv, p', hz⟩ := I1.tuple hq
      refine call_enumerate_tuple (show s1.heap.IsTuple a its.toArray from p') fun h' he hit hsz hk => wpAny_pyIter_enum he ?_
      have I2 : Inv X pins σ H1 { s1 with heap := h' } := I1.kept (t' := s1.toks) hk
      exact ⟨s1.heap.objs.size + 1, [s1.heap.objs.size + 1, s1.heap.objs.size], _, _, H1, rfl, I2, turn_enumT a (s1.heap.objs.size + 1) s1.heap.objs.size, ⟨⟨.none, he⟩, hit, Nat.succ_ne_self _⟩, fp, q⟩
section
variable {X : Cx} {B : Bs} {G G' G1 G2 : Hp} {γ γ' : Gm} {σ σ' : L2.St} {H H' H2 : Hp} {e a b : Expr} {ta tb t : DT} {pos : Pos} {st : Stmt} {p : Addr}
theorem walkD_enumT {a : Addr} {vs : List V} {ds : List D} (h : SqT B.K G1 a vs) (r : RpAll B.W G1 vs ds) : WalkD B (IteT B.K a) G1 (enumD ds) := fun H0 G γ σ H sm S => by
  have hs : SqT B.K H a vs := sqT_mono S.sub (sqT_mono sm h)
  refine ⟨⟨vs, hs, by rw [r.len, enumD_len]; exact Nat.le_refl _⟩, fun i c hc => ?_⟩
  obtain ⟨d, hd, rfl⟩ := enumD_get hc
  obtain ⟨v, hv, rv⟩ := r.get hd
  refine ⟨⟨vs, v, hs, hv⟩, fun x H' y => ?_⟩
  obtain ⟨T, x', h1, h2, h3, h4⟩ := y
  have := h4 vs hs
  rw [hv] at this
  cases this
  subst h1 h3
  exact pair_step (B := withH B H0) S (.int _) (rv.mono sm) h2
def iEnumB (t : DA) : DA := fun γ R => t γ fun ds γ1 => match ds with
  | [.lst es] => R (enumD es) γ1
  | [.tup es] => R (enumD es) γ1
  | _ => False
theorem i_enumB {tg it : Expr} {t : DA} (h : PI X tg it (iEnumA B.K (tDA B t))) : PI X tg it (tDI B (iEnumB t)) := pi_imp h fun σ H R' ⟨G, γ, R, S, h, k⟩ => ⟨G, γ, _, S, h, fun ds γ1 G1 vs H1 q sm S1 r => by
  split at q
  · cases r with
    | cons r1 r2 =>
      cases r2
      cases r1 with
      | lst hs ra => exact ⟨_, _, rfl, .inl ⟨SqL.of (S1.sub _ _ hs), k _ _ _ _ _ q sm S1 (walkD_enum (SqL.of hs) ra)⟩⟩
  · cases r with
    | cons r1 r2 =>
      cases r2
      cases r1 with
      | tup hs ra => exact ⟨_, _, rfl, .inr ⟨hs.sq S1.sub, k _ _ _ _ _ q sm S1 (walkD_enumT (hs.sq0) ra)⟩⟩
  · exact q.elim⟩
end
end EL
namespace EL
open PySem PySem.Spec PyProof.Rows L2
/-! ### d.update(e) -/
def rUpd : V → List V → Hp → VK → Prop := fun x vs H Q => ∃ a b kvs more, x = .ref a ∧ vs = [.ref b] ∧ a ≠ b ∧ H a = some (.dK kvs) ∧ H b = some (.dK more) ∧ kvs.length + more.length ≤ sizeLine ∧ Q .non (upd H a (.dK (mergeK kvs more)))
theorem mergeK_len : ∀ (more kvs : List (Key × V)), (mergeK kvs more).length ≤ kvs.length + more.length
  | [], kvs => Nat.le_refl _
  | kv :: more, kvs => by
    have h := mergeK_len more (putK kvs kv.1 kv.2)
    have h2 : (putK kvs kv.1 kv.2).length ≤ kvs.length + 1 := by
      unfold putK
      split
      · rw [List.length_map]; omega
      · rw [List.length_append]; exact Nat.le_refl _
    have e : mergeK kvs (kv :: more) = mergeK (putK kvs kv.1 kv.2) more := rfl
    rw [e, List.length_cons]
    omega
theorem mt_update {X : Cx} : MtR X "dict.update" rUpd := by
  intro pins s σ H x vs v us Q I rx rv h
  obtain ⟨a, b, kvs, more, rfl, rfl, hab, ha, hb, hz, q⟩ := h
  obtain rfl : v = Value.ref a := rx
  obtain ⟨u, rfl, ru⟩ := rv.one
  obtain rfl : u = Value.ref b := ru
  obtain ⟨za, hda, va, ra, da⟩ := dk_of I.hok ha
  obtain ⟨zb, hdb, vb, rb, db⟩ := dk_of I.hok hb
  refine call_meetsIn F.slot_dict_update da.typeIs F.entry_dict_update (F.args_dict_update_2 _ _) (meets_dict_update (mixKind X.prog X.w) a b hab hdb) ⟨va, vb, da, db, by rw [← ra.length, ← rb.length]; exact hz, fun h' hd' ho' hs => ?_⟩
  have he : ∃ q, h'.get? a = some q := let ⟨q, _, _, hq, _⟩ := hd'; ⟨q, hq⟩
  refine ⟨.non, _, ?_, rfl, q⟩
  exact d_write I (by rw [ha]; exact True.intro) hs he (dk_new (Nat.le_trans (mergeK_len _ _) hz) hda (rb.merge ra) hd')
section
variable {X : Cx} {B : Bs} {G G' G1 G2 : Hp} {γ γ' : Gm} {σ σ' : L2.St} {H H' H2 : Hp} {e a b : Expr} {ta tb t : DT} {pos : Pos} {st : Stmt} {p : Addr}
/-! ### own dicts changed -/
theorem Dst.restore {m : Nat} {γ : GL} (S : Dst B m G γ σ H) {i : Nat} {s s' : Sl} {p : Addr} {o : HO} (h : γ[i]? = some s) (hp : p ∈ s.as) (no : ∀ xs, o ≠ .tup xs) (has : ∀ q, q ∈ s'.as → q ∈ s.as)
    (ok : ∀ o0, σ[i]? = some o0 → SlOk B.W G H o0 s → SlOk B.W G (upd H p o) o0 s') : Dst B m G (γ.set i s') σ (upd H p o) := by
  obtain ⟨o0, h1, h2⟩ := S.slot i _ h
  obtain ⟨h5, h6⟩ := S.off i _ p h hp
  have Sw : Dst B m G (γ.set i .un) σ H := S.weak
  have li : i < γ.length := (List.getElem?_eq_some_iff.mp h).1
  have no1 : NoSlot (γ.set i .un) p := fun j t e hq => by
    by_cases z : i = j
    · subst z
      rw [List.getElem?_set_self li] at e
      cases e
      cases hq
    · rw [List.getElem?_set_ne z] at e
      exact z (S.nd i j p _ t h e hp hq)
  have S2 := Sw.offed (o := o) no h6 h5 no1
  have k2 := ok o0 h1 h2
  have e0 : ∃ v, o0 = some v := by
    cases s with
    | un => cases hp
    | fz d => cases hp
    | own q ds => exact ⟨_, h2.1⟩
    | ownD q ds => exact ⟨_, h2.1⟩
    | ownL q ds => exact ⟨_, h2.1⟩
    | ownT q ds => exact ⟨_, h2.1⟩
  obtain ⟨v, e0⟩ := e0
  subst e0
  have S3 := slot_set S2 (i := i) (v := v) (s := s') k2 fun q hq => by
    have hq' := has q hq
    refine ⟨(S.off i _ q h hq').1, (S.off i _ q h hq').2, fun j t nj e hqt => ?_⟩
    rw [List.getElem?_set_ne (Ne.symm nj)] at e
    exact nj (S.nd j i q t s e h hqt hq')
  rw [set_same h1, List.set_set] at S3
  exact S3
abbrev FMd := List (Key × D) → List D → (D → List (Key × D) → Prop) → Prop
def dMutD (i : Nat) (f : FMd) (ta : DA) : DT := fun γ R => (∃ p ds, look γ i = .ownD p ds) ∧ ta γ fun es γ1 => match look γ1 i with
  | .ownD p ds => f ds es fun c cs => R c (putS γ1 i (.ownD p cs))
  | _ => False
def OkMd (r : V → List V → Hp → VK → Prop) (f : FMd) : Prop := ∀ (W : Cw) (G H : Hp) (p : Addr) (us : List (Key × V)) (xs : List V) (ds : List (Key × D)) (es : List D) (R : D → List (Key × D) → Prop) (Q : VK), Same G H → H p = some (.dK us) → G p = none → RpKv W G us ds → RpAll W G xs es → f ds es R →
  (∀ c v ws cs, R c cs → Rp W G v c → RpKv W G ws cs → Q v (upd H p (.dK ws))) → r (.ref p) xs H Q
theorem d_mutD {i : Nat} {f : FMd} {ta : DA} {r : V → List V → Hp → VK → Prop} (hr : OkMd r f) (h : PE X e (tBM X.K "dict" r (tVar i) (tDA B ta))) : PE X e (tD B (dMutD i f ta)) := pe_imp h fun σ H Q ⟨G, γ, R, S, ⟨⟨p0, ds0, hi⟩, h⟩, k⟩ => by
  obtain ⟨o, h1, h2, vs, h3, h4⟩ := S.slot i _ (look_get hi (fun z => nomatch z))
  subst h2
  refine ⟨_, h1, .inr (.inr (.inl ⟨rfl, .inl ⟨vs, h3⟩⟩)), G, γ, _, S, h, fun es γ1 G1 xs H1 q sm S1 r1 => ?_⟩
  split at q
  · rename_i p ds hi1
    have hg := look_get hi1 (fun z => nomatch z)
    obtain ⟨o', k1, k2, us, k3, k4⟩ := S1.slot i _ hg
    subst k2
    rw [h1] at k1
    cases k1
    exact hr B.W G1 H1 p0 us xs ds es _ _ S1.sub k3 (S1.off i _ p0 hg (List.mem_singleton.mpr rfl)).2 k4 r1 q fun c v ws cs hR rv rw' => k _ (putS γ1 i (.ownD p0 cs)) _ _ _ hR sm
      (by rw [putS_eq]; exact S1.restore (o := .dK ws) hg (List.mem_singleton.mpr rfl) (fun _ z => nomatch z) (fun q hq => hq) fun o0 e0 q0 => ⟨q0.1, ws, upd_same, rw'⟩) rv
  · exact q.elim
def updM : FMd := fun ds es R => match es with
  | [.dct cs] => ds.length + cs.length ≤ 1000000 ∧ R .non (mergeD ds cs)
  | _ => False
theorem ok_updM : OkMd rUpd updM := by
  intro W G H p us xs ds es R Q sm hp hg ru rx h k
  unfold updM at h
  split at h
  · cases rx with
    | cons r1 r2 =>
      cases r2
      cases r1 with
      | @dct b vs _ hs ra =>
        exact ⟨p, b, us, vs, rfl, rfl, (fun z => by rw [z, hs] at hg; cases hg), hp, sm _ _ hs, by rw [ru.len, ra.len]; exact sz_ok h.1, k _ _ _ _ h.2 .non (rp_merge ra ru)⟩
  · exact h.elim
/-- d[k] = v -/
def sDSet (i : Nat) (tk tv : DT) : DS := fun E γ => tv γ fun d γ1 => (∃ p ds, look γ1 i = .ownD p ds) ∧ tk γ1 fun k γ2 => match look γ2 i, keyD k with
  | .ownD p ds, some key => ds.length < 1000000 ∧ E.nx (putS γ2 i (.ownD p (setK key d ds)))
  | _, _ => False
theorem s_dset {i : Nat} {tk tv : DT} (h : PS X st (sDPut (tVar i) (tD B tk) (tD B tv))) : PS X st (tDS B (sDSet i tk tv)) := ps_imp h fun De σ H ⟨G, γ, E, S, h, F⟩ =>
  ⟨G, γ, _, S, h, fun d γ1 G1 v H1 ⟨⟨p0, ds0, hi⟩, q⟩ s1 S1 r1 => by
    obtain ⟨o, h1, h2, vs, h3, h4⟩ := S1.slot i _ (look_get hi (fun z => nomatch z))
    subst h2
    refine ⟨_, h1, G1, γ1, _, S1, q, fun k γ2 G2 u H2 q2 s2 S2 r2 => ?_⟩
    split at q2
    · rename_i p ds key hi2 hk
      have hg := look_get hi2 (fun z => nomatch z)
      obtain ⟨o', k1, k2, us, k3, k4⟩ := S2.slot i _ hg
      subst k2
      rw [h1] at k1
      cases k1
      have q3 := q2.2
      rw [putS_eq] at q3
      refine ⟨p0, _, rfl, ?_, F.nx _ _ _ _ q3 (s1.trans s2) (S2.restore (o := .dK (putK us key v)) hg (List.mem_singleton.mpr rfl) (fun _ z => nomatch z) (fun q hq => hq) fun o0 e0 q0 => ⟨q0.1, _, upd_same, rp_putK (r1.mono s2) k4⟩)⟩
      rw [rp_key r2 hk]
      exact DPut.k k3 (by rw [k4.len]; exact Nat.lt_of_lt_of_le q2.1 (by decide))
    · exact q2.elim⟩
/-! ### dicts of own lists -/
def mkL (ks : List Key) (as : List Addr) : List (Key × (Addr × List D)) := List.zipWith (fun k a => (k, (a, []))) ks as
theorem mkL_nil : ∀ (ks : List Key) (as : List Addr), ∀ k ∈ mkL ks as, k.2.2 = []
  | [], _, k, h => by cases h
  | _ :: _, [], k, h => by cases h
  | k0 :: ks, a :: as, k, h => by
    have h : k ∈ (k0, (a, ([] : List D))) :: mkL ks as := h
    rcases List.mem_cons.mp h with e | e
    · rw [e]
    · exact mkL_nil ks as k e
/-- x = {'P': [], 'L': []} -/
def sOwnL (i : Nat) (ks : List Key) : DS := fun E γ => ∀ p (as : List Addr), as.length = ks.length → E.nx (putS γ i (.ownL p (mkL ks as)))
def tEmp : TE := tLst tNil
theorem pairsL (ks : List Str) : ∀ (σ : L2.St) (H : Hp) (Q : List (V × V) → Hp → Prop),
    (∀ (as : List Addr) H', as.length = ks.length → as.Nodup → (∀ a ∈ as, H a = none ∧ H' a = some (.lst [])) → (∀ b, b ∉ as → H' b = H b) → Q (List.zipWith (fun k a => (V.str k, V.ref a)) ks as) H') →
    tPairs (ks.map fun k => (tC (.str k), tEmp)) σ H Q := by
  induction ks with
  | nil => exact fun σ H Q k => k [] H rfl .nil (fun _ h => by cases h) fun _ _ => rfl
  | cons z ks ih =>
    intro σ H Q k
    refine ⟨by show 0 ≤ sizeLine; exact Nat.zero_le _, fun p hp => ?_⟩
    refine ih σ _ _ fun as H' hl nd hn hk => ?_
    have np : p ∉ as := fun q => by
      have := (hn p q).1
      rw [upd_same] at this
      cases this
    refine k (p :: as) H' (by rw [List.length_cons, List.length_cons, hl]) (List.nodup_cons.mpr ⟨np, nd⟩) (fun a ha => ?_) fun b hb => ?_
    · rcases List.mem_cons.mp ha with q | q
      · subst q
        exact ⟨hp, by rw [hk a np, upd_same]⟩
      · have n : a ≠ p := fun z => np (z ▸ q)
        obtain ⟨h1, h2⟩ := hn a q
        rw [upd_ne n] at h1
        exact ⟨h1, h2⟩
    · rw [List.mem_cons, not_or] at hb
      rw [hk b hb.2, upd_ne hb.1]
theorem Dst.laidAll {m : Nat} {γ : GL} (S : Dst B m G γ σ H) : ∀ {as : List Addr} {H' : Hp}, as.Nodup → (∀ a ∈ as, H a = none ∧ H' a = some (.lst [])) → (∀ b, b ∉ as → H' b = H b) → Dst B m G γ σ H' := by
  intro as
  induction as generalizing H with
  | nil =>
    intro H' _ _ h
    have e : H' = H := funext fun b => h b (by simp)
    rw [e]
    exact S
  | cons a as ih =>
    intro H' nd hn hk
    rw [List.nodup_cons] at nd
    have S1 := S.laid (o := .lst []) (fun _ z => nomatch z) (hn a List.mem_cons_self).1
    refine ih S1 nd.2 (fun b hb => ?_) fun b hb => ?_
    · have n : b ≠ a := fun z => nd.1 (z ▸ hb)
      rw [upd_ne n]
      exact hn b (List.mem_cons_of_mem _ hb)
    · by_cases z : b = a
      · subst z
        rw [upd_same]
        exact (hn b List.mem_cons_self).2
      · rw [upd_ne z]
        exact hk b (by rw [List.mem_cons, not_or]; exact ⟨z, hb⟩)
theorem s_ownL {i : Nat} {ks : List Str} (nd : ks.Nodup) (h15 : ks.length ≤ 15) (h : PS X st (tAsg (tDisp (ks.map fun k => (tC (.str k), tEmp))) (gName i))) : PS X st (tDS B (sOwnL i (ks.map .inr))) := ps_imp h fun De σ H ⟨G, γ, E, S, h, F⟩ p hp => by
  have S1 := S.laid (o := .dK []) (fun _ z => nomatch z) hp
  refine pairsL ks σ _ _ fun as H' hl nda hn hk => ?_
  have S2 := S1.laidAll nda hn hk
  have np : p ∉ as := fun z => by
    have := (hn p z).1
    rw [upd_same] at this
    cases this
  have hp2 : H' p = some (.dK []) := by rw [hk p np, upd_same]
  have h0 : B.H0 p = none := S.free0 hp
  have hg : G p = none := S.sub.free hp
  have ns : NoSlot γ.sl p := S.noslot hp
  have S3 := S2.offed (o := .dK (List.zipWith (fun k a => (Sum.inr k, V.ref a)) ks as)) (fun _ z => nomatch z) hg h0 ns
  have hz : ∀ {α β γ δ : Type} (f : α → β → γ) (g : γ → δ) (l : List α) (m : List β), (List.zipWith f l m).map g = List.zipWith (fun a b => g (f a b)) l m := by
    intro α β γ δ f g l m
    rw [List.map_zipWith]
  refine ⟨hp2, List.zipWith (fun k a => (Sum.inr k, V.ref a)) ks as, by rw [List.map_zipWith]; rfl, by rw [List.length_zipWith]; omega, ?_⟩
  have em : mergeK [] (List.zipWith (fun k a => (Sum.inr k, V.ref a)) ks as) = List.zipWith (fun k a => ((Sum.inr k : Key), V.ref a)) ks as := by
    have go : ∀ (ks : List Str) (as : List Addr) (acc : List (Key × V)), ks.Nodup → (∀ k ∈ ks, ∀ kv ∈ acc, kv.1 ≠ Sum.inr k) → mergeK acc (List.zipWith (fun k a => ((Sum.inr k : Key), V.ref a)) ks as) = acc ++ List.zipWith (fun k a => ((Sum.inr k : Key), V.ref a)) ks as := by
      intro ks
      induction ks with
      | nil => intro as acc _ _; simp [mergeK]
      | cons k ks ih =>
        intro as acc nd ha
        cases as with
        | nil => simp [mergeK]
        | cons a as =>
          rw [List.nodup_cons] at nd
          rw [List.zipWith_cons_cons]
          unfold mergeK
          rw [List.foldl_cons]
          have e1 : putK acc (Sum.inr k : Key) (V.ref a) = acc ++ [(Sum.inr k, V.ref a)] := by
            unfold putK
            rw [if_neg]
            rw [List.any_eq_true]
            rintro ⟨kv, h1, h2⟩
            exact ha k List.mem_cons_self kv h1 (of_decide_eq_true h2)
          have := ih as (acc ++ [(Sum.inr k, V.ref a)]) nd.2 (fun k' hk' kv hkv => by
            rcases List.mem_append.mp hkv with q | q
            · exact ha k' (List.mem_cons_of_mem _ hk') kv q
            · cases List.mem_singleton.mp q
              intro z
              cases z
              exact nd.1 hk')
          unfold mergeK at this
          dsimp only
          rw [e1, this, List.append_assoc]
          rfl
    have := go ks as [] nd (fun _ _ _ h => by cases h)
    rw [this]
    rfl
  rw [em]
  have q := h p as (by rw [List.length_map]; exact hl)
  rw [putS_eq] at q
  have eas : (mkL (ks.map .inr) as).map (fun k => k.2.1) = as := by
    unfold mkL
    rw [List.zipWith_map_left, List.map_zipWith]
    have : ∀ (l : List Str) (m : List Addr), m.length = l.length → List.zipWith (fun _ a => a) l m = m := by
      intro l
      induction l with
      | nil => intro m hm; cases m with
        | nil => rfl
        | cons _ _ => cases hm
      | cons _ l ih => intro m hm; cases m with
        | nil => rfl
        | cons a m => rw [List.zipWith_cons_cons, ih m (by simpa using hm)]
    exact this ks as hl
  have emem : ∀ k ∈ mkL (ks.map .inr) as, k.2.2 = [] ∧ k.2.1 ∈ as := by
    intro k hk
    have h2 : k.2.1 ∈ (mkL (ks.map .inr) as).map (fun k => k.2.1) := List.mem_map.mpr ⟨k, hk, rfl⟩
    rw [eas] at h2
    refine ⟨?_, h2⟩
    exact mkL_nil _ _ k hk
  refine F.nx _ _ _ _ q (Same.refl _) (slot_set S3 (v := .ref p) (s := .ownL p (mkL (ks.map .inr) as)) ⟨rfl, ?_, ?_, ?_⟩ ?_)
  · rw [upd_same]
    congr 2
    unfold mkL
    rw [List.zipWith_map_left, List.map_zipWith]
  · intro k hk
    obtain ⟨e, hm⟩ := emem k hk
    rw [e]
    have n : k.2.1 ≠ p := fun z => np (z ▸ hm)
    exact ⟨[], by rw [upd_ne n]; exact (hn _ hm).2, .nil⟩
  · rw [eas]
    exact List.nodup_cons.mpr ⟨np, nda⟩
  · intro a ha
    have ha : a ∈ p :: (mkL (ks.map .inr) as).map fun k => k.2.1 := ha
    rw [eas] at ha
    rcases List.mem_cons.mp ha with z | z
    · subst z; exact ⟨h0, hg, fun j t _ e => ns j t e⟩
    · have hx := (hn a z).1
      have n : a ≠ p := fun q => np (q ▸ z)
      rw [upd_ne n] at hx
      exact ⟨S.free0 hx, S.sub.free hx, fun j t _ e => S.noslot hx j t e⟩
/-- an entry's list is changed -/
def setL (key : Key) (cs : List D) : List (Key × (Addr × List D)) → List (Key × (Addr × List D))
  | [] => []
  | kv :: r => if keyEq kv.1 key then (kv.1, (kv.2.1, cs)) :: r else kv :: setL key cs r
def dMutL (i : Nat) (f : FM) (tk : DT) (ta : DA) : DT := fun γ R => (∃ p kvs, look γ i = .ownL p kvs) ∧ tk γ fun k γ1 => match look γ1 i, keyD k with
  | .ownL p kvs, some key => ∃ a ds, getK key kvs = some (a, ds) ∧ ta γ1 fun es γ2 => γ2.sl = γ1.sl ∧ f ds es fun c cs => R c (putS γ2 i (.ownL p (setL key cs kvs)))
  | _, _ => False
theorem getL_mem {key : Key} {a : Addr} {ds : List D} : ∀ {kvs : List (Key × (Addr × List D))}, getK key kvs = some (a, ds) → (key, (a, ds)) ∈ kvs ∧ valV (kvs.map fun k => (k.1, V.ref k.2.1)) key = some (.ref a)
  | [], h => by cases h
  | (k0, (a0, ds0)) :: r, h => by
    unfold getK at h
    dsimp only at h
    by_cases e : keyEq k0 key = true
    · rw [if_pos e] at h
      have e' := keyEq_iff.mp e
      have hh := Option.some.inj h
      cases hh
      refine ⟨by rw [← e']; exact List.mem_cons_self, ?_⟩
      rw [List.map_cons, valV_pos (p := (k0, V.ref a)) e']
    · rw [if_neg e] at h
      obtain ⟨h1, h2⟩ := getL_mem h
      refine ⟨List.mem_cons_of_mem _ h1, ?_⟩
      rw [List.map_cons, valV_neg (p := (k0, V.ref a0)) (fun q => e (keyEq_iff.mpr q))]
      exact h2
theorem setL_map {key : Key} {cs : List D} : ∀ (kvs : List (Key × (Addr × List D))), (setL key cs kvs).map (fun k => (k.1, k.2.1)) = kvs.map fun k => (k.1, k.2.1)
  | [] => rfl
  | kv :: r => by
    unfold setL
    split
    · rfl
    · rw [List.map_cons, List.map_cons, setL_map r]
theorem setL_mem {key : Key} {cs : List D} {a : Addr} {ds : List D} : ∀ {kvs : List (Key × (Addr × List D))}, getK key kvs = some (a, ds) → (kvs.map fun k => k.2.1).Nodup → ∀ k ∈ setL key cs kvs, (k.2 = (a, cs)) ∨ (k ∈ kvs ∧ k.2.1 ≠ a)
  | [], h, _, _, _ => by cases h
  | (k0, (a0, ds0)) :: r, h, nd, k, hk => by
    unfold getK at h
    unfold setL at hk
    rw [List.map_cons, List.nodup_cons] at nd
    dsimp only at h hk nd
    by_cases e : keyEq k0 key = true
    · rw [if_pos e] at h hk
      cases h
      rcases List.mem_cons.mp hk with z | z
      · left; rw [z]
      · right; exact ⟨List.mem_cons_of_mem _ z, fun q => nd.1 (by rw [← q]; exact List.mem_map.mpr ⟨k, z, rfl⟩)⟩
    · rw [if_neg e] at h hk
      rcases List.mem_cons.mp hk with z | z
      · right
        rw [z]
        refine ⟨List.mem_cons_self, fun q => nd.1 ?_⟩
        have q : a0 = a := q
        rw [q]
        exact List.mem_map.mpr ⟨_, (getL_mem h).1, rfl⟩
      · rcases setL_mem h nd.2 k z with q | ⟨q1, q2⟩
        · exact .inl q
        · exact .inr ⟨List.mem_cons_of_mem _ q1, q2⟩
theorem Dst.storeL {m : Nat} {γ : GL} (S : Dst B m G γ σ H) {i : Nat} {p a : Addr} {key : Key} {kvs : List (Key × (Addr × List D))} {ds cs : List D} {ws : List V} (h : γ[i]? = some (.ownL p kvs)) (hk : getK key kvs = some (a, ds)) (r : RpAll B.W G ws cs) : Dst B m G (γ.set i (.ownL p (setL key cs kvs))) σ (upd H a (.lst ws)) := by
  have ha : a ∈ kvs.map fun k => k.2.1 := List.mem_map.mpr ⟨_, (getL_mem hk).1, rfl⟩
  have e1 : (setL key cs kvs).map (fun k => k.2.1) = kvs.map fun k => k.2.1 := by
    have := congrArg (List.map Prod.snd) (setL_map (key := key) (cs := cs) kvs)
    rw [List.map_map, List.map_map] at this
    exact this
  have e2 : (setL key cs kvs).map (fun k => (k.1, V.ref k.2.1)) = kvs.map fun k => (k.1, V.ref k.2.1) := by
    have := congrArg (List.map fun q : Key × Addr => (q.1, V.ref q.2)) (setL_map (key := key) (cs := cs) kvs)
    rw [List.map_map, List.map_map] at this
    exact this
  refine S.restore h (List.mem_cons_of_mem _ ha) (fun _ z => nomatch z) (fun q hq => ?_) fun o0 _ q0 => ?_
  · have hq : q ∈ p :: (setL key cs kvs).map fun k => k.2.1 := hq
    rw [e1] at hq
    exact hq
  · obtain ⟨k1, k2, k3, k4⟩ := q0
    rw [List.nodup_cons] at k4
    have n : p ≠ a := fun z => k4.1 (by rw [z]; exact ha)
    refine ⟨k1, by rw [upd_ne n, e2]; exact k2, fun k hk' => ?_, by rw [e1]; exact List.nodup_cons.mpr k4⟩
    rcases setL_mem hk k4.2 k hk' with z | ⟨z1, z2⟩
    · rw [z]; exact ⟨ws, upd_same, r⟩
    · obtain ⟨us, x, y⟩ := k3 k z1
      exact ⟨us, by rw [upd_ne z2]; exact x, y⟩
theorem d_mutL {i : Nat} {f : FM} {tk : DT} {ta : DA} {r : V → List V → Hp → VK → Prop} (hr : OkM r f) (h : PE X e (tBM X.K "list" r (tDGet (tVar i) (tD B tk)) (tDA B ta))) : PE X e (tD B (dMutL i f tk ta)) := pe_imp h fun σ H Q ⟨G, γ, R, S, ⟨⟨p0, kvs0, hi⟩, h⟩, k⟩ => by
  obtain ⟨o, h1, h2, h3⟩ := S.slot i _ (look_get hi (fun z => nomatch z))
  subst h2
  refine ⟨_, h1, G, γ, _, S, h, fun kk γ1 G1 u H1 q s1 S1 r1 => ?_⟩
  split at q
  · rename_i p kvs key hi1 hk
    obtain ⟨a, ds, hget, q⟩ := q
    have hg := look_get hi1 (fun z => nomatch z)
    obtain ⟨o', k1, k2, k3, k4, k5⟩ := S1.slot i _ hg
    subst k2
    rw [h1] at k1
    cases k1
    obtain ⟨hm, hv⟩ := getL_mem hget
    obtain ⟨us, hus, ru⟩ := k4 _ hm
    refine ⟨p0, .ref a, rfl, ?_, .inl ⟨rfl, us, SqL.of hus⟩, G1, γ1, _, S1, q, fun es γ2 G2 xs H2 ⟨eγ, q2⟩ s2 S2 r2 => ?_⟩
    · rw [rp_key r1 hk, ← hv]
      exact DGet.k k3
    · have hg : γ2.sl[i]? = some (.ownL p0 kvs) := by rw [eγ]; exact hg
      obtain ⟨o2, m1, m2, m3, m4, m5⟩ := S2.slot i _ hg
      obtain ⟨us2, hus2, ru2⟩ := m4 _ hm
      have ha : a ∈ Sl.as (.ownL p0 kvs) := List.mem_cons_of_mem _ (List.mem_map.mpr ⟨_, hm, rfl⟩)
      exact hr B.W G2 H2 a us2 xs ds es _ _ S2.sub hus2 (S2.off i _ a hg ha).2 ru2 r2 q2 fun c v ws cs hR rv rw' => k _ (putS γ2 i (.ownL p0 (setL key cs kvs))) _ _ _ hR (s1.trans s2) (by rw [putS_eq]; exact S2.storeL hg hget rw') rv
  · exact q.elim
theorem d_mutL0 {i : Nat} {f : FM} {tk : DT} {r : V → List V → Hp → VK → Prop} (hr : OkM r f) (h : PE X e (tBM0 X.K "list" r (tDGet (tVar i) (tD B tk)))) : PE X e (tD B (dMutL i f tk aNil)) := pe_imp h fun σ H Q ⟨G, γ, R, S, ⟨⟨p0, kvs0, hi⟩, h⟩, k⟩ => by
  obtain ⟨o, h1, h2, h3⟩ := S.slot i _ (look_get hi (fun z => nomatch z))
  subst h2
  refine ⟨_, h1, G, γ, _, S, h, fun kk γ1 G1 u H1 q s1 S1 r1 => ?_⟩
  split at q
  · rename_i p kvs key hi1 hk
    obtain ⟨a, ds, hget, ⟨_, q2⟩⟩ := q
    have hg := look_get hi1 (fun z => nomatch z)
    obtain ⟨o', k1, k2, k3, k4, k5⟩ := S1.slot i _ hg
    subst k2
    rw [h1] at k1
    cases k1
    obtain ⟨hm, hv⟩ := getL_mem hget
    obtain ⟨us, hus, ru⟩ := k4 _ hm
    refine ⟨p0, .ref a, rfl, ?_, .inl ⟨rfl, us, SqL.of hus⟩, ?_⟩
    · rw [rp_key r1 hk, ← hv]
      exact DGet.k k3
    · have ha : a ∈ Sl.as (.ownL p0 kvs) := List.mem_cons_of_mem _ (List.mem_map.mpr ⟨_, hm, rfl⟩)
      exact hr B.W G1 H1 a us [] ds [] _ _ S1.sub hus (S1.off i _ a hg ha).2 ru .nil q2 fun c v ws cs hR rv rw' => k _ (putS γ1 i (.ownL p0 (setL key cs kvs))) _ _ _ hR s1 (by rw [putS_eq]; exact S1.storeL hg hget rw') rv
  · exact q.elim
/-! ### repr of data of built-in kinds -/
def reprF : FC := fun ds R => match ds with
  | [.tup xs] => showOk (.tup xs) ∧ R (.str (shownD (.tup xs)))
  | [.lst xs] => showOk (.lst xs) ∧ R (.str (shownD (.lst xs)))
  | _ => False
theorem ok_repr (hK : X.K = B.K) : OkRC B (PH.rRepr X.K) reprF := by
  intro G γ σ H vs ds R Q S r h k
  rw [hK]
  unfold reprF at h
  split at h
  · obtain ⟨⟨h1, h2, h3, h4, h5⟩, h⟩ := h
    cases r with
    | cons r1 r2 =>
      cases r2
      have hp := py_of S.sub r1 h1
      have fin := k _ _ _ _ h (Same.refl _) S (.str _)
      cases r1 with
      | tup hs ra => exact ⟨_, _, rfl, hp, h2, h3, h4, sz_ok h5, fin⟩
  · obtain ⟨⟨h1, h2, h3, h4, h5⟩, h⟩ := h
    cases r with
    | cons r1 r2 =>
      cases r2
      have hp := py_of S.sub r1 h1
      have fin := k _ _ _ _ h (Same.refl _) S (.str _)
      cases r1 with
      | lst hs ra => exact ⟨_, _, rfl, hp, h2, h3, h4, sz_ok h5, fin⟩
  · exact h.elim
end
end EL
namespace EL
open PySem PySem.Spec PyProof.Rows L2
/-! ### isinstance of a built-in class -/
def isiB (T : String) : FC := fun ds R => ∃ d, ds = [d, .opq (.ty T)] ∧ isiF T [d, .non] R
theorem ok_isi {X : Cx} {B : Bs} {T : String} (hK : X.K = B.K) (hk : ∀ n ∈ ["NoneType", "bool", "int", "str", "tuple", "list", "dict"], kitB n T = some (tyIs T n)) : OkRC B (rIsiB X.K T) (isiB T) := by
  intro G γ σ H vs ds R Q S r ⟨d, e, h⟩ k
  subst e
  cases r with
  | cons r1 r2 =>
    cases r2 with
    | cons r2 r3 =>
      cases r3
      cases r2
      exact ok_isiB (vs := []) (ds := []) hK hk G γ σ H S r1 h k
theorem kt_str : ∀ n ∈ ["NoneType", "bool", "int", "str", "tuple", "list", "dict"], kitB n "str" = some (tyIs "str" n) := by decide +kernel
theorem kt_int : ∀ n ∈ ["NoneType", "bool", "int", "str", "tuple", "list", "dict"], kitB n "int" = some (tyIs "int" n) := by decide +kernel
theorem kt_bool : ∀ n ∈ ["NoneType", "bool", "int", "str", "tuple", "list", "dict"], kitB n "bool" = some (tyIs "bool" n) := by decide +kernel
theorem kt_tuple : ∀ n ∈ ["NoneType", "bool", "int", "str", "tuple", "list", "dict"], kitB n "tuple" = some (tyIs "tuple" n) := by decide +kernel
theorem kt_list : ∀ n ∈ ["NoneType", "bool", "int", "str", "tuple", "list", "dict"], kitB n "list" = some (tyIs "list" n) := by decide +kernel
theorem kt_dict : ∀ n ∈ ["NoneType", "bool", "int", "str", "tuple", "list", "dict"], kitB n "dict" = some (tyIs "dict" n) := by decide +kernel
/-! ### loops -/
theorem for_inv {b : BdT} {s : DS} {E : DEnds} (Inv : Gm → Prop) (fin : ∀ γ, Inv γ → E.nx γ)
    (step : ∀ d ds γ, Inv γ → (∀ γ', Inv γ' → forD b s E ds γ') → b d γ fun γ1 => s { nx := forD b s E ds, ct := forD b s E ds, bk := E.nx, rt := E.rt } γ1) : ∀ ds γ, Inv γ → forD b s E ds γ
  | [], γ, h => fin γ h
  | d :: ds, γ, h => step d ds γ h fun γ' h' => for_inv Inv fin step ds γ' h'
/-- the invariant speaks of what is left -/
theorem for_invL {b : BdT} {s : DS} {E : DEnds} (Inv : List D → Gm → Prop) (fin : ∀ γ, Inv [] γ → E.nx γ)
    (step : ∀ d ds γ, Inv (d :: ds) γ → (∀ γ', Inv ds γ' → forD b s E ds γ') → b d γ fun γ1 => s { nx := forD b s E ds, ct := forD b s E ds, bk := E.nx, rt := E.rt } γ1) : ∀ ds γ, Inv ds γ → forD b s E ds γ
  | [], γ, h => fin γ h
  | d :: ds, γ, h => step d ds γ h fun γ' h' => for_invL Inv fin step ds γ' h'
/-- over the numbers lo, lo + 1, .. -/
theorem for_rng {b : BdT} {s : DS} {E : DEnds} {lo : Int} {n : Nat} (Inv : Nat → Gm → Prop) (fin : ∀ γ, Inv n γ → E.nx γ)
    (step : ∀ i ds γ, i < n → Inv i γ → (∀ γ', Inv (i + 1) γ' → forD b s E ds γ') → b (.int (lo + (i : Nat))) γ fun γ1 => s { nx := forD b s E ds, ct := forD b s E ds, bk := E.nx, rt := E.rt } γ1) : ∀ γ, Inv 0 γ → forD b s E (rngD lo n) γ := by
  have go : ∀ k i γ, i + k = n → Inv i γ → forD b s E (((List.range n).drop i).map fun k : Nat => .int (lo + k)) γ := by
    intro k
    induction k with
    | zero =>
      intro i γ h hI
      have e : i = n := by omega
      subst e
      rw [List.drop_eq_nil_of_le (by simp)]
      exact fin γ hI
    | succ k ih =>
      intro i γ h hI
      have hi : i < n := by omega
      have e : (List.range n).drop i = i :: (List.range n).drop (i + 1) := by simp [List.drop_eq_getElem_cons, hi]
      rw [e]
      exact step i _ γ hi hI fun γ' h' => ih (i + 1) γ' (by omega) h'
  intro γ h
  have := go n 0 γ (by omega) h
  exact this
/-- over the items of a mapped list, with what is done and what is left -/
theorem for_at {α : Type} (F : α → D) {b : BdT} {s : DS} {E : DEnds} (L : List α) (Inv : Nat → Gm → Prop) (fin : ∀ γ, Inv L.length γ → E.nx γ)
    (step : ∀ i x ds γ, L[i]? = some x → Inv i γ → (∀ γ', Inv (i + 1) γ' → forD b s E ds γ') → b (F x) γ fun γ1 => s { nx := forD b s E ds, ct := forD b s E ds, bk := E.nx, rt := E.rt } γ1) : ∀ γ, Inv 0 γ → forD b s E (L.map F) γ := by
  have go : ∀ k i γ, i + k = L.length → Inv i γ → forD b s E ((L.drop i).map F) γ := by
    intro k
    induction k with
    | zero =>
      intro i γ h hI
      have e : i = L.length := by omega
      subst e
      rw [List.drop_length]
      exact fin γ hI
    | succ k ih =>
      intro i γ h hI
      have hi : i < L.length := by omega
      rw [List.drop_eq_getElem_cons hi]
      exact step i _ _ γ (List.getElem?_eq_getElem hi) hI fun γ' h' => ih (i + 1) γ' (by omega) h'
  intro γ h
  exact go L.length 0 γ (by omega) h
/-- a comprehension whose every item comes to one thing, the slots being the same at every turn -/
theorem lc_map {α : Type} {bd : BdT} {tt : DB} {te : DT} {vs : List Nat} {γ0 : Gm} (F : α → D) (g : α → D) (hw : wipeS γ0 vs = γ0) (L0 : List α)
    (step : ∀ x ∈ L0, ∀ R : D → Gm → Prop, (∀ γ', wipeS γ' vs = γ0 → R (g x) γ') → bd (F x) γ0 fun γ2 => tt γ2 fun p γ3 => (p → te γ3 R) ∧ (¬p → False)) :
    (∀ d γ R R', (∀ γ', R γ' → R' γ') → bd d γ R → bd d γ R') → (∀ γ R R', (∀ p γ', R p γ' → R' p γ') → tt γ R → tt γ R') →
    ∀ (L : List α) (acc : List D) (R : List D → Gm → Prop), (∀ x ∈ L, x ∈ L0) → R (acc ++ L.map g) γ0 → lcD bd tt te vs (L.map F) acc γ0 R := by
  intro mb mt L
  induction L with
  | nil =>
    intro acc R _ h
    show R acc (wipeS γ0 vs)
    rw [hw]
    simpa using h
  | cons x L ih =>
    intro acc R hL h
    have := step x (hL x List.mem_cons_self) (fun c γ4 => lcD bd tt te vs (L.map F) (acc ++ [c]) (wipeS γ4 vs) R) fun γ' e => by
      rw [e]
      exact ih (acc ++ [g x]) R (fun y hy => hL y (List.mem_cons_of_mem _ hy)) (by simpa using h)
    exact mb _ _ _ _ (fun γ2 h2 => mt _ _ _ (fun p γ3 h3 => ⟨h3.1, fun n => (h3.2 n).elim⟩) h2) this
/-- with what is known of the elements alone -/
theorem lc_inv {bd : BdT} {tt : DB} {te : DT} {vs : List Nat} (Inv : List D → List D → Gm → Prop) {R : List D → Gm → Prop} (fin : ∀ acc γ, Inv [] acc γ → R acc (wipeS γ vs))
    (step : ∀ d ds acc γ, Inv (d :: ds) acc γ → (∀ acc' γ', Inv ds acc' γ' → lcD bd tt te vs ds acc' γ' R) →
      bd d γ fun γ2 => tt γ2 fun p γ3 => (p → te γ3 fun c γ4 => lcD bd tt te vs ds (acc ++ [c]) (wipeS γ4 vs) R) ∧ (¬p → lcD bd tt te vs ds acc (wipeS γ3 vs) R)) :
    ∀ ds acc γ, Inv ds acc γ → lcD bd tt te vs ds acc γ R
  | [], acc, γ, h => fin acc γ h
  | d :: ds, acc, γ, h => step d ds acc γ h fun acc' γ' h' => lc_inv Inv fin step ds acc' γ' h'
/-! ### from some point of a def on -/
def tDSx (K : PySem.W.Frag) (cl : Nat → Option (Addr × List Str)) (DkF : Nat → Hp → Addr → Addr → Prop) (s : DS) : TS := fun De σ H => (∀ m, DkLaw (DkF m)) ∧ (∀ m m' H d c, m ≤ m' → DkF m H d c → DkF m' H d c) ∧ ∃ dk H0 G0, tDS ⟨⟨dk, cl, K⟩, DkF, H0, G0, noX, fun _ _ _ => True, 2 ^ 50⟩ s De σ H
theorem ss_x {X : Cx} {K : PySem.W.Frag} {cl : Nat → Option (Addr × List Str)} {DkF : Nat → Hp → Addr → Addr → Prop} {st : List Stmt} {s : DS} (h : ∀ dk H0 G0, DkK ⟨⟨dk, cl, K⟩, DkF, H0, G0, noX, fun _ _ _ => True, 2 ^ 50⟩ DkF → PSs X st (tDS ⟨⟨dk, cl, K⟩, DkF, H0, G0, noX, fun _ _ _ => True, 2 ^ 50⟩ s)) : PSs X st (tDSx K cl DkF s) :=
  ⟨fun pins s σ H De I ⟨L, up, dk, H0, G0, q⟩ => (h dk H0 G0 ⟨⟨0, by simp, by simp⟩, L, up⟩).run pins s σ H De I q⟩
/-- all that is tracked but the deck's two objects -/
def noDk (H : Hp) (d c : Addr) : Hp := fun b => if b = d ∨ b = c then none else H b
theorem deck_in {K : PySem.W.Frag} {cl : Nat → Option (Addr × List Str)} {DkAt : Nat → Hp → Addr → Addr → Prop} {m : Nat} {H : Hp} {d c : Addr} {γ : GL} {σ : L2.St} {xc : Nat → List D → Prop} {E : XK} {cost : Nat} (L : ∀ m, DkLaw (DkAt m)) (up : ∀ m m' H d c, m ≤ m' → DkAt m H d c → DkAt m' H d c) (hk : DkAt m H d c) (hm : m ≤ cost) (hl : σ.length = γ.length)
    (hs : ∀ (i : Nat) s, γ[i]? = some s → s = .un ∨ (s = .fz .dk ∧ σ[i]? = some (some (.ref d)))) : Dst ⟨⟨some (d, c), cl, K⟩, DkAt, H, noDk H d c, xc, E, cost⟩ m (noDk H d c) γ σ H where
  law := L
  le := hm
  up := up
  sub := fun b o e => by
    unfold noDk at e
    split at e
    · cases e
    · exact e
  sub0 := Same.refl _
  kept := Kp.refl
  fresh := fun _ _ h => h
  tups := fun p xs e => by
    unfold noDk
    obtain ⟨h1, h2⟩ := (L _).tup _ _ _ hk
    rw [if_neg]
    · exact e
    · rintro (z | z)
      · exact h1 xs (z ▸ e)
      · exact h2 xs (z ▸ e)
  dkok := fun d' c' e => by
    cases e
    obtain ⟨t1, t2⟩ := (L _).there _ _ _ hk
    exact ⟨hk, t1, t2, if_pos (.inl rfl), if_pos (.inr rfl)⟩
  len := hl
  slot := fun i s e => by
    have l : i < σ.length := by rw [hl]; exact (List.getElem?_eq_some_iff.mp e).1
    rcases hs i s e with rfl | ⟨rfl, h⟩
    · exact ⟨σ[i], List.getElem?_eq_getElem l, trivial⟩
    · exact ⟨_, h, _, rfl, .dk rfl⟩
  off := fun i s p e hp => by
    rcases hs i s e with z | ⟨z, _⟩ <;> (subst z; cases hp)
  nd := fun i j p s t e _ hp _ => by
    rcases hs i s e with z | ⟨z, _⟩ <;> (subst z; cases hp)
/-! ### a promise by addresses that tells a single value, of a deck and ints -/
structure Cv (K : PySem.W.Frag) (cl : Nat → Option (Addr × List Str)) (DkF : Nat → Hp → Addr → Addr → Prop) (m c : Nat) (dk : Option (Addr × Addr)) (G H : Hp) (R : D → Prop) (Q : VK) : Prop where
  hm : m + c ≤ 2 ^ 50
  L : ∀ m, DkLaw (DkF m)
  up : ∀ m m' H d c, m ≤ m' → DkF m H d c → DkF m' H d c
  hd : ∀ d c, dk = some (d, c) → DkF m H d c ∧ G d = none ∧ G c = none
  sm : Same G H
  tu : ∀ p xs, H p = some (.tup xs) → G p = some (.tup xs)
  k : ∀ d v G' H', R d → Same G G' → Same G' H' → (∀ p xs, H' p = some (.tup xs) → G' p = some (.tup xs)) → (∀ p, H p ≠ none → G p = none → G' p = none) → Kp ⟨dk, cl, K⟩ H H' → (∀ d e, dk = some (d, e) → DkF (m + c) H' d e) → Rp ⟨dk, cl, K⟩ G' v d → Q v H'
theorem spD_cv {K : PySem.W.Frag} {cl : Nat → Option (Addr × List Str)} {DkF : Nat → Hp → Addr → Addr → Prop} {c n : Nat} {F : FD} {vs : List V} {H : Hp} {Q : VK} {E : XK} (h : spD K cl DkF c n F vs H Q E) : ∃ m dk G ds R xc, Cv K cl DkF m c dk G H R Q ∧ RpAll ⟨dk, cl, K⟩ G vs ds ∧ ds.length = n ∧ F ds R xc := by
  obtain ⟨m, dk, G, ds, R, xc, hm, L, up, hd, sm, tu, r, hl, hF, k, _⟩ := h
  exact ⟨m, dk, G, ds, R, xc, ⟨hm, L, up, hd, sm, tu, k⟩, r, hl, hF⟩
/-- with all the tuples of a greater heap -/
def upT (G H : Hp) : Hp := fun b => match H b with
  | some (.tup xs) => some (.tup xs)
  | _ => G b
theorem upT_tup {G H : Hp} {q : Addr} {xs : List V} (h : H q = some (.tup xs)) : upT G H q = some (.tup xs) := by unfold upT; rw [h]
theorem upT_other {G H : Hp} {q : Addr} (h : ∀ xs, H q ≠ some (.tup xs)) : upT G H q = G q := by
  unfold upT
  cases e : H q with
  | none => rfl
  | some o => cases o <;> first | rfl | exact absurd e (h _)
/-- the answer is a single value; but the deck all is as it was -/
theorem Cv.valD {K : PySem.W.Frag} {cl : Nat → Option (Addr × List Str)} {DkAt : Nat → Hp → Addr → Addr → Prop} {m n : Nat} {dk : Option (Addr × Addr)} {G H H' : Hp} {R : D → Prop} {Q : VK} {d : D} {v : V} (c : Cv K cl DkAt m n dk G H R Q) (hR : R d) (r : Rp ⟨dk, cl, K⟩ G v d) (s : Kp ⟨dk, cl, K⟩ H H') (hd : ∀ d e, dk = some (d, e) → DkAt (m + n) H' d e) : Q v H' := by
  have nd : ∀ b, G b ≠ none → ∀ d c, dk = some (d, c) → b ≠ d ∧ b ≠ c := fun b hb d' c' e => by
    obtain ⟨_, h1, h2⟩ := c.hd d' c' e
    exact ⟨fun z => hb (by rw [z]; exact h1), fun z => hb (by rw [z]; exact h2)⟩
  have gh : Same G H' := fun b o e => s b o (c.sm b o e) (nd b (by rw [e]; exact fun z => nomatch z))
  have sg : Same G (upT G H') := fun b o e => by
    by_cases z : ∃ xs, H' b = some (.tup xs)
    · obtain ⟨xs, z⟩ := z
      rw [upT_tup z]
      have := gh b o e
      rw [z] at this
      exact this
    · rw [upT_other fun xs q => z ⟨xs, q⟩]
      exact e
  refine c.k d v (upT G H') H' hR sg (fun b o e => ?_) (fun p xs e => upT_tup e) (fun p h0 h1 => ?_) s hd (r.mono sg)
  · by_cases z : ∃ xs, H' b = some (.tup xs)
    · obtain ⟨xs, z⟩ := z
      rw [upT_tup z] at e
      rw [z]; exact e
    · rw [upT_other fun xs q => z ⟨xs, q⟩] at e
      exact gh b o e
  · by_cases z : ∃ xs, H' p = some (.tup xs)
    · obtain ⟨xs, z⟩ := z
      exfalso
      cases q : H p with
      | none => exact h0 q
      | some o =>
        by_cases w : ∀ d c, dk = some (d, c) → p ≠ d ∧ p ≠ c
        · have := s p o q w
          rw [z] at this
          cases this
          rw [c.tu p xs q] at h1
          cases h1
        · apply w
          intro d' c' e
          obtain ⟨h2, h3⟩ := (c.L _).tup _ _ _ (hd d' c' e)
          exact ⟨fun q => h2 xs (by rw [← q]; exact z), fun q => h3 xs (by rw [← q]; exact z)⟩
    · rw [upT_other fun xs q => z ⟨xs, q⟩]
      exact h1
end EL
namespace EL
open PySem PySem.Spec PyProof.Rows L2
/-! ### displays of dicts, for a script that writes them -/
structure PPd (X : Cx) (B : Bs) (pos : Pos) (keys : List (Option Expr)) (values : List Expr) (ts : List (DT × DT)) : Prop where
  h : PPs X pos keys values (tDP B ts)
theorem dp_nil {X : Cx} {B : Bs} {pos : Pos} : PPd X B pos [] [] [] := ⟨pps_nil⟩
theorem dp_cons {X : Cx} {B : Bs} {pos : Pos} {k v : Expr} {ks : List (Option Expr)} {vs : List Expr} {tk tv : DT} {ts : List (DT × DT)} (hk : ∀ H0, PE X k (tD (withH B H0) tk)) (hv : ∀ H0, PE X v (tD (withH B H0) tv)) (hr : PPd X B pos ks vs ts) : PPd X B pos (some k :: ks) (v :: vs) ((tk, tv) :: ts) :=
  ⟨pps_cons (dx hk) (dx hv) hr.h⟩
theorem f_dispP {X : Cx} {B : Bs} {pos : Pos} {keys : List (Option Expr)} {values : List Expr} {ts : List (DT × DT)} (h : PPd X B pos keys values ts) (h15 : ts.length ≤ 15 := by decide) (hall : keys.all (·.isSome) = true := by rfl) (hl : keys.length = values.length := by rfl) (h0 : keys ≠ [] := by exact fun z => by cases z)
    (h15' : keys.length ≤ 15 := by decide) : PE X (.Dict keys values pos) (tDFd B (fDisp ts)) := f_disp h15 (pe_disp h.h hall hl h0 h15')
section
variable {X : Cx} {k : Nat} {f : Addr} {fd : FuncData} {ps : List Str} {sp : Sp} {x : Str} {p pos : Pos}
theorem pe_callG0 (F : PH.FnG X.prog X.w X.K X.mg X.base CX0 k f fd ps sp) (hgu : X.A.guards = some []) (hr : Room k X.A) (hg : Gl X x) (hm : X.mg x = some (.ref f))
    (hk : PySem.W.keepIn X.K (.ref f) = true) (hb : Binds X.K fd ps []) (hdb : (x == ("__debug__" : Str)) = false := by decide) :
    PE X (.Call (.Name x p) [] [] pos) (tCall sp [] E0 tNil) := by
  constructor
  intro pins s σ H Q I h
  refine wpAny_Call_Name_kw (ld_glob I hg hm (PySem.W.callWith_K0 I.kIn hk ?_) hdb)
  have q : sp [] H Q E0 := h
  have hl := F.len _ _ _ _ q
  have hb' := hb s [] I.kIn (by simpa using hl)
  rw [List.append_nil] at hb'
  refine wpAny_call (codeAny_mono (F.run X.A X.stack s H ⟨[], []⟩ [] [] Q E0 hgu hr I.env0 hb' .nil q) ?_)
  intro r' s' hq
  match r', hq with
  | .error _, hq => exact hq.elim
  | .ok (.ret _), hq => exact I.after hq
  | .ok .next, hq => exact hq.elim
  | .ok .brk, hq => exact hq.elim
  | .ok .cont, hq => exact hq.elim
end
end EL
namespace EL
open PySem PySem.Spec PyProof.Rows L2
/-- a comprehension that draws nothing: each thing is kept or left out, by a truth, and comes to g -/
theorem lc_filt {α : Type} {bd : BdT} {tt : DB} {te : DT} {vs : List Nat} {γ0 : Gm} (F : α → D) (g : α → D) (kp : α → Bool) (L0 : List α)
    (step : ∀ x ∈ L0, ∀ (R : D → Gm → Prop) (R' : Gm → Prop), (kp x = true → ∀ γ', wipeS γ' vs = γ0 → R (g x) γ') → (kp x = false → ∀ γ', wipeS γ' vs = γ0 → R' γ') →
      bd (F x) γ0 fun γ2 => tt γ2 fun p γ3 => (p → te γ3 R) ∧ (¬p → R' γ3)) :
    ∀ (L : List α) (acc : List D) (R : List D → Gm → Prop), (∀ x ∈ L, x ∈ L0) → R (acc ++ (L.filter kp).map g) (wipeS γ0 vs) → lcD bd tt te vs (L.map F) acc γ0 R := by
  intro L
  induction L with
  | nil =>
    intro acc R _ h
    show R acc (wipeS γ0 vs)
    rw [List.filter_nil, List.map_nil, List.append_nil] at h
    exact h
  | cons x L ih =>
    intro acc R hL h
    refine step x (hL x List.mem_cons_self) _ _ (fun hk γ' hw => ?_) (fun hk γ' hw => ?_)
    · show lcD bd tt te vs (L.map F) (acc ++ [g x]) (wipeS γ' vs) R
      rw [hw]
      refine ih _ _ (fun y hy => hL y (List.mem_cons_of_mem _ hy)) ?_
      rw [List.filter_cons_of_pos hk, List.map_cons] at h
      rw [List.append_assoc]
      exact h
    · show lcD bd tt te vs (L.map F) acc (wipeS γ' vs) R
      rw [hw]
      refine ih _ _ (fun y hy => hL y (List.mem_cons_of_mem _ hy)) ?_
      rw [List.filter_cons_of_neg (by simp [hk])] at h
      exact h
theorem sIx_nat (n : Nat) (d : Nat) (k : Nat) : HT.sIx n d (some (k : Int)) = min k n := by
  unfold HT.sIx
  dsimp only
  rw [if_neg (by omega), Int.toNat_natCast]
theorem cutD_from {ds : List D} (k : Nat) : cutD ds (some (k : Int)) none = ds.drop k := by
  unfold cutD
  rw [sIx_nat]
  show List.take (ds.length - min k ds.length) (ds.drop (min k ds.length)) = _
  rw [List.take_of_length_le (by rw [List.length_drop]; exact Nat.le_refl _)]
  by_cases h : k ≤ ds.length
  · rw [Nat.min_eq_left h]
  · rw [Nat.min_eq_right (by omega), List.drop_length, List.drop_of_length_le (by omega)]
theorem cutD_to {ds : List D} (k : Nat) : cutD ds none (some (k : Int)) = ds.take k := by
  unfold cutD
  rw [sIx_nat]
  show List.take (min k ds.length - 0) ds = _
  rw [Nat.sub_zero]
  by_cases h : k ≤ ds.length
  · rw [Nat.min_eq_left h]
  · rw [Nat.min_eq_right (by omega), List.take_length, List.take_of_length_le (by omega)]
theorem cutD_2 {a b : D} {ps : List D} : cutD (a :: b :: ps) (some 2) none = ps := cutD_from 2
theorem cutD_at {ds : List D} (a b : Nat) : cutD ds (some (a : Int)) (some (b : Int)) = (ds.drop a).take (b - a) := by
  unfold cutD
  rw [sIx_nat, sIx_nat]
  by_cases h : a ≤ ds.length
  · rw [Nat.min_eq_left h]
    by_cases h2 : b ≤ ds.length
    · rw [Nat.min_eq_left h2]
    · rw [Nat.min_eq_right (by omega), List.take_of_length_le (by rw [List.length_drop]; omega), List.take_of_length_le (by rw [List.length_drop]; omega)]
  · rw [Nat.min_eq_right (show ds.length ≤ a by omega), List.drop_length, List.drop_of_length_le (by omega), List.take_nil, List.take_nil]
theorem at_nat {α : Type} (ds : List α) (k : Nat) (c : α) (h : ds[k]? = some c) : atI ds (k : Int) = some c := by
  have hk := (List.getElem?_eq_some_iff.mp h).1
  unfold atI ixN
  rw [if_pos (by omega), if_pos (by omega), Int.toNat_natCast]
  exact h
theorem at_0 {α : Type} {a : α} {ps : List α} : atI (a :: ps) 0 = some a := at_nat _ 0 _ rfl
theorem at_1 {α : Type} {a b : α} {ps : List α} : atI (a :: b :: ps) 1 = some b := at_nat _ 1 _ rfl
theorem at_int {α : Type} (ds : List α) (i : Int) (c : α) (h0 : 0 ≤ i) (h : ds[i.toNat]? = some c) : atI ds i = some c := by
  have := at_nat ds i.toNat c h
  rwa [Int.toNat_of_nonneg h0] at this
theorem rngC_down (n : Nat) : rngC (((n + 1 : Nat) : Int) - 1) (-1) (n + 1) = .int (n : Int) :: rngC ((n : Int) - 1) (-1) n := by
  unfold rngC
  rw [List.range_succ_eq_map, List.map_cons, List.map_map]
  congr 1
  · congr 1; omega
  · refine List.map_congr_left fun k _ => ?_
    show D.int _ = D.int _
    congr 1
    rw [Nat.succ_eq_add_one]
    omega
end EL
namespace EL
open PySem PySem.Spec PyProof.Rows L2 HT
section
variable {pr : Program} {wd : World} {Ar : Around} {Ex : Value → Shared → Prop} {sh : Shared}
theorem back_adjust (n : Nat) : Builtin.Slice.sliceAdjust none none (-1) (n : Int) = ((n : Int) - 1, -1) := by
  unfold Builtin.Slice.sliceAdjust
  have h1 : ((-1 : Int) < 0) := by decide
  simp only [h1, if_true]
theorem back_places (n : Nat) : Builtin.Slice.slicePlaces ((n : Int) - 1) (-1) (-1) = n := by
  unfold Builtin.Slice.slicePlaces
  have h1 : ¬ ((-1 : Int) > 0) := by decide
  simp only [h1, if_false]
  rw [show (- -1 : Int) = 1 by decide, Int.ediv_one]
  split <;> omega
theorem back_pick (xs : Array Value) : ((List.range xs.size).filterMap fun (m : Nat) => xs[(((xs.size : Int) - 1) + (m : Int) * (-1)).toNat]?).toArray = xs.toList.reverse.toArray := by
  have e : (fun (m : Nat) => xs[(((xs.size : Int) - 1) + (m : Int) * (-1)).toNat]?) = fun m => xs[xs.size - 1 - m]? := by
    funext m
    congr 1
    omega
  rw [e]
  have h := PySem.W.krv_range xs.size
  have h2 := PySem.W.krv_all xs
  have : (List.range xs.size).filterMap (fun m => xs[xs.size - 1 - m]?) = ((List.range xs.size).map (fun k => xs.size - 1 - k)).filterMap (xs[·]?) := by rw [List.filterMap_map]; rfl
  rw [this, h, List.filterMap_reverse, h2]
theorem back_applied {b : Addr} {x : Value} {n : Nat} {Q : Int × Int × Nat → Shared → Prop} (hs : sh.heap.IsSliceOf b .none .none x) (px : IsPart x (some (-1)))
    (h : Q ((n : Int) - 1, -1, n) sh) : wpAny (model pr wd) Ar (Builtin.Slice.sliceApplied (.ref b) (pure (n : Int))) Q Ex sh := by
  obtain ⟨ob, h1, h2, h3⟩ := id hs
  unfold Builtin.Slice.sliceApplied Builtin.Slice.sliceFields
  refine wpAny_bind (wpAny_bind (wpAny_field h1 h3 (x := .none) rfl (wpAny_bind (wpAny_field h1 h3 (x := .none) rfl (wpAny_bind (wpAny_field h1 h3 (x := x) rfl (wpAny_pure ?_)))))))
  refine wpAny_bind (slicePart_ px ?_)
  show wpAny _ _ (if ((-1 : Int) == 0) = true then _ else _) _ _ sh
  rw [if_neg (by decide)]
  refine wpAny_bind (slicePart_none (wpAny_bind (slicePart_none (wpAny_bind (wpAny_pure ?_)))))
  show wpAny _ _ (match Builtin.Slice.sliceAdjust none none (-1) (n : Int) with | (lo, hi) => pure (lo, (-1 : Int), Builtin.Slice.slicePlaces lo hi (-1))) _ _ sh
  rw [back_adjust]
  show wpAny _ _ (pure ((n : Int) - 1, (-1 : Int), Builtin.Slice.slicePlaces ((n : Int) - 1) (-1) (-1))) _ _ sh
  rw [back_places]
  exact wpAny_pure h
theorem back_item {t b : Addr} {items : Array Value} {x : Value} {Q : Value → Shared → Prop} (ht : IsTup sh.heap t items) (hs : sh.heap.IsSliceOf b .none .none x) (px : IsPart x (some (-1)))
    (h : Q (.ref sh.heap.objs.size) { sh with heap := sh.heap.push { cls := .type "tuple", data := .seq items.toList.reverse.toArray } }) (hz : items.size ≤ sizeLine) : wpAny (model pr wd) Ar (getItem (.ref t) (.ref b)) Q Ex sh := by
  have hfit : sizeOk (.seq items.toList.reverse.toArray) := by
    show items.toList.reverse.toArray.size ≤ sizeLine
    simpa using hz
  obtain ⟨ob, h1, h2, h3⟩ := id hs
  have hT : sh.TypeIs (.ref b) "slice" := ⟨ob, h1, h2⟩
  unfold getItem
  (try with_reducible refine wpAny_holding ?_); (first | refine wpAny_bind (wpAny_pure ?_) | skip); refine wpAny_bind (wpAny_sequenceKey ht.typeIs (by decide) ?_)
  refine wpAny_bind (wpAny_callSpecial?_slot (name := Str.ofString "__getitem__") ht.typeIs slot_tuple_getitem (wpAny_call_entry slot_tuple_getitem ht.typeIs entry_tuple_getitem ?_ (args_tuple_getitem _ _)))
  show wpAny _ _ (Builtin.Tuple.tupleItemsOf (.ref t) >>= _) _ _ sh
  refine wpAny_bind (tupleItemsOf_ ht ?_)
  refine wpAny_bind (wpAny_typeOf hT ?_)
  rw [if_pos (by decide)]
  refine wpAny_bind (back_applied hs px ?_)
  show wpAny _ _ (if (((items.size : Int) - 1) == 0 && (-1 : Int) == 1 && items.size == items.size) = true then _ else _) _ _ sh
  rw [if_neg (by simp), back_pick]
  first
    | exact wpAny_bind (m := Builtin.Tuple.tupleExact _) (wpAny_newObj_type (wpAny_pure ⟨_, rfl, wpAny_pure h⟩) hfit)
    | exact wpAny_bind (m := Builtin.Tuple.tupleExact _) (wpAny_newObj_type (wpAny_bind (wpAny_pure (wpAny_pure ⟨_, rfl, wpAny_pure h⟩))) hfit)
    | exact wpAny_bind (wpAny_bind (m := Builtin.Tuple.tupleExact _) (wpAny_newObj_type (wpAny_pure (wpAny_pure ⟨_, rfl, wpAny_pure h⟩)) hfit))
    | exact wpAny_bind (wpAny_bind (m := Builtin.Tuple.tupleExact _) (wpAny_newObj_type (wpAny_pure ⟨_, rfl, wpAny_pure h⟩) hfit))
end
section
variable {X : Cx} {B : Bs} {G : Hp} {γ : Gm} {σ : L2.St} {H : Hp} {e : Expr} {t : DT}
/-- t[::-1] of a tuple -/
def tRevT (K : PySem.W.Frag) (te : TE) : TE := fun σ H Q => te σ H fun x H1 => ∃ a xs, x = .ref a ∧ SqT K H1 a xs ∧ ∀ p, H1 p = none → Q (.ref p) (upd H1 p (.tup xs.reverse))
theorem pe_revT {te : TE} {k : Nat} {p1 p2 p3 pos : Pos} (he : PE X e te) : PE X (.Subscript e (.Slice none none (some (.UnaryOp .USub (.Constant (.int 1) k p1) p2)) p3) pos) (tRevT X.K te) := by
  refine ⟨fun pins s σ H Q I h => ?_⟩
  refine Subscript_ (thn (he.run pins s σ H _ I h) fun v s1 ⟨x, H1, I1, r1, a, xs, ex, hx, q⟩ => ?_)
  subst ex
  cases r1
  have hst : PO X (some (.UnaryOp .USub (.Constant (.int 1) k p1) p2)) (tPart (tUn (rU fun i => .int (-i)) (tC (.int 1)))) := po_some (pe_un un_neg pe_int)
  refine wpAny_Slice (thn (po_none.run pins s1 σ H1 (fun o H2 => o = none ∧ H2 = H1) I1 ⟨rfl, rfl⟩) fun ul s2 ⟨l, H2, I2, pl, el, e2⟩ => ?_)
  subst el e2
  refine thn (po_none.run pins s2 σ H2 (fun o H3 => o = none ∧ H3 = H2) I2 ⟨rfl, rfl⟩) fun uu s3 ⟨u, H3, I3, pu, eu, e3⟩ => ?_
  subst eu e3
  refine thn (hst.run pins s3 σ H3 (fun o H4 => o = some (-1) ∧ H4 = H3) I3 ⟨1, rfl, -1, rfl, rfl, rfl⟩) fun us s4 ⟨o, H4, I4, ps, eo, e4⟩ => ?_
  subst eo e4
  have I5 : Inv X pins σ H4 { s4 with heap := s4.heap.push { cls := .type "slice", data := .fields #[ul, uu, us] } } := I4.kept (t' := s4.toks) fun b ob q => Heap.get?_push_of_some _ q
  obtain ⟨its, r, ht, hz⟩ := I5.tuple hx
  have hlen := r.length
  cases pl
  cases pu
  show wpAny (model X.prog X.w) X.A (subscriptTail e (.Slice none none (some (.UnaryOp .USub (.Constant (.int 1) k p1) p2)) p3) (.ref a) (.ref s4.heap.objs.size)) (EP X pins σ Q) X.xe { s4 with heap := s4.heap.push { cls := .type "slice", data := .fields #[.none, .none, us] } }
  refine tail_any (ops := [.ref a, .ref s4.heap.objs.size]) ht.typeIs slot_tuple_getitem.lookup ?_ (by with_unfolding_all rfl)
  refine back_item ht (Heap.IsSliceOf.new _ .none .none us) ps ?_ (by rw [List.size_toArray]; omega)
  refine ⟨.ref _, _, I5.laid (t' := s4.toks) (o := .tup xs.reverse) (fun b ob q => Heap.get?_push_of_some _ q) (Nat.le_refl _) ?_, rfl, q _ (I5.hok.fresh (Nat.le_refl _))⟩
  exact ⟨by rw [List.length_reverse]; exact hz, _, r.reverse, IsTup.new _ _⟩
def dRevT (t : DT) : DT := fun γ R => t γ fun d γ1 => match d with
  | .tup xs => R (.tup xs.reverse) γ1
  | _ => False
theorem d_revT (h : PE X e (tRevT B.K (tD B t))) : PE X e (tD B (dRevT t)) := pe_imp h fun σ H Q ⟨G, γ, R, S, h, k⟩ => ⟨G, γ, _, S, h, fun d γ1 G1 v H1 q sm S1 r => by
  split at q
  · cases r with
    | tup hs ra =>
      refine ⟨_, _, rfl, hs.sq S1.sub, fun p hp => ?_⟩
      obtain ⟨G2, s2, S2, r2⟩ := S1.newTup ra.rev hp
      exact k _ _ _ _ _ q (sm.trans s2) S2 r2
  · exact q.elim⟩
end
end EL
namespace EL
open PySem PySem.Spec PyProof.Rows L2
/-! ### data of small parts: what == and repr want -/
def gd (z : Str) : Bool := z.cps.toList.all (fun c => decide (c < 128)) && decide (z.length ≤ 40)
mutual
def tm : D → Bool
  | .non => true
  | .bl _ => true
  | .int i => decide (0 ≤ i ∧ i < 1000)
  | .str z => gd z
  | .tup ds => tms ds
  | .lst ds => tms ds
  | _ => false
def tms : List D → Bool
  | [] => true
  | d :: ds => tm d && tms ds
end
mutual
def wt : D → Nat
  | .str z => z.length
  | .int _ => 40
  | .tup ds => wts ds
  | .lst ds => wts ds
  | _ => 0
def wts : List D → Nat
  | [] => 0
  | d :: ds => wt d + 1 + wts ds
end
mutual
def dep : D → Nat
  | .tup ds => deps ds + 1
  | .lst ds => deps ds + 1
  | _ => 0
def deps : List D → Nat
  | [] => 0
  | d :: ds => max (dep d) (deps ds)
end
theorem gd_ok {z : Str} (h : gd z = true) : PyData.strOk z = true ∧ (z.cps.toList.all fun c => decide (c < 16 ^ 8)) = true := by
  unfold gd at h
  rw [Bool.and_eq_true] at h
  have h1 := List.all_eq_true.mp h.1
  constructor
  · unfold PyData.strOk
    rw [← Array.all_toList, List.all_eq_true]
    intro c hc
    have := of_decide_eq_true (h1 c hc)
    exact decide_eq_true (by omega)
  · rw [List.all_eq_true]
    intro c hc
    have := of_decide_eq_true (h1 c hc)
    exact decide_eq_true (by omega)
theorem small_shown : ∀ n : Nat, n < 1000 → (PyData.int (n : Int)).shown.length ≤ 8 ∧ (PyData.int (n : Int)).weight ≤ 40 := by
  have h : ∀ n : _root_.Fin 1000, (PyData.int ((n : Nat) : Int)).shown.length ≤ 8 ∧ (PyData.int ((n : Nat) : Int)).weight ≤ 40 := by decide +kernel
  exact fun n hn => h ⟨n, hn⟩
structure Tm (q : PyData) (w d : Nat) : Prop where
  lay : q.canLay0 = true
  sh : q.showable = true
  di : q.hasDict = false
  lv : PyData.leavesShort 8 q = true
  w : q.weight ≤ w
  d : q.depth = d
structure Tms (q : List PyData) (w d : Nat) : Prop where
  lay : PyData.canLayAll0 q = true
  sh : PyData.showableAll q = true
  di : PyData.hasDictAll q = false
  lv : PyData.leavesShortAll 8 q = true
  w : PyData.weightAll q ≤ w
  d : PyData.depthAll q = d
theorem tm_int {i : Int} (h : 0 ≤ i ∧ i < 1000) : Tm (.int i) 40 0 := by
  obtain ⟨n, rfl⟩ := Int.eq_ofNat_of_zero_le h.1
  have hn : n < 1000 := by omega
  refine ⟨rfl, ?_, rfl, ?_, (small_shown n hn).2, rfl⟩
  · unfold PyData.showable
    refine decide_eq_true ?_
    rw [Int.natAbs_natCast]
    refine Nat.lt_of_le_of_lt (Nat.log2_le_self n) (by omega)
  · unfold PyData.leavesShort
    exact decide_eq_true (small_shown n hn).1
mutual
theorem tm_ok : ∀ d : D, tm d = true → isPy d = true ∧ Tm (py d) (wt d) (dep d)
  | .non, _ => by show true = true ∧ Tm PyData.none 0 0; exact ⟨rfl, rfl, rfl, rfl, rfl, by decide, rfl⟩
  | .bl b, _ => by show true = true ∧ Tm (PyData.bool b) 0 0; exact ⟨rfl, rfl, rfl, rfl, by cases b <;> decide, by cases b <;> decide, rfl⟩
  | .int i, h => by
    show true = true ∧ Tm (.int i) 40 0
    exact ⟨rfl, tm_int (of_decide_eq_true h)⟩
  | .str z, h => by
    show true = true ∧ Tm (.str z) z.length 0
    have h : gd z = true := h
    refine ⟨rfl, (gd_ok h).1, rfl, rfl, ?_, Nat.le_refl _, rfl⟩
    unfold PyData.leavesShort
    exact (gd_ok h).2
  | .tup ds, h => by
    rw [tm] at h
    obtain ⟨h0, h1⟩ := tms_ok ds h
    rw [py, isPy, wt, dep]
    refine ⟨h0, h1.lay, h1.sh, h1.di, h1.lv, h1.w, ?_⟩
    show PyData.depthAll (pys ds) + 1 = _
    rw [h1.d]
  | .lst ds, h => by
    rw [tm] at h
    obtain ⟨h0, h1⟩ := tms_ok ds h
    rw [py, isPy, wt, dep]
    refine ⟨h0, h1.lay, h1.sh, h1.di, h1.lv, h1.w, ?_⟩
    show PyData.depthAll (pys ds) + 1 = _
    rw [h1.d]
  | .dct _, h => nomatch h
  | .dcT _, h => nomatch h
  | .obj _ _, h => nomatch h
  | .dk, h => nomatch h
  | .opq _, h => nomatch h
theorem tms_ok : ∀ ds : List D, tms ds = true → isPys ds = true ∧ Tms (pys ds) (wts ds) (deps ds)
  | [], _ => by rw [pys, isPys]; exact ⟨rfl, rfl, rfl, rfl, rfl, Nat.le_refl _, rfl⟩
  | d :: ds, h => by
    rw [tms, Bool.and_eq_true] at h
    obtain ⟨a0, a⟩ := tm_ok d h.1
    obtain ⟨b0, b⟩ := tms_ok ds h.2
    rw [pys, isPys, wts, deps, a0, b0]
    refine ⟨rfl, ?_, ?_, ?_, ?_, ?_, ?_⟩
    · show ((py d).canLay0 && PyData.canLayAll0 (pys ds)) = true
      rw [a.lay, b.lay]; rfl
    · show ((py d).showable && PyData.showableAll (pys ds)) = true
      rw [a.sh, b.sh]; rfl
    · show ((py d).hasDict || PyData.hasDictAll (pys ds)) = false
      rw [a.di, b.di]; rfl
    · show (PyData.leavesShort 8 (py d) && PyData.leavesShortAll 8 (pys ds)) = true
      rw [a.lv, b.lv]; rfl
    · show (py d).weight + 1 + PyData.weightAll (pys ds) ≤ _
      have := a.w
      have := b.w
      omega
    · show max (py d).depth (PyData.depthAll (pys ds)) = _
      rw [a.d, b.d]
end
theorem okD_tm {d : D} (h : tm d = true) (hd : dep d ≤ 60) : okD d := by
  obtain ⟨a, b⟩ := tm_ok d h
  refine ⟨a, ?_⟩
  unfold SeqAt.shaped
  rw [Bool.and_eq_true]
  exact ⟨b.lay, decide_eq_true (by rw [b.d]; omega)⟩
theorem showOk_tm {d : D} (h : tm d = true) (hd : dep d ≤ 60) (hw : wt d ≤ 90000) : showOk d := by
  obtain ⟨a, b⟩ := tm_ok d h
  refine ⟨a, b.sh, b.di, by rw [b.d]; exact hd, ?_⟩
  have := PyData.shown_le 8 (Nat.le_refl _) (py d) b.lv
  have := b.w
  omega
theorem tms_all : ∀ {ds : List D}, (∀ d ∈ ds, tm d = true) → tms ds = true
  | [], _ => rfl
  | d :: ds, h => by
    rw [tms, h d List.mem_cons_self, tms_all fun c hc => h c (List.mem_cons_of_mem _ hc)]
    rfl
theorem deps_le {n : Nat} : ∀ {ds : List D}, (∀ d ∈ ds, dep d ≤ n) → deps ds ≤ n
  | [], _ => Nat.zero_le _
  | d :: ds, h => by
    rw [deps]
    exact Nat.max_le.mpr ⟨h d List.mem_cons_self, deps_le fun c hc => h c (List.mem_cons_of_mem _ hc)⟩
theorem wts_le {n : Nat} : ∀ {ds : List D}, (∀ d ∈ ds, wt d ≤ n) → wts ds ≤ (n + 1) * ds.length
  | [], _ => Nat.zero_le _
  | d :: ds, h => by
    have h1 := h d List.mem_cons_self
    have h2 := wts_le (n := n) fun c hc => h c (List.mem_cons_of_mem _ hc)
    rw [wts, List.length_cons, Nat.mul_succ]
    omega
theorem eqD_nilL {d : D} {ds : List D} : eqD (.lst (d :: ds)) (.lst []) = false := by
  unfold eqD
  simp only [py, pys, PyData.eqv, PyData.eqvAll]
theorem eqD_nil0 : eqD (.lst []) (.lst []) = true := by decide
theorem eqD_nil {ds : List D} : eqD (.lst ds) (.lst []) = true ↔ ds = [] := by
  cases ds with
  | nil => simp [eqD_nil0]
  | cons d ds => simp [eqD_nilL]
end EL
namespace EL
open PySem PySem.Spec PyProof.Rows L2
/-! ### texts by their signs -/
def Sg (P : Nat → Prop) (n : Nat) (z : Str) : Prop := (∀ c ∈ z.cps.toList, P c) ∧ z.length ≤ n
section
variable {P : Nat → Prop} {n m : Nat} {z y : Str}
theorem sl_len (z : Str) : z.cps.toList.length = z.length := by simp [Str.length]
theorem Sg.mono (h : Sg P n z) (l : n ≤ m) : Sg P m z := ⟨h.1, Nat.le_trans h.2 l⟩
theorem cutS_list (z : Str) (lo hi : Option Int) : (cutS z lo hi).cps.toList = (z.cps.toList.drop (HT.sIx z.length 0 lo)).take (HT.sIx z.length z.length hi - HT.sIx z.length 0 lo) := by
  unfold cutS
  simp
theorem Sg.cut (h : Sg P n z) (lo hi : Option Int) : Sg P n (cutS z lo hi) := by
  refine ⟨fun c hc => ?_, ?_⟩
  · rw [cutS_list] at hc
    exact h.1 c (List.mem_of_mem_drop (List.mem_of_mem_take hc))
  · rw [← sl_len, cutS_list, List.length_take, List.length_drop, sl_len]
    have := h.2
    omega
theorem app_list (z y : Str) : (z ++ y).cps.toList = z.cps.toList ++ y.cps.toList := Array.toList_append
theorem app_len (z y : Str) : (z ++ y).length = z.length + y.length := by rw [← sl_len, app_list, List.length_append, sl_len, sl_len]
theorem Sg.app (h : Sg P n z) (k : Sg P m y) : Sg P (n + m) (z ++ y) := by
  refine ⟨fun c hc => ?_, by rw [app_len]; exact Nat.add_le_add h.2 k.2⟩
  rw [app_list] at hc
  rcases List.mem_append.mp hc with q | q
  · exact h.1 c q
  · exact k.1 c q
theorem fold_mem (z : Str) : ∀ (r : List Str) (acc : Array Nat) (c : Nat), c ∈ (r.foldl (fun acc p => acc ++ z.cps ++ p.cps) acc).toList → c ∈ acc.toList ∨ c ∈ z.cps.toList ∨ ∃ p ∈ r, c ∈ p.cps.toList
  | [], acc, c, h => .inl h
  | p :: r, acc, c, h => by
    rw [List.foldl_cons] at h
    rcases fold_mem z r _ c h with q | q | ⟨p', h1, h2⟩
    · rw [Array.toList_append, Array.toList_append] at q
      rcases List.mem_append.mp q with q | q
      · rcases List.mem_append.mp q with q | q
        · exact .inl q
        · exact .inr (.inl q)
      · exact .inr (.inr ⟨p, List.mem_cons_self, q⟩)
    · exact .inr (.inl q)
    · exact .inr (.inr ⟨p', List.mem_cons_of_mem _ h1, h2⟩)
theorem join_mem (z : Str) (ys : List Str) (c : Nat) (h : c ∈ (Txt.join z ys).cps.toList) : c ∈ z.cps.toList ∨ ∃ p ∈ ys, c ∈ p.cps.toList := by
  cases ys with
  | nil => cases h
  | cons p r =>
    rcases fold_mem z r p.cps c h with q | q | ⟨p', h1, h2⟩
    · exact .inr ⟨p, List.mem_cons_self, q⟩
    · exact .inl q
    · exact .inr ⟨p', List.mem_cons_of_mem _ h1, h2⟩
theorem join_len (z : Str) (ys : List Str) : (Txt.join z ys).length = (ys.map (·.length)).sum + (ys.length - 1) * z.length := size_glued z ys
theorem sg_one {c : Nat} (h : P c) : Sg P 1 ⟨#[c]⟩ := ⟨fun x hx => by simp at hx; subst hx; exact h, Nat.le_refl _⟩
theorem Sg.gd (h : Sg P n z) (hP : ∀ c, P c → c < 128) (hn : n ≤ 40) : gd z = true := by
  unfold EL.gd
  rw [Bool.and_eq_true]
  exact ⟨List.all_eq_true.mpr fun c hc => decide_eq_true (hP c (h.1 c hc)), decide_eq_true (Nat.le_trans h.2 hn)⟩
end
/-- a to z -/
def AZ (c : Nat) : Prop := 97 ≤ c ∧ c ≤ 122
theorem AZ.lt {c : Nat} (h : AZ c) : c < 128 := by unfold AZ at h; omega
abbrev letters : Str := "abcdefghijklmnopqrstuvwxyz"
theorem letter_at (i : Int) (h0 : 0 ≤ i) (h1 : i < 26) : ∃ c, atI letters.cps.toList i = some c ∧ AZ c := by
  obtain ⟨n, rfl⟩ := Int.eq_ofNat_of_zero_le h0
  have hn : n < 26 := by omega
  have h : ∀ n : _root_.Fin 26, letters.cps.toList[n.1]? = some (97 + n.1) := by decide +kernel
  exact ⟨97 + n, at_nat _ n _ (h ⟨n, hn⟩), by unfold AZ; omega⟩
theorem letter_at2 (i : Int) (h0 : 0 ≤ i) (h1 : i < 26) : atI letters.cps.toList i = some (97 + i.toNat) ∧ AZ (97 + i.toNat) := by
  obtain ⟨n, rfl⟩ := Int.eq_ofNat_of_zero_le h0
  have hn : n < 26 := by omega
  have h : ∀ n : _root_.Fin 26, letters.cps.toList[n.1]? = some (97 + n.1) := by decide +kernel
  rw [Int.toNat_natCast]
  exact ⟨at_nat _ n _ (h ⟨n, hn⟩), by unfold AZ; omega⟩
theorem letter_ix (c : Nat) (h : AZ c) : ∃ (i : Nat) (rest : List Nat), Builtin.Str.occurrences letters ⟨#[c]⟩ 0 letters.length 1 = i :: rest ∧ i < 26 := by
  have k : ∀ n : _root_.Fin 26, Builtin.Str.occurrences letters ⟨#[97 + n.1]⟩ 0 letters.length 1 = [n.1] := by decide +kernel
  unfold AZ at h
  refine ⟨c - 97, [], ?_, by omega⟩
  have := k ⟨c - 97, by omega⟩
  dsimp only at this
  rwa [show 97 + (c - 97) = c by omega] at this
theorem letters_len : letters.length = 26 := by decide +kernel
theorem join_az (ys : List Str) (h : ∀ y ∈ ys, Sg AZ 1 y ∧ y.length = 1) : Sg AZ ys.length (Txt.join "" ys) ∧ (Txt.join "" ys).length = ys.length := by
  have e : (Txt.join "" ys).length = ys.length := by
    rw [join_len]
    have : ∀ l : List Str, (∀ y ∈ l, Sg AZ 1 y ∧ y.length = 1) → (l.map (·.length)).sum = l.length := by
      intro l
      induction l with
      | nil => intro _; rfl
      | cons a l ih =>
        intro h
        rw [List.map_cons, List.sum_cons, ih fun y hy => h y (List.mem_cons_of_mem _ hy), (h a List.mem_cons_self).2, List.length_cons]
        omega
    rw [this ys h]
    show ys.length + (ys.length - 1) * 0 = _
    omega
  refine ⟨⟨fun c hc => ?_, by omega⟩, e⟩
  rcases join_mem _ _ c hc with q | ⟨p, hp, q⟩
  · cases q
  · exact (h p hp).1.1 c q
section
variable {X : Cx} {B : Bs} {e : Expr}
theorem d_callCc {cc : Nat} (hcc : B.cost = cc) {DkF : Nat → Hp → Addr → Addr → Prop} (hB : DkK B DkF) {c n : Nat} {F : FD} {ta : DA} {E : XK} (h : PE X e (tCall (spD B.K B.W.cl DkF c n F) [] E (tDA B ta))) : PE X e (tD B (dCallC c n F cc noX ta)) := by
  subst hcc
  exact d_callC hB h
end
end EL
namespace EL
open PySem PySem.Spec PyProof.Rows L2
/-! ### dicts of the module's own, with texts for keys -/
structure KTab (K : PySem.W.Frag) (w : World) (cl : Nat → Option (Addr × List Str)) (d : Addr) (tab : Str → Option D) : Prop where
  dict : ∃ es n, KDict K w d es n
  yes : ∀ z c, tab z = some c → ∃ u v, PySem.W.nsIn K d z = some (some u) ∧ RelV v u ∧ ∀ dk G, Rp ⟨dk, cl, K⟩ G v c
  no : ∀ z, tab z = none → PySem.W.nsIn K d z = some none
section
variable {X : Cx} {B : Bs} {G : Hp} {γ : Gm} {σ : L2.St} {H : Hp} {e o f : Expr} {t : DT} {d : Addr} {tab : Str → Option D}
def kIxF (d : Addr) (tab : Str → Option D) : F2 := fun x y R => match y with
  | .str z => x = .opq (.ref d) ∧ ∃ c, tab z = some c ∧ R c
  | _ => False
theorem ok_kix (T : KTab B.K X.w B.W.cl d tab) (hK : X.K = B.K) : OkR2 B (rIxD X.K X.w) (kIxF d tab) := by
  intro G γ σ H x y dx dy R Q S rx ry h k
  unfold kIxF at h
  split at h
  · obtain ⟨rfl, c, h1, h2⟩ := h
    cases rx
    cases rpStr ry
    obtain ⟨u, v, a1, a2, a3⟩ := T.yes _ _ h1
    obtain ⟨es, n, D⟩ := T.dict
    rw [hK]
    exact ⟨d, _, v, rfl, rfl, ⟨es, n, u, D.at_, D.lit, a1, a2⟩, k _ _ _ _ h2 (Same.refl _) S (a3 B.W.dk G)⟩
  · exact h.elim
/-- is it a key -/
def kInP (d : Addr) (tab : Str → Option D) (neg : Bool) : FP := fun x y R => match x with
  | .str z => y = .opq (.ref d) ∧ R ((tab z).isSome = true ↔ neg = false)
  | _ => False
def rKIn (K : PySem.W.Frag) (d : Addr) : R2 := fun x y H Q => ∃ (z : Str) (r : Option Value), x = .str z ∧ y = .ref d ∧ PySem.W.nsIn K d z = some r ∧ Q (.bl r.isSome) H
def rKNi (K : PySem.W.Frag) (d : Addr) : R2 := fun x y H Q => ∃ (z : Str) (r : Option Value), x = .str z ∧ y = .ref d ∧ PySem.W.nsIn K d z = some r ∧ Q (.bl (!r.isSome)) H
theorem kt_ns {K : PySem.W.Frag} {w : World} {cl : Nat → Option (Addr × List Str)} (T : KTab K w cl d tab) (z : Str) : ∃ r : Option Value, PySem.W.nsIn K d z = some r ∧ r.isSome = (tab z).isSome := by
  cases q : tab z with
  | none => exact ⟨none, T.no z q, rfl⟩
  | some c =>
    obtain ⟨u, v, a1, _⟩ := T.yes z c q
    exact ⟨some u, a1, rfl⟩
theorem op_kin (T : KTab X.K X.w B.W.cl d tab) : OpR X (compareOp .In) (rKIn X.K d) := by
  obtain ⟨es, n, D⟩ := T.dict
  exact op_in_kd D
theorem op_kni (T : KTab X.K X.w B.W.cl d tab) : OpR X (compareOp .NotIn) (rKNi X.K d) := by
  obtain ⟨es, n, D⟩ := T.dict
  exact op_notIn_kd D
theorem ok_kin (T : KTab B.K X.w B.W.cl d tab) (hK : X.K = B.K) : OkRP B (rKIn X.K d) (kInP d tab false) := by
  intro G γ σ H x y dx dy R Q S rx ry h k
  unfold kInP at h
  split at h
  · obtain ⟨rfl, h⟩ := h
    cases ry
    cases rpStr rx
    obtain ⟨r, a1, a2⟩ := kt_ns T _
    rw [hK]
    exact ⟨_, r, rfl, rfl, a1, k _ _ _ _ h (by rw [a2]; simp) (Same.refl _) S⟩
  · exact h.elim
theorem ok_kni (T : KTab B.K X.w B.W.cl d tab) (hK : X.K = B.K) : OkRP B (rKNi X.K d) (kInP d tab true) := by
  intro G γ σ H x y dx dy R Q S rx ry h k
  unfold kInP at h
  split at h
  · obtain ⟨rfl, h⟩ := h
    cases ry
    cases rpStr rx
    obtain ⟨r, a1, a2⟩ := kt_ns T _
    rw [hK]
    exact ⟨_, r, rfl, rfl, a1, k _ _ _ _ h (by rw [a2]; simp) (Same.refl _) S⟩
  · exact h.elim
/-- TABLE.get(key, else) -/
def tGetK (K : PySem.W.Frag) (w : World) (td ty tx : TE) : TE := fun σ H Q => td σ H fun x H1 => ∃ d, x = .ref d ∧ (∃ es n, KDict K w d es n) ∧ ty σ H1 fun y H2 => tx σ H2 fun z H3 =>
  ∃ (k : Str) (ov : Option Value), y = .str k ∧ PySem.W.nsIn K d k = some ov ∧ (∀ u, ov = some u → ∃ v, RelV v u ∧ Q v H3) ∧ (ov = none → Q z H3)
theorem pe_getK {apos cpos : Pos} {td ty tx : TE} (ho : PE X o td) (he : PE X e ty) (hf : PE X f tx) (m : M2 X o "get" apos e f cpos) : PE X (.Call (.Attribute o "get" apos) [e, f] [] cpos) (tGetK X.K X.w td ty tx) := by
  refine ⟨fun pins s σ H Q I h => ?_⟩
  refine wpAny_Call_method m.base m.few m.line PySem.F.plainAttrs_dict PySem.F.slot_dict_get PySem.F.type_dict_get (thn (ho.run pins s σ H _ I h) fun u s1 ⟨x, H1, I1, rx, d, ex, ⟨es, n, D⟩, q1⟩ => ?_)
  subst ex
  obtain rfl : u = Value.ref d := rx
  refine ⟨kd_type D I1, fun b hb => ?_, ?_⟩
  · cases hb
    exact ⟨_, I1.kIn _ _ D.at_, rfl⟩
  rw [m.trees]
  refine Calls.callWith_builtin rfl (Calls.evalArgs_plain (Calls.spliced_cons (thn (he.run pins s1 σ H1 _ I1 q1) fun iv s2 ⟨y, H2, I2, ry, q2⟩ =>
    Calls.spliced_cons (thn (hf.run pins s2 σ H2 _ I2 q2) fun fv s3 ⟨z, H3, I3, rz, k, ov, ey, en, q4, q5⟩ => Calls.spliced_nil ?_))))
  subst ey
  obtain ⟨tk, rfl⟩ := ry
  have hm := PySem.W.mapOf_K (prog := X.prog) (w := X.w) I3.kIn D.at_ D.lit
  refine call_meetsIn PySem.F.slot_dict_get hm.typeIs PySem.F.entry_dict_get (PySem.F.args_dict_get_3 _ _ _) (meets_dict_get_default (strKind X.prog X.w) d (strKind_is X.prog X.w k tk) D.low fv) ⟨_, hm, ?_⟩
  rw [PySem.W.find_K D.at_ en]
  cases ov with
  | none => exact ⟨z, H3, I3.tok _, rz, q5 rfl⟩
  | some u =>
    obtain ⟨v, rv, q⟩ := q4 u rfl
    exact ⟨v, H3, I3.tok _, rv, q⟩
def dGetK (d : Addr) (tab : Str → Option D) (td ty tx : DT) : DT := fun γ R => td γ fun x γ1 => x = .opq (.ref d) ∧ ty γ1 fun y γ2 => tx γ2 fun z γ3 => match y with
  | .str k => R ((tab k).getD z) γ3
  | _ => False
theorem d_getK {td ty tx : DT} (T : KTab B.K X.w B.W.cl d tab) (h : PE X e (tGetK B.K X.w (tD B td) (tD B ty) (tD B tx))) : PE X e (tD B (dGetK d tab td ty tx)) := pe_imp h fun σ H Q ⟨G, γ, R, S, h, k⟩ =>
  ⟨G, γ, _, S, h, fun x γ1 G1 v H1 ⟨ex, q1⟩ s1 S1 r1 => by
    subst ex
    cases r1
    refine ⟨d, rfl, T.dict, G1, γ1, _, S1, q1, fun y γ2 G2 u H2 q2 s2 S2 r2 => ⟨G2, γ2, _, S2, q2, fun z γ3 G3 v3 H3 q3 s3 S3 r3 => ?_⟩⟩
    split at q3
    · cases rpStr r2
      rename_i kk
      cases q : tab kk with
      | none =>
        rw [q] at q3
        exact ⟨_, none, rfl, T.no _ q, fun u h => (by cases h), fun _ => k _ _ _ _ _ q3 (s1.trans (s2.trans s3)) S3 r3⟩
      | some c =>
        rw [q] at q3
        obtain ⟨u, v, a1, a2, a3⟩ := T.yes _ _ q
        exact ⟨_, some u, rfl, a1, fun u' h => (by cases h; exact ⟨v, a2, k _ _ _ _ _ q3 (s1.trans (s2.trans s3)) S3 (a3 B.W.dk G3)⟩), fun h => (by cases h)⟩
    · exact q3.elim⟩
end
/-! ### such a table, made of the facts of what is written down -/
theorem ba2 {x y : Bool} (h : (x && y) = true) : x = true ∧ y = true := by rw [Bool.and_eq_true] at h; exact h
theorem keys_no {P : Params} {z : Str} : ∀ {l : List DictEntry} {ks : List Str}, l.map He.keyOf = He.keysIn P ks → z ∉ ks → l.find? (·.key.isStr z) = none ∧ l.any (·.refKey) = false
  | [], _, _, _ => ⟨rfl, rfl⟩
  | e :: r, [], h, _ => by cases h
  | e :: r, k :: ks, h, hz => by
    have h1 : He.keyOf e :: r.map He.keyOf = some (k, PyData.keyHash P k) :: He.keysIn P ks := h
    injection h1 with h2 h3
    obtain ⟨i1, i2⟩ := keys_no h3 fun q => hz (List.mem_cons_of_mem _ q)
    unfold He.keyOf at h2
    split at h2
    · rename_i x t q
      have hx : x = k := (Prod.mk.inj (Option.some.inj h2)).1
      have hn : e.key.isStr z = false := by
        rw [q]
        show (x == z) = false
        rw [beq_eq_false_iff_ne]
        exact fun e => hz (by rw [← e, hx]; exact List.mem_cons_self)
      have hr : e.refKey = false := by unfold DictEntry.refKey; rw [q]
      exact ⟨by rw [List.find?_cons, hn]; exact i1, by rw [List.any_cons, hr, i2]; rfl⟩
    · cases h2
theorem dic_no {K : PySem.W.Frag} {w : World} {d : Addr} {ks : List Str} {z : Str} (h : He.dicW K d = some (He.keysIn w.params ks)) (hz : z ∉ ks) : PySem.W.nsIn K d z = some none := by
  unfold He.dicW at h
  cases q : K.lookup d with
  | none => rw [q] at h; cases h
  | some o =>
    obtain ⟨oc, od, dt, osl⟩ := o
    rw [q] at h
    cases oc with
    | type c =>
      cases od with
      | none =>
        cases dt with
        | dict es n =>
          have h1 : (match decide (c = "dict") && (osl.isEmpty && !(d == sysModules)) with
            | true => some (es.toList.map He.keyOf)
            | false => none) = some (He.keysIn w.params ks) := h
          cases z2 : decide (c = "dict") && (osl.isEmpty && !(d == sysModules)) with
          | false => rw [z2] at h1; cases h1
          | true =>
            rw [z2] at h1
            obtain ⟨i1, i2⟩ := keys_no (Option.some.inj h1) hz
            unfold PySem.W.nsIn
            rw [q]
            dsimp only
            rw [i1, i2]
            rfl
        | _ => cases h
      | some b => cases dt <;> cases h
    | _ => cases od <;> cases dt <;> cases h
theorem getK_none {k : Str} : ∀ {kvs : List (Key × D)} {ks : List Str}, kvs.map (·.1) = ks.map Sum.inr → getK (.inr k) kvs = none → k ∉ ks
  | [], [], _, _ => fun h => by cases h
  | [], _ :: _, h, _ => by cases h
  | _ :: _, [], h, _ => by cases h
  | kv :: r, a :: ks, h, hn => by
    have h1 : kv.1 :: r.map (·.1) = Sum.inr a :: ks.map Sum.inr := h
    injection h1 with h2 h3
    unfold getK at hn
    split at hn
    · cases hn
    · rename_i q
      intro hm
      rcases List.mem_cons.mp hm with e | e
      · subst e
        exact q (by rw [h2, keyEq_iff])
      · exact getK_none h3 hn e
theorem getK_some {k : Key} {c : D} : ∀ {kvs : List (Key × D)}, getK k kvs = some c → (k, c) ∈ kvs
  | [], h => by cases h
  | kv :: r, h => by
    unfold getK at h
    split at h
    · rename_i q
      cases h
      have := keyEq_iff.mp q
      subst this
      exact List.mem_cons_self
    · exact List.mem_cons_of_mem _ (getK_some h)
theorem ktab_mk {K : PySem.W.Frag} {w : World} {cl : Nat → Option (Addr × List Str)} {d : Addr} {ks : List Str} {kvs : List (Key × D)} (hk : He.dicW K d = some (He.keysIn w.params ks)) (he : kvs.map (·.1) = ks.map Sum.inr)
    (hv : ∀ z c, (Sum.inr z, c) ∈ kvs → ∃ u v, PySem.W.nsIn K d z = some (some u) ∧ RelV v u ∧ ∀ dk G, Rp ⟨dk, cl, K⟩ G v c) : KTab K w cl d (fun z => getK (.inr z) kvs) where
  dict := He.dicW_ok hk
  yes := fun z c h => hv z c (getK_some h)
  no := fun z h => dic_no hk (getK_none he h)
/-- the values of such a table -/
theorem kv_int {K : PySem.W.Frag} {cl : Nat → Option (Addr × List Str)} {d : Addr} {z : Str} {i : Int} {t : Tok} (h : PySem.W.nsIn K d z = some (some (.int i t))) : ∃ u v, PySem.W.nsIn K d z = some (some u) ∧ RelV v u ∧ ∀ dk G, Rp ⟨dk, cl, K⟩ G v (.int i) := ⟨_, .int i, h, ⟨t, rfl⟩, fun _ _ => .int i⟩
theorem kv_str {K : PySem.W.Frag} {cl : Nat → Option (Addr × List Str)} {d : Addr} {z i : Str} {t : Tok} (h : PySem.W.nsIn K d z = some (some (.str i t))) : ∃ u v, PySem.W.nsIn K d z = some (some u) ∧ RelV v u ∧ ∀ dk G, Rp ⟨dk, cl, K⟩ G v (.str i) := ⟨_, .str i, h, ⟨t, rfl⟩, fun _ _ => .str i⟩
theorem kv_tup {K : PySem.W.Frag} {cl : Nat → Option (Addr × List Str)} {d a : Addr} {z : Str} {od : Option Addr} {its : Array Value} {n : Nat} {sl : Array (Option Value)} {vs : List V} {ds : List D} (h : PySem.W.nsIn K d z = some (some (.ref a)))
    (l : K.lookup a = some ⟨.type "tuple", od, .seq its n, sl⟩) (hz : its.size ≤ sizeLine) (r : Vals vs its.toList) (q : ∀ dk G, RpAll ⟨dk, cl, K⟩ G vs ds) (h9 : cl 999 = none := by rfl) : ∃ u v, PySem.W.nsIn K d z = some (some u) ∧ RelV v u ∧ ∀ dk G, Rp ⟨dk, cl, K⟩ G v (.tup ds) :=
  ⟨_, .ref a, h, rfl, fun dk G => .tup (.inr ⟨h9, _, its, n, l, rfl, rfl, hz, r⟩) (q dk G)⟩
end EL
namespace EL
open PySem PySem.Spec PyProof.Rows L2
section
variable {X : Cx} {B : Bs} {G : Hp} {γ : Gm} {σ : L2.St} {H : Hp} {e a b : Expr} {ta tb : DT} {pos : Pos}
/-! ### in, not in, of a dict -/
def dictIn (neg : Bool) : FP := fun x y R => match y, keyD x with
  | .dct kvs, some key => R ((getK key kvs).isSome = true ↔ neg = false)
  | _, _ => False
theorem val_some {W : Cw} {key : Key} {vs : List (Key × V)} {ds : List (Key × D)} (r : RpKv W G vs ds) : (valV vs key).isSome = (getK key ds).isSome := by
  obtain ⟨h1, h2⟩ := valV_get (key := key) r
  cases q : getK key ds with
  | none =>
    rw [h2 q]
    rfl
  | some c =>
    obtain ⟨v, e, _⟩ := h1 c q
    rw [e]
    rfl
theorem din_core {neg : Bool} {f : Option V → V} (hf : ∀ o : Option V, f o = .bl (if neg then !o.isSome else o.isSome)) {σ : L2.St} {H : Hp} {Q : VK} {R : Prop → Gm → Prop} {G : Hp} {γ : Gm} (S : DstG B G γ σ H) (h : bCmp (dictIn neg) ta tb γ R)
    (k : ∀ p (b : Bool) γ' G' H', R p γ' → (b = true ↔ p) → Same G G' → DstG B G' γ' σ H' → Q (.bl b) H') :
    tD B ta σ H fun y H1 => tD B tb σ H1 fun x H2 => ∃ a o, x = .ref a ∧ DGet H2 a y o ∧ Q (f o) H2 :=
  ⟨G, γ, _, S, h, fun d γ1 G1 v H1 h1 s1 S1 r1 => ⟨G1, γ1, _, S1, h1, fun e γ2 G2 u H2 h2 s2 S2 r2 => by
    unfold dictIn at h2
    split at h2
    · rename_i kvs key hk
      have hv := rp_key (r1.mono s2) hk
      subst hv
      cases r2 with
      | @dct a vs _ hs ra =>
        refine ⟨a, valV vs key, rfl, DGet.k (S2.sub _ _ hs), ?_⟩
        rw [hf, val_some ra]
        exact k _ _ _ _ _ h2 (by cases neg <;> simp) (s1.trans s2) S2
    · exact h2.elim⟩⟩
theorem b_din (hu : X.A.units + 1 < cLine) (ha : PE X a (tD B ta)) (hb : PE X b (tD B tb)) (hm : behindInMarks .In b = false := by rfl) : PT X (.Compare a [.In] [b] pos) (tDB B (bCmp (dictIn false) ta tb)) :=
  pt_imp (pt_cmp (pc_din hu ha hb) hm) fun σ H Q ⟨G, γ, R, S, h, k⟩ => din_core (neg := false) (f := fun o => .bl o.isSome) (fun o => rfl) (Q := fun x H1 => ∃ d, x = .bl d ∧ Q d H1) S h fun p b γ' G' H' hR hp s S => ⟨b, rfl, k _ _ _ _ _ hR hp s S⟩
theorem b_dni (hu : X.A.units + 1 < cLine) (ha : PE X a (tD B ta)) (hb : PE X b (tD B tb)) (hm : behindInMarks .NotIn b = false := by rfl) : PT X (.Compare a [.NotIn] [b] pos) (tDB B (bCmp (dictIn true) ta tb)) :=
  pt_imp (pt_cmp (pc_dnotin hu ha hb) hm) fun σ H Q ⟨G, γ, R, S, h, k⟩ => din_core (neg := true) (f := fun o => .bl (!o.isSome)) (fun o => rfl) (Q := fun x H1 => ∃ d, x = .bl d ∧ Q d H1) S h fun p b γ' G' H' hR hp s S => ⟨b, rfl, k _ _ _ _ _ hR hp s S⟩
theorem d_din (hu : X.A.units + 1 < cLine) (ha : PE X a (tD B ta)) (hb : PE X b (tD B tb)) (hm : behindInMarks .In b = false := by rfl) : PE X (.Compare a [.In] [b] pos) (tD B (dPr (bCmp (dictIn false) ta tb))) :=
  pe_imp (pe_cmp (pc_din hu ha hb) hm) fun σ H Q ⟨G, γ, R, S, h, k⟩ => din_core (neg := false) (f := fun o => .bl o.isSome) (fun o => rfl) (R := fun p γ' => ∀ b : Bool, (b = true ↔ p) → R (.bl b) γ') S h fun p b γ' G' H' hR hp s S => k _ _ _ _ _ (hR b hp) s S (.bl _)
theorem d_dni (hu : X.A.units + 1 < cLine) (ha : PE X a (tD B ta)) (hb : PE X b (tD B tb)) (hm : behindInMarks .NotIn b = false := by rfl) : PE X (.Compare a [.NotIn] [b] pos) (tD B (dPr (bCmp (dictIn true) ta tb))) :=
  pe_imp (pe_cmp (pc_dnotin hu ha hb) hm) fun σ H Q ⟨G, γ, R, S, h, k⟩ => din_core (neg := true) (f := fun o => .bl (!o.isSome)) (fun o => rfl) (R := fun p γ' => ∀ b : Bool, (b = true ↔ p) → R (.bl b) γ') S h fun p b γ' G' H' hR hp s S => k _ _ _ _ _ (hR b hp) s S (.bl _)
/-! ### xs.insert(i, x) -/
def insM : FM := fun ds es R => match es with
  | [.int i, d] => (0 ≤ i ∧ i < 2 ^ 63 ∧ ds.length < 1000000) ∧ R .non (ds.take i.toNat ++ [d] ++ ds.drop i.toNat)
  | _ => False
def rIns : V → List V → Hp → VK → Prop := fun x vs H Q => ∃ (l : Addr) (xs : List V) (i : Int) (y : V), x = .ref l ∧ vs = [.int i, y] ∧ H l = some (.lst xs) ∧ xs.length < sizeLine ∧ 0 ≤ i ∧ i < 2 ^ 63 ∧ Q .non (upd H l (.lst (xs.take i.toNat ++ [y] ++ xs.drop i.toNat)))
theorem mt_ins : MtR X "list.insert" rIns := mt_insert
theorem ok_insM : OkM rIns insM := by
  intro W G H p us xs ds es R Q sm hp hg ru rx h k
  unfold insM at h
  split at h
  · obtain ⟨⟨h0, h1, h2⟩, h⟩ := h
    cases rx with
    | cons r1 r2 =>
      cases rpInt r1
      cases r2 with
      | cons r2 r3 =>
        cases r3
        exact ⟨p, us, _, _, rfl, rfl, hp, by rw [ru.len]; exact Nat.lt_of_lt_of_le h2 (by decide), h0, h1, k _ _ _ _ h .non (((ru.take _).app (.cons r2 .nil)).app (ru.drop _))⟩
  · exact h.elim
end
end EL
namespace EL
open PySem PySem.Spec PyProof.Rows L2
/-! ### zip of a tuple and a list -/
abbrev mzA (h : Heap) (p : Addr) : Heap := h.push { cls := .type "tuple_iterator", data := .fields #[.ref p, .int 0 0] }
abbrev mzB (h : Heap) (p q : Addr) : Heap := (mzA h p).push { cls := .type "list_iterator", data := .fields #[.ref q, .int 0 0] }
abbrev mzC (h : Heap) (p q : Addr) : Heap := (mzB h p q).push { cls := .type "tuple", data := .seq #[.ref h.objs.size, .ref (mzA h p).objs.size] }
abbrev mzD (h : Heap) (p q : Addr) : Heap := (mzC h p q).push { cls := .type "tuple", data := .seq #[.none, .none] }
abbrev mzE (h : Heap) (p q : Addr) : Heap := (mzD h p q).push { cls := .type "zip", data := .fields #[.none, .bool false, .bool false, .ref (mzB h p q).objs.size, .ref (mzC h p q).objs.size] }
theorem meets_mz (p q : Addr) (xs ys : Array Value) :
    Meets (Builtin.«zip.__new__» ⟨[.type "zip", .ref p, .ref q], []⟩) (fun _ R s => s.heap.IsTuple p xs ∧ s.heap.IsList q ys ∧
      R (.ok (.ret (.ref (mzD s.heap p q).objs.size))) { s with heap := mzE s.heap p q }) :=
  .of_wp fun prog w A R s h => by
    obtain ⟨hp, gn, dr, tk, os⟩ := s
    obtain ⟨k1, k2, h⟩ := h
    have hsub := sub_zip
    have m1 : Heap.IsTuple (Shared.heap ⟨hp, gn, dr, tk, os⟩) p xs := k1
    have m2 : Heap.IsList (Shared.heap ⟨hp.push { cls := .type "tuple_iterator", data := .fields #[.ref p, .int 0 0] }, gn, dr, tk, os⟩) q ys := Heap.IsList.push k2 _
    wp_walk using wpAny_pyIter_tuple m1, wpAny_pyIter_list m2
    exact ⟨_, rfl, h⟩
section
variable {prog : Program} {w : World} {A : Around} {E : Value → Shared → Prop} {s : Shared}
theorem call_mz {p q : Addr} {xs ys : Array Value} {Q : Value → Shared → Prop} (k1 : s.heap.IsTuple p xs) (k2 : s.heap.IsList q ys)
    (h : ∀ h', IsZip h' (s.heap.objs.size + 4) (s.heap.objs.size + 2) (s.heap.objs.size + 3) .none → PySem.IsTupOf2 h' (s.heap.objs.size + 2) (.ref s.heap.objs.size) (.ref (s.heap.objs.size + 1)) →
      PySem.IsTupOf2 h' (s.heap.objs.size + 3) .none .none → h'.IsTupleIter s.heap.objs.size p 0 → h'.IsListIter (s.heap.objs.size + 1) q 0 →
      (∀ c o, s.heap.get? c = some o → h'.get? c = some o) → Q (.ref (s.heap.objs.size + 4)) { s with heap := h' }) :
    wpAny (model prog w) A (call (.type "zip") [.ref p, .ref q]) Q E s := by
  refine callType_new F.called_zip (by decide) (F.typeCall_zip_2 _ _) (F.newCall_zip_2 _ _) (fun obj => F.args_object_init_3 obj _ _) F.entry_zip_new (meets_mz p q xs ys) ⟨k1, k2, ?_⟩
  have n1 : (mzA s.heap p).objs.size = s.heap.objs.size + 1 := Heap.size_push ..
  have n2 : (mzB s.heap p q).objs.size = s.heap.objs.size + 2 := by rw [Heap.size_push, n1]
  have n3 : (mzC s.heap p q).objs.size = s.heap.objs.size + 3 := by rw [Heap.size_push, n2]
  have n4 : (mzD s.heap p q).objs.size = s.heap.objs.size + 4 := by rw [Heap.size_push, n3]
  have e5 : (mzE s.heap p q).get? (mzD s.heap p q).objs.size = some _ := Heap.get?_push_size _ rfl
  have e4 : (mzE s.heap p q).get? (mzC s.heap p q).objs.size = some _ := Heap.get?_push_of_some _ (Heap.get?_push_size _ rfl)
  have e3 : (mzE s.heap p q).get? (mzB s.heap p q).objs.size = some _ := Heap.get?_push_of_some _ (Heap.get?_push_of_some _ (Heap.get?_push_size _ rfl))
  have e2 : (mzE s.heap p q).get? (mzA s.heap p).objs.size = some _ := Heap.get?_push_of_some _ (Heap.get?_push_of_some _ (Heap.get?_push_of_some _ (Heap.get?_push_size _ rfl)))
  have e1 : (mzE s.heap p q).get? s.heap.objs.size = some _ := Heap.get?_push_of_some _ (Heap.get?_push_of_some _ (Heap.get?_push_of_some _ (Heap.get?_push_of_some _ (Heap.get?_push_size _ rfl))))
  show _ ∧ _
  rw [n2, n3, n4] at e5
  rw [n1, n2] at e3
  rw [n3] at e4
  rw [n1] at e2
  rw [n4]
  exact ⟨⟨_, e5, rfl⟩, h _ e5 e3 e4 ⟨_, e1, rfl, rfl⟩ ⟨_, e2, rfl, rfl⟩ fun c o x => Heap.get?_push_of_some _ (Heap.get?_push_of_some _ (Heap.get?_push_of_some _ (Heap.get?_push_of_some _ (Heap.get?_push_of_some _ x))))⟩
end
/-- the tuple at a and the list at b as they stand at each turn -/
def ItzM (K : PySem.W.Frag) (a b : Addr) : It :=
  ⟨fun i H => ∃ (xs ys : List V) (x y : V), SqT K H a xs ∧ SqL K H b ys ∧ xs[i]? = some x ∧ ys[i]? = some y,
    fun i H v H' => ∃ T x y, v = .ref T ∧ H T = none ∧ H' = upd H T (.tup [x, y]) ∧ (∀ xs, SqT K H a xs → xs[i]? = some x) ∧ ∀ ys, SqL K H b ys → ys[i]? = some y,
    fun i H => ∃ xs ys : List V, SqT K H a xs ∧ SqL K H b ys ∧ i ≤ xs.length ∧ i ≤ ys.length ∧ (i = xs.length ∨ i = ys.length)⟩
theorem mz_nin (x p q : Nat) (h1 : x ≠ p) (h2 : x ≠ q) : (x : Addr) ∉ ([p, q] : List Addr) := fun e => by
  rcases List.mem_cons.mp e with e | e
  · exact h1 e
  · exact h2 (List.mem_singleton.mp e)
theorem mz_sep (I a b : Nat) (h1 : a < I) (h2 : b < I) : ZipSep2 (I + 4) (I + 2) (I + 3) I (I + 1) [I, a] [I + 1, b] where
  TIz := (by omega : ¬ (I + 2 = I + 4))
  TOz := (by omega : ¬ (I + 3 = I + 4))
  TITO := (by omega : ¬ (I + 2 = I + 3))
  TIi1 := (by omega : ¬ (I + 2 = I))
  mem1 := List.mem_cons_self
  zf1 := mz_nin _ _ _ (by omega) (by omega)
  Tf1 := mz_nin _ _ _ (by omega) (by omega)
  TIi2 := (by omega : ¬ (I + 2 = I + 1))
  mem2 := List.mem_cons_self
  zf2 := mz_nin _ _ _ (by omega) (by omega)
  Tf2 := mz_nin _ _ _ (by omega) (by omega)
  sep1_2 := mz_nin _ _ _ (by omega) (by omega)
  sep2_1 := mz_nin _ _ _ (by omega) (by omega)
theorem turn_mz {P : Program} {w : World} {K : PySem.W.Frag} {elts : List Expr} {kk : Nat} {tpos : Pos} {a b z TI TO i1 i2 : Addr} (D : ZipSep2 z TI TO i1 i2 [i1, a] [i2, b]) (na : a ≠ i1) (nb : b ≠ i2) (n12 : i1 ≠ i2) :
    Turn P w K (.Tuple elts kk tpos) (ItzM K a b) [z, TI, TO, i1, i2] z (fun i h => IsZip h z TI TO .none ∧ IsTupOf2 h TI (.ref i1) (.ref i2) ∧ (∃ x y, IsTupOf2 h TO x y) ∧ h.IsTupleIter i1 a i ∧ h.IsListIter i2 b i) where
  mem := by simp
  obj := fun i h st c hc => by
    obtain ⟨s1, s2, ⟨x, y, s3⟩, ⟨o1, e1, _, d1⟩, ⟨o2, e2, _, d2⟩⟩ := st
    have e' : c = z ∨ c = TI ∨ c = TO ∨ c = i1 ∨ c = i2 := by simpa using hc
    rcases e' with q | q | q | q | q <;> rw [q]
    · exact ⟨_, s1, fun v q => nomatch q⟩
    · exact ⟨_, s2, fun v q => nomatch q⟩
    · exact ⟨_, s3, fun v q => nomatch q⟩
    · exact ⟨o1, e1, fun v q => by rw [d1] at q; cases q⟩
    · exact ⟨o2, e2, fun v q => by rw [d2] at q; cases q⟩
  keep := fun i h h' st k => by
    obtain ⟨s1, s2, ⟨x, y, s3⟩, s4, s5⟩ := st
    exact ⟨k z (by simp) _ s1, k TI (by simp) _ s2, ⟨x, y, k TO (by simp) _ s3⟩, s4.at fun o q => k i1 (by simp) o q, s5.at fun o q => k i2 (by simp) o q⟩
  item := by
    intro X hP hw hK hc i pins s σ H E I hf st hg
    subst hP hw hK
    obtain ⟨t1, t2, ⟨x0, y0, t3⟩, t4, t5⟩ := st
    obtain ⟨xs, ys, x, y, qx, qy, gx, gy⟩ := hg
    obtain ⟨us, ru, pu, _⟩ := I.tuple qx
    obtain ⟨vs, rv, pv, _⟩ := I.list qy
    obtain ⟨u, hu, r1⟩ := ru.get gx
    obtain ⟨v, hv, r2⟩ := rv.get gy
    have hh : X.A.in1.handled = none := I.ok.hd hc
    have b1 : i < us.toArray.size := by have := (List.getElem?_eq_some_iff.mp hu).1; simpa using this
    have b2 : i < vs.toArray.size := by have := (List.getElem?_eq_some_iff.mp hv).1; simpa using this
    have zl : z < s.heap.objs.size := Heap.lt_size t1
    refine wpAny_pyNext_zipD2_item D (Draws.tuple hh i1 a na us.toArray) (Draws.list hh i2 b nb vs.toArray) t1 t2 t3 ⟨t4, pu⟩ ⟨t5, pv.isList⟩ b1 b2 fun x1 x2 h' tk p1 p2 z' o' s4 s5 nw sz hk => ?_
    have e1 : u = x1 := by have : us.toArray[i]? = some x1 := p1; rw [List.getElem?_toArray, hu] at this; exact Option.some.inj this
    have e2 : v = x2 := by have : vs.toArray[i]? = some x2 := p2; rw [List.getElem?_toArray, hv] at this; exact Option.some.inj this
    subst e1 e2
    refine ⟨_, rfl, wpAny_letOwnedTupleGo_zip (s := { s with heap := h', toks := tk }) z' fun h'' z'' sb => ?_⟩
    have nw2 : h''.get? s.heap.objs.size = some { cls := .type "tuple", data := .seq #[u, v] } := (sb.2 _ (Nat.ne_of_gt zl)).trans nw
    have new : ObjOk X.prog X.w (upd H s.heap.objs.size (.tup [x, y])) h'' s.heap.objs.size (.tup [x, y]) :=
      ⟨by show 2 ≤ sizeLine; decide, [u, v], .cons r1 (.cons r2 .nil), ⟨_, nw2, rfl, _, rfl⟩⟩
    have I1 : Inv X pins σ (upd H s.heap.objs.size (.tup [x, y])) { s with heap := h'', toks := tk } :=
      I.turnedNew (t' := tk) (ch := [z, TI, TO, i1, i2]) (fun c o hb q => (sb.2 c (fun q' => hb (by simp [q']))).trans (hk c o (fun q' => hb (by simp [q'])) (fun q' => hb (by simp [q'])) (fun q' => hb (by simp [q'])) (fun q' => hb (by simp [q'])) q)) hf (Nat.le_refl _) new
    refine ⟨.ref s.heap.objs.size, _, I1, rfl, ⟨_, x, y, rfl, I.hok.fresh (Nat.le_refl _), rfl, fun l hl => by rw [I.tuple_inj hl qx]; exact gx, fun l hl => by rw [I.list_inj hl qy]; exact gy⟩, ⟨z'', ?_, ⟨u, v, ?_⟩, ?_, ?_⟩, fun c hcm => ?_⟩
    · exact (sb.2 _ D.TIz).trans (hk _ _ D.TIz D.TITO D.TIi1 D.TIi2 t2)
    · exact (sb.2 _ D.TOz).trans o'
    · exact s4.1.at fun o q => (sb.2 _ D.zi1.symm).trans q
    · exact s5.1.at fun o q => (sb.2 _ D.zi2.symm).trans q
    · obtain ⟨_, e4, _⟩ := t4
      obtain ⟨_, e5, _⟩ := t5
      have hlt : c < s.heap.objs.size := by
        have e' : c = z ∨ c = TI ∨ c = TO ∨ c = i1 ∨ c = i2 := by simpa using hcm
        rcases e' with q | q | q | q | q <;> rw [q]
        · exact zl
        · exact Heap.lt_size t2
        · exact Heap.lt_size t3
        · exact Heap.lt_size e4
        · exact Heap.lt_size e5
      rw [upd_ne (Nat.ne_of_lt hlt)]
      exact (hf c hcm).1
  done := by
    intro X hP hw hK hc i pins s σ H E I hf st hg
    subst hP hw hK
    obtain ⟨t1, t2, ⟨x0, y0, t3⟩, t4, t5⟩ := st
    obtain ⟨xs, ys, qx, qy, l1, l2, hend⟩ := hg
    obtain ⟨us, ru, pu, _⟩ := I.tuple qx
    obtain ⟨vs, rv, pv, _⟩ := I.list qy
    have k1 := ru.length
    have k2 := rv.length
    have hh : X.A.in1.handled = none := I.ok.hd hc
    have z1 : us.toArray.size = xs.length := by rw [List.size_toArray]; exact k1.symm
    have z2 : vs.toArray.size = ys.length := by rw [List.size_toArray]; exact k2.symm
    exact wpAny_pyNext_zipD2_end D (Draws.tuple hh i1 a na us.toArray) (Draws.list hh i2 b nb vs.toArray) t1 t2 t3 ⟨t4, pu⟩ ⟨t5, pv.isList⟩ (by rw [z1]; exact l1) (by rw [z2]; exact l2) (by rw [z1, z2]; exact hend) fun h' tk hk =>
      ⟨rfl, I.turnedL (t' := tk) (ch := [z, TI, TO, i1, i2]) (fun c o hb q => hk c o (fun q' => hb (by simp [q'])) (fun q' => hb (by simp [q'])) (fun q' => hb (by simp [q'])) (fun q' => hb (by simp [q'])) q) hf⟩
  self := fun A i s Q E st h => wpAny_pyIter_zip st.1 h
/-- zip of two lists, of two tuples, of a tuple and a list -/
def iZip3 (K : PySem.W.Frag) (ta : TA) : TI := fun σ H R => ta σ H fun vs H1 => ∃ a b xs ys, vs = [.ref a, .ref b] ∧ ((SqL K H1 a xs ∧ SqL K H1 b ys ∧ R (Itz K a b) H1) ∨ (SqT K H1 a xs ∧ SqT K H1 b ys ∧ R (RZ.ItzT K a b) H1) ∨ (SqT K H1 a xs ∧ SqL K H1 b ys ∧ R (ItzM K a b) H1))
theorem pi_zip3 {X : Cx} {e e2 : Expr} {ta : TA} {p pos tpos : Pos} {elts : List Expr} {kk : Nat} (hg : Gl X "zip") (hm : X.mg "zip" = none) (ha : PA X [e, e2] ta)
    (hs : starEach [e, e2] X.env = (false, eval e X.env) :: starEach [e2] X.env := by rfl) (hpl : (backTo pos (starEach [e2] X.env)).any (·.1) = false := by rfl) : PI X (.Tuple elts kk tpos) (.Call (.Name "zip" p) [e, e2] [] pos) (iZip3 X.K ta) := by
  refine ⟨fun pins s σ H R I h => Call_ (ld_blt I hg hm PyProof.Rows.boot_zip (PyProof.Rows.callWith_type1 (thn (ha.run pos pins s σ H _ I h) fun us s1 ⟨vs, H1, I1, r1, a, b, xs, ys, ex, q1⟩ => ?_) hs hpl))⟩
  subst ex
  cases r1 with
  | cons ra rr =>
  cases rr with
  | cons rb rr =>
  cases rr
  cases ra
  cases rb
  let n := s1.heap.objs.size
  have fp : ∀ c, c ∈ [n + 4, n + 2, n + 3, n, n + 1] → FpOk X pins H1 c := fun c hc => by
    have hle : n ≤ c := by
      have e' : c = n + 4 ∨ c = n + 2 ∨ c = n + 3 ∨ c = n ∨ c = n + 1 := by simpa using hc
      rcases e' with z | z | z | z | z <;> rw [z]
      · exact Nat.le_add_right _ _
      · exact Nat.le_add_right _ _
      · exact Nat.le_add_right _ _
      · exact Nat.le_refl _
      · exact Nat.le_add_right _ _
    exact I1.fpOk hle (I1.hok.fresh hle)
  rcases q1 with ⟨qx, qy, q⟩ | ⟨qx, qy, q⟩ | ⟨qx, qy, q⟩
  · obtain ⟨l1, v1, p1, _⟩ := I1.list qx
    obtain ⟨l2, v2, p2, _⟩ := I1.list qy
    exact call_zip_2 p1.isList p2.isList fun h' hz hTI hTO h1 h2 hsz hk => wpAny_pyIter_zip hz
      ⟨n + 4, [n + 4, n + 2, n + 3, n, n + 1], _, _, H1, rfl, I1.kept (t' := s1.toks) hk, turn_zip (PySem.W.ktu_apart n a b p1.lt p2.lt), ⟨hz, hTI, ⟨_, _, hTO⟩, h1, h2⟩, fp, q⟩
  · obtain ⟨l1, v1, p1, _⟩ := I1.tuple qx
    obtain ⟨l2, v2, p2, _⟩ := I1.tuple qy
    obtain ⟨o1, w1, _⟩ := id p1
    obtain ⟨o2, w2, _⟩ := id p2
    exact RZ.call_zipT (show s1.heap.IsTuple a l1.toArray from p1) (show s1.heap.IsTuple b l2.toArray from p2) fun h' hz hTI hTO h1 h2 hsz hk => wpAny_pyIter_zip hz
      ⟨n + 4, [n + 4, n + 2, n + 3, n, n + 1], _, _, H1, rfl, I1.kept (t' := s1.toks) hk, RZ.turn_zipT (PySem.W.ktu_apart n a b (Heap.lt_size w1) (Heap.lt_size w2)), ⟨hz, hTI, ⟨_, _, hTO⟩, h1, h2⟩, fp, q⟩
  · obtain ⟨l1, v1, p1, _⟩ := I1.tuple qx
    obtain ⟨l2, v2, p2, _⟩ := I1.list qy
    obtain ⟨o1, w1, _⟩ := id p1
    have la : a < n := Heap.lt_size w1
    have lb : b < n := p2.lt
    exact call_mz (show s1.heap.IsTuple a l1.toArray from p1) p2.isList fun h' hz hTI hTO h1 h2 hk => wpAny_pyIter_zip hz
      ⟨n + 4, [n + 4, n + 2, n + 3, n, n + 1], _, _, H1, rfl, I1.kept (t' := s1.toks) hk, turn_mz (mz_sep n a b la lb) (Nat.ne_of_lt la) (Nat.ne_of_lt (Nat.lt_succ_of_lt lb)) (Nat.ne_of_lt (Nat.lt_succ_self n)), ⟨hz, hTI, ⟨_, _, hTO⟩, h1, h2⟩, fp, q⟩
section
variable {B : Bs} {G1 : Hp}
theorem walkD_mz {a b : Addr} {vs us : List V} {ds es : List D} (h : SqT B.K G1 a vs) (r : RpAll B.W G1 vs ds) (h' : SqL B.K G1 b us) (r' : RpAll B.W G1 us es) : WalkD B (ItzM B.K a b) G1 (zipD ds es) := fun H0 G γ σ H sm S => by
  have hs : SqT B.K H a vs := sqT_mono S.sub (sqT_mono sm h)
  have hs' : SqL B.K H b us := S.sub.seq (sm.seq h')
  refine ⟨⟨vs, us, hs, hs', ?_⟩, fun i c hc => ?_⟩
  · rw [zipD_len, r.len, r'.len]
    omega
  obtain ⟨d, e, hd, he, rfl⟩ := zipD_get hc
  obtain ⟨v, hv, rv⟩ := r.get hd
  obtain ⟨u, hu, ru⟩ := r'.get he
  refine ⟨⟨vs, us, v, u, hs, hs', hv, hu⟩, fun x H' ⟨T, x', y', g1, g2, g3, g4, g5⟩ => ?_⟩
  have e1 := g4 vs hs
  have e2 := g5 us hs'
  rw [hv] at e1
  rw [hu] at e2
  cases e1
  cases e2
  subst g1 g3
  exact pair_step (B := withH B H0) S (rv.mono sm) (ru.mono sm) g2
def iZipE (t : DA) : DA := fun γ R => t γ fun ds γ1 => match ds with
  | [.lst xs, .lst ys] => R (zipD xs ys) γ1
  | [.tup xs, .tup ys] => R (zipD xs ys) γ1
  | [.tup xs, .lst ys] => R (zipD xs ys) γ1
  | _ => False
theorem i_zip3 {tg it : Expr} {X : Cx} {t : DA} (h : PI X tg it (iZip3 B.K (tDA B t))) : PI X tg it (tDI B (iZipE t)) := pi_imp h fun σ H R' ⟨G, γ, R, S, h, k⟩ => ⟨G, γ, _, S, h, fun ds γ1 G1 vs H1 q sm S1 r => by
  split at q
  · cases r with
    | cons r1 r2 =>
    cases r2 with
    | cons r2 r3 =>
    cases r3
    cases r1 with
    | lst hs ra =>
    cases r2 with
    | lst hs' ra' => exact ⟨_, _, _, _, rfl, .inl ⟨SqL.of (S1.sub _ _ hs), SqL.of (S1.sub _ _ hs'), k _ _ _ _ _ q sm S1 (walkD_zip (SqL.of hs) ra (SqL.of hs') ra')⟩⟩
  · cases r with
    | cons r1 r2 =>
    cases r2 with
    | cons r2 r3 =>
    cases r3
    cases r1 with
    | tup hs ra =>
    cases r2 with
    | tup hs' ra' => exact ⟨_, _, _, _, rfl, .inr (.inl ⟨hs.sq S1.sub, hs'.sq S1.sub, k _ _ _ _ _ q sm S1 (walkD_zipT hs.sq0 ra hs'.sq0 ra')⟩)⟩
  · cases r with
    | cons r1 r2 =>
    cases r2 with
    | cons r2 r3 =>
    cases r3
    cases r1 with
    | tup hs ra =>
    cases r2 with
    | lst hs' ra' => exact ⟨_, _, _, _, rfl, .inr (.inr ⟨hs.sq S1.sub, SqL.of (S1.sub _ _ hs'), k _ _ _ _ _ q sm S1 (walkD_mz hs.sq0 ra (SqL.of hs') ra')⟩)⟩
  · exact q.elim⟩
end
end EL
namespace EL
open PySem PySem.Spec PyProof.Rows L2
section
variable {X : Cx} {B : Bs} {G G' G1 : Hp} {γ γ' : Gm} {σ σ' : L2.St} {H H' : Hp} {e a b : Expr} {ta tb t : DT} {pos : Pos} {st : Stmt} {p : Addr}
/-! ### {} -/
def fDnew : DKv := fun γ R => R [] γ
theorem f_dnew (h : PE X e tDNewK) : PE X e (tDFd B fDnew) := pe_imp h fun σ H Q ⟨G, γ, R, S, h, k⟩ p hp =>
  k _ _ _ _ _ _ h (Same.refl _) (S.laid (fun _ z => nomatch z) hp) upd_same .nil (S.free0 hp) (S.sub.free hp) (S.noslot hp)
/-! ### dict of a list of pairs -/
def pairsOf : List D → Option (List (Key × D))
  | [] => some []
  | .tup [k, v] :: r => match keyD k, pairsOf r with
    | some key, some kvs => some ((key, v) :: kvs)
    | _, _ => none
  | _ :: _ => none
def fDictP (t : DA) : DKv := fun γ R => t γ fun ds γ1 => match ds with
  | [.lst xs] => match pairsOf xs with
    | some kvs => R (mergeD [] kvs) γ1
    | none => False
  | _ => False
def rDictP (X : Cx) : List V → Hp → VK → Prop := fun xs H Q => ∃ (a : Addr) (ps : List Addr) (kvs : List (Key × V)), xs = [.ref a] ∧ SqL X.K H a (ps.map V.ref) ∧ Paired (fun p kv => SqT X.K H p [kV kv.1, kv.2]) ps kvs ∧ ∀ p, H p = none → Q (.ref p) (upd H p (.dK (mergeK [] kvs)))
theorem pairs_rp {W : Cw} : ∀ {xs : List D} {vs : List V} {kvs : List (Key × D)}, RpAll W G vs xs → pairsOf xs = some kvs → ∃ (ps : List Addr) (us : List (Key × V)), vs = ps.map V.ref ∧ Paired (fun p kv => TupAt W G p [kV kv.1, kv.2]) ps us ∧ RpKv W G us kvs
  | [], _, kvs, .nil, h => by cases h; exact ⟨[], [], rfl, .nil, .nil⟩
  | x :: xs, _, kvs, .cons r t, h => by
    unfold pairsOf at h
    split at h
    · rename_i h0
      cases h0
    · rename_i k v r' e
      cases e
      split at h
      · rename_i key kvs' h1 h2
        cases h
        obtain ⟨ps, us, e1, e2, e3⟩ := pairs_rp t h2
        cases r with
        | @tup a vs' _ hs ra =>
          cases ra with
          | cons ra rb =>
            cases rb with
            | cons rb rc =>
              cases rc
              rename_i va vb
              refine ⟨a :: ps, (key, vb) :: us, by rw [e1]; rfl, .cons ?_ e2, .cons rb e3⟩
              have := rp_key ra h1
              subst this
              exact hs
      · cases h
    · cases h
theorem paired_imp {α β : Type} {P P' : α → β → Prop} (h : ∀ x y, P x y → P' x y) : ∀ {xs : List α} {ys : List β}, Paired P xs ys → Paired P' xs ys
  | _, _, .nil => .nil
  | _, _, .cons a b => .cons (h _ _ a) (paired_imp h b)
theorem f_dictP {ta : DA} (hK : X.K = B.K) (h : PE X e (tCB (rDictP X) (tDA B ta))) : PE X e (tDFd B (fDictP ta)) := pe_imp h fun σ H Q ⟨G, γ, R, S, h, k⟩ =>
  ⟨G, γ, _, S, h, fun ds γ1 G1 vs H1 q sm S1 r => by
    split at q
    · rename_i xs
      cases qe : pairsOf xs with
      | none => rw [qe] at q; exact q.elim
      | some kvs =>
        rw [qe] at q
        cases r with
        | cons r1 r2 =>
          cases r2
          cases r1 with
          | @lst a vs _ hs ra =>
            obtain ⟨ps, us, e1, e2, e3⟩ := pairs_rp ra qe
            subst e1
            refine ⟨a, ps, us, rfl, by rw [hK]; exact SqL.of (S1.sub _ _ hs), paired_imp (fun x y z => by rw [hK]; exact z.sq S1.sub) e2, fun p hp => ?_⟩
            exact k _ _ _ _ _ _ q sm (S1.laid (fun _ z => nomatch z) hp) upd_same (rp_merge e3 .nil) (S1.free0 hp) (S1.sub.free hp) (S1.noslot hp)
    · exact q.elim⟩
/-! ### two new dicts and one thing more, stored at once -/
def sPar3D (i j l : Nat) (t : DT) : DS := fun E γ => t γ fun d γ1 => ∀ p q, E.nx (putS (putS (putS γ1 i (.ownD p [])) j (.ownD q [])) l (.fz d))
theorem s_par3D {i j l : Nat} (hij : i ≠ j) (h : PS X st (tPar3 i j l (tCons tDNewK (tCons tDNewK (tCons (tDx B t) tNil))))) : PS X st (tDS B (sPar3D i j l t)) := ps_imp h fun De σ H ⟨G, γ, E, S, h, F⟩ => by
  intro p hp q hq
  have hdk : ∀ d c, B.W.dk = some (d, c) → B.H0 d ≠ none ∧ B.H0 c ≠ none := fun d c e => ⟨(S.dkok d c e).2.1, (S.dkok d c e).2.2.1⟩
  have hpq : p ≠ q := fun z => by rw [z, upd_same] at hq; cases hq
  have S1 := (S.laid (o := .dK []) (fun _ z => nomatch z) hp).hide upd_same (S.sub.free hp) (S.free0 hp) (S.noslot hp)
  have S2 := (S1.laid (o := .dK []) (fun _ z => nomatch z) hq).hide upd_same (S1.sub.free hq) (S1.free0 hq) (S1.noslot hq)
  have hdk1 : ∀ d c, B.W.dk = some (d, c) → upd B.H0 p (.dK []) d ≠ none ∧ upd B.H0 p (.dK []) c ≠ none := fun d c e => ⟨(S1.dkok d c e).2.1, (S1.dkok d c e).2.2.1⟩
  refine ⟨_, G, γ, _, S2, h, fun d γ1 G1 v H1 q1 sm S3 r => ?_⟩
  obtain ⟨S4, hq2, gq2, nq2⟩ := Dst.unhide (B := withH B (upd B.H0 p (.dK []))) S3 (S1.free0 hq) (S.sub0.free (S1.sub.free hq)) hdk1
  obtain ⟨S5, hp2, gp2, np2⟩ := Dst.unhide (B := B) S4 (S.free0 hp) (S.sub0.free (S.sub.free hp)) hdk
  have q0 : B.H0 q = none := by
    have := S1.free0 hq
    have e : upd B.H0 p (.dK []) q = none := this
    rwa [upd_ne (fun z => hpq z.symm)] at e
  refine ⟨_, _, _, rfl, ?_⟩
  have q2 := q1 p q
  rw [putS_eq, putS_eq, putS_eq] at q2
  have S6 := slot_set S5 (i := i) (v := .ref p) (s := .ownD p []) ⟨rfl, _, hp2, .nil⟩ (fun p' hp' => by
    cases List.mem_singleton.mp hp'
    exact ⟨S.free0 hp, gp2, fun j t _ e => np2 j t e⟩)
  have S7 := slot_set S6 (i := j) (v := .ref q) (s := .ownD q []) ⟨rfl, _, hq2, .nil⟩ (fun p' hp' => by
    cases List.mem_singleton.mp hp'
    refine ⟨q0, gq2, fun j' t hj e => ?_⟩
    by_cases z : i = j'
    · subst z
      by_cases li : i < γ1.sl.length
      · rw [List.getElem?_set_self li] at e
        cases e
        exact fun z => hpq (List.mem_singleton.mp z).symm
      · rw [List.getElem?_eq_none (by rw [List.length_set]; omega)] at e
        cases e
    · rw [List.getElem?_set_ne z] at e
      exact nq2 j' t e)
  exact F.nx _ _ _ _ q2 sm (S7.set r)
end
section
variable {X : Cx} {B : Bs} {t : DT} {st : Stmt}
/-- the same by a tuple, where a name is a cell -/
theorem s_asg3D {i j l : Nat} (hij : i ≠ j) (h : PS X st (tAsg (tTup (tCons tDNewK (tCons tDNewK (tCons (tDx B t) tNil)))) (gTup X.K 3 (gCons (gName i) (gCons (gName j) (gCons (gName l) gNil)))))) : PS X st (tDS B (sPar3D i j l t)) := ps_imp h fun De σ H ⟨G, γ, E, S, h, F⟩ => by
  intro p hp q hq
  have hdk : ∀ d c, B.W.dk = some (d, c) → B.H0 d ≠ none ∧ B.H0 c ≠ none := fun d c e => ⟨(S.dkok d c e).2.1, (S.dkok d c e).2.2.1⟩
  have hpq : p ≠ q := fun z => by rw [z, upd_same] at hq; cases hq
  have S1 := (S.laid (o := .dK []) (fun _ z => nomatch z) hp).hide upd_same (S.sub.free hp) (S.free0 hp) (S.noslot hp)
  have S2 := (S1.laid (o := .dK []) (fun _ z => nomatch z) hq).hide upd_same (S1.sub.free hq) (S1.free0 hq) (S1.noslot hq)
  have hdk1 : ∀ d c, B.W.dk = some (d, c) → upd B.H0 p (.dK []) d ≠ none ∧ upd B.H0 p (.dK []) c ≠ none := fun d c e => ⟨(S1.dkok d c e).2.1, (S1.dkok d c e).2.2.1⟩
  refine ⟨_, G, γ, _, S2, h, fun d γ1 G1 v H1 q1 sm S3 r => ?_⟩
  obtain ⟨S4, hq2, gq2, nq2⟩ := Dst.unhide (B := withH B (upd B.H0 p (.dK []))) S3 (S1.free0 hq) (S.sub0.free (S1.sub.free hq)) hdk1
  obtain ⟨S5, hp2, gp2, np2⟩ := Dst.unhide (B := B) S4 (S.free0 hp) (S.sub0.free (S.sub.free hp)) hdk
  have q0 : B.H0 q = none := by
    have := S1.free0 hq
    have e : upd B.H0 p (.dK []) q = none := this
    rwa [upd_ne (fun z => hpq z.symm)] at e
  refine ⟨by show 3 ≤ sizeLine; decide, fun T hT => ?_⟩
  obtain ⟨S8, sm8⟩ := S5.new (o := .tup [.ref p, .ref q, v]) hT
  have nTp : p ≠ T := fun z => by rw [z, hT] at hp2; cases hp2
  have nTq : q ≠ T := fun z => by rw [z, hT] at hq2; cases hq2
  refine ⟨T, _, rfl, SqT.of upd_same, rfl, _, _, rfl, _, _, rfl, _, _, rfl, rfl, ?_⟩
  have q2 := q1 p q
  rw [putS_eq, putS_eq, putS_eq] at q2
  have S6 := slot_set S8 (i := i) (v := .ref p) (s := .ownD p []) ⟨rfl, _, (upd_ne nTp).trans hp2, .nil⟩ (fun p' hp' => by
    cases List.mem_singleton.mp hp'
    exact ⟨S.free0 hp, (upd_ne nTp).trans gp2, fun j t _ e => np2 j t e⟩)
  have S7 := slot_set S6 (i := j) (v := .ref q) (s := .ownD q []) ⟨rfl, _, (upd_ne nTq).trans hq2, .nil⟩ (fun p' hp' => by
    cases List.mem_singleton.mp hp'
    refine ⟨q0, (upd_ne nTq).trans gq2, fun j' t hj e => ?_⟩
    by_cases z : i = j'
    · subst z
      by_cases li : i < γ1.sl.length
      · rw [List.getElem?_set_self li] at e
        cases e
        exact fun z => hpq (List.mem_singleton.mp z).symm
      · rw [List.getElem?_eq_none (by rw [List.length_set]; omega)] at e
        cases e
    · rw [List.getElem?_set_ne z] at e
      exact nq2 j' t e)
  exact F.nx _ _ _ _ q2 (sm.trans sm8) (S7.set (r.mono sm8))
end
/-! ### what stands in a dict behind a store -/
section
variable {α : Type}
theorem getK_setA {key key' : Key} {v : α} (h : key' ≠ key) : ∀ kvs : List (Key × α), getK key' (setK.setA key v kvs) = getK key' kvs
  | [] => rfl
  | (k, x) :: r => by
    have ih := getK_setA (v := v) h r
    unfold setK.setA getK
    dsimp only
    by_cases e : keyEq k key = true
    · rw [if_pos e]
      have e2 := keyEq_iff.mp e
      subst e2
      have n : ¬ keyEq k key' = true := fun z => h (keyEq_iff.mp z).symm
      dsimp only
      rw [if_neg n, if_neg n, ih]
    · rw [if_neg e]
      dsimp only
      rw [ih]
theorem getK_setK {key key' : Key} {v : α} (h : key' ≠ key) : ∀ kvs : List (Key × α), getK key' (setK key v kvs) = getK key' kvs
  | [] => by
    unfold setK getK
    dsimp only
    rw [if_neg (fun z => h (keyEq_iff.mp z).symm)]
    rfl
  | (k, x) :: r => by
    have ih := getK_setK (v := v) h r
    unfold setK
    dsimp only
    by_cases e : keyEq k key = true
    · rw [if_pos e]
      have e2 := keyEq_iff.mp e
      subst e2
      have n : ¬ keyEq k key' = true := fun z => h (keyEq_iff.mp z).symm
      unfold getK
      dsimp only
      rw [if_neg n, if_neg n, getK_setA h]
    · rw [if_neg e]
      unfold getK
      dsimp only
      rw [ih]
theorem getK_setK0 {key : Key} {v : α} : ∀ kvs : List (Key × α), getK key (setK key v kvs) = some v
  | [] => by
    unfold setK getK
    dsimp only
    rw [if_pos (keyEq_iff.mpr rfl)]
  | (k, x) :: r => by
    have ih := getK_setK0 (key := key) (v := v) r
    unfold setK
    dsimp only
    by_cases e : keyEq k key = true
    · rw [if_pos e]
      unfold getK
      dsimp only
      rw [if_pos e]
    · rw [if_neg e]
      unfold getK
      dsimp only
      rw [if_neg e, ih]
theorem setA_len {key : Key} {v : α} : ∀ kvs : List (Key × α), (setK.setA key v kvs).length = kvs.length
  | [] => rfl
  | kv :: r => by
    unfold setK.setA
    rw [List.length_cons, List.length_cons, setA_len r]
theorem setK_len {key : Key} {v : α} : ∀ kvs : List (Key × α), (setK key v kvs).length ≤ kvs.length + 1
  | [] => Nat.le_refl _
  | (k, x) :: r => by
    have ih := setK_len (key := key) (v := v) r
    unfold setK
    dsimp only
    split
    · rw [List.length_cons, List.length_cons, setA_len]; omega
    · rw [List.length_cons, List.length_cons]; omega
theorem getK_ne {kvs : List (Key × α)} {k : Key} (h : ∀ p ∈ kvs, p.1 ≠ k) : getK k kvs = none := by
  induction kvs with
  | nil => rfl
  | cons p r ih =>
    unfold getK
    rw [if_neg (fun z => h p List.mem_cons_self (keyEq_iff.mp z)), ih fun q hq => h q (List.mem_cons_of_mem _ hq)]
end
/-! ### repr of data, leaves too -/
def rReprA (K : PySem.W.Frag) : List V → Hp → VK → Prop := fun xs H Q =>
  (xs = [.non] ∧ Q (.str (PyData.none).shown) H) ∨ (∃ i : Int, xs = [.int i] ∧ i.natAbs.log2 < 1920 ∧ Q (.str (PyData.int i).shown) H) ∨ PH.rRepr K xs H Q
theorem cr_reprA {X : Cx} {k : Nat} (hg : X.A.guards = some []) (hr : Room k X.A) : CallR X (.builtin "repr") (rReprA X.K) := by
  intro pins s σ H xs us Q I r h
  rcases h with ⟨rfl, q⟩ | ⟨i, rfl, hi, q⟩ | h
  · obtain ⟨u, rfl, ru⟩ := vals1 r
    cases ru
    exact PySem.P.repr_of_none ⟨.str _, H, I.tok _, ⟨_, rfl⟩, q⟩
  · obtain ⟨u, rfl, ru⟩ := vals1 r
    obtain ⟨t, rfl⟩ := ru
    exact PySem.P.repr_of_int hi ⟨.str _, H, I.tok _, ⟨_, rfl⟩, q⟩
  · exact PH.cr_repr hg hr pins s σ H xs us Q I r h
def reprA : FC := fun ds R => match ds with
  | [.tup xs] => showOk (.tup xs) ∧ R (.str (shownD (.tup xs)))
  | [.lst xs] => showOk (.lst xs) ∧ R (.str (shownD (.lst xs)))
  | [.non] => R (.str (shownD .non))
  | [.int i] => i.natAbs.log2 < 1920 ∧ R (.str (shownD (.int i)))
  | _ => False
theorem ok_reprA {X : Cx} {B : Bs} (hK : X.K = B.K) : OkRC B (rReprA X.K) reprA := by
  intro G γ σ H vs ds R Q S r h k
  unfold reprA at h
  split at h
  · exact .inr (.inr (ok_repr hK G γ σ H vs _ R Q S r h k))
  · exact .inr (.inr (ok_repr hK G γ σ H vs _ R Q S r h k))
  · cases r with
    | cons r1 r2 =>
      cases r2
      cases r1
      exact .inl ⟨rfl, k _ _ _ _ h (Same.refl _) S (.str _)⟩
  · cases r with
    | cons r1 r2 =>
      cases r2
      cases rpInt r1
      exact .inr (.inl ⟨_, rfl, h.1, k _ _ _ _ h.2 (Same.refl _) S (.str _)⟩)
  · exact h.elim
/-! ### defs called with keywords -/
def dCallK (c n : Nat) (F : FD) (cost : Nat) (g : List D → List D → List D) (ta tk : DA) : DT := fun γ R => ta γ fun ds γ1 => tk γ1 fun es γ2 => (g ds es).length = n ∧ γ2.ct + c ≤ cost ∧ F (g ds es) (fun d => R d (plusC γ2 c)) noX
/-- how keywords are put in their places: by values, by data, alike -/
structure Puts (gV : List V → List V → List V) (gD : List D → List D → List D) : Prop where
  to : ∀ {W : Cw} {G : Hp} {vs zs : List V} {ds es : List D}, RpAll W G vs ds → RpAll W G zs es → RpAll W G (gV vs zs) (gD ds es)
section
variable {X : Cx} {B : Bs} {e : Expr} {E : XK} {ta tk : DA} {c n : Nat} {F : FD} {gV : List V → List V → List V} {gD : List D → List D → List D} {DkF : Nat → Hp → Addr → Addr → Prop}
theorem d_callK (hB : DkK B DkF) (P : Puts gV gD) (h : PE X e (tCallK (spD B.K B.W.cl DkF c n F) gV E (tDA B ta) (tDA B tk))) : PE X e (tD B (dCallK c n F B.cost gD ta tk)) := pe_imp h fun σ H Q ⟨G, γ, R, S, h, k⟩ =>
  ⟨G, γ, _, S, h, fun ds γ1 G1 vs H1 h1 sm S1 r => ⟨G1, γ1, _, S1, h1, fun es γ2 G2 zs H2 ⟨hl, hc, hF⟩ sm2 S2 r2 => by
    exact sp_run hB.is hB.law hB.up S2 hc (P.to (r.mono sm2) r2) hl hF (fun d G' v H' hR s' S' r' => k _ _ _ _ _ hR (sm.trans (sm2.trans s')) S' r') fun _ _ _ _ _ _ z => z.elim⟩⟩
/-- no place, keywords alone -/
theorem pe_callKw {f : Addr} {fd : FuncData} {ps ks : List Str} {sp : Sp} {CX : CXT} {kk : Nat} {x : Str} {p pos : Pos} {kws : List Keyword} {tq : TA} {g : List Value → List Value → List Value}
    (Fn : FnOk X.prog X.w X.K X.mg X.base CX kk f fd ps sp) (hr : Room kk X.A) (hg : Gl X x) (hm : X.mg x = some (.ref f)) (hk : PySem.W.keepIn X.K (.ref f) = true) (hb : KBinds X.K fd ps ks g gV) (hx : Passes CX X E) (hkw : PK X kws tq)
    (hall : (backToKw pos (keywordEach kws X.env)).all (·.1.isSome) = true := by rfl) (hks : (backToKw pos (keywordEach kws X.env)).filterMap (·.1) = ks := by rfl)
    (hdb : (x == ("__debug__" : Str)) = false := by decide)
    (hpl : ((backTo pos (starEach [] X.env)).any (·.1) || (backToKw pos (keywordEach kws X.env)).any (·.1.isNone)) = false := by rfl) :
    PE X (.Call (.Name x p) [] kws pos) (tCallK sp gV E tNil tq) := by
  refine ⟨fun pins s σ H Q I h => ?_⟩
  refine wpAny_Call_Name_kw (ld_glob I hg hm ?_ hdb)
  refine PySem.W.callWith_KW0 (first := []) (h₀ := X.base) I.ok.mod.kin hk hall (thn (hkw.run pos pins s σ H _ I h) fun ws s2 ⟨zs, H2, I2, rz, q2⟩ => ⟨I2.kIn, ?_⟩) hpl
  rw [hks]
  have r2 : Vals (gV [] zs) (g [] ws) := hb.rel .nil rz
  have hl := Fn.len _ _ _ _ q2
  have hl2 : (g [] ws).length = ps.length := by rw [← r2.length]; exact hl
  refine wpAny_call (codeAny_mono (Fn.run X.A X.stack s2 H2 ⟨[], ks.zip ws⟩ (g [] ws) (gV [] zs) Q E hr I2.env0 (hb.to s2 [] ws I2.kIn hl2) r2 q2) fun r s' hq => ?_)
  cases r with
  | error e => exact hx pins σ H2 s2 e s' I2 hq
  | ok fl =>
    cases fl with
    | ret u => exact I2.after hq
    | next => exact False.elim hq
    | brk => exact False.elim hq
    | cont => exact False.elim hq
theorem d_callKw (hB : DkK B DkF) (P : Puts gV gD) (h : PE X e (tCallK (spD B.K B.W.cl DkF c n F) gV E tNil (tDA B tk))) : PE X e (tD B (dCallK c n F B.cost gD aNil tk)) := pe_imp h fun σ H Q ⟨G, γ, R, S, h, k⟩ =>
  ⟨G, γ, _, S, h, fun es γ2 G2 zs H2 ⟨hl, hc, hF⟩ sm2 S2 r2 => by
    exact sp_run hB.is hB.law hB.up S2 hc (P.to .nil r2) hl hF (fun d G' v H' hR s' S' r' => k _ _ _ _ _ hR (sm2.trans s') S' r') fun _ _ _ _ _ _ z => z.elim⟩
end
/-- the keywords' values as they stand, behind the placed ones -/
theorem puts_cat : Puts (fun vs zs => vs ++ zs) (fun ds es => ds ++ es) := ⟨fun r1 r2 => r1.app r2⟩
/-- two keywords, turned about -/
theorem puts_rev : Puts (fun vs zs => vs ++ zs.reverse) (fun ds es => ds ++ es.reverse) := ⟨fun r1 r2 => r1.app r2.rev⟩
/-! ### keywords bound -/
section
variable {X : Cx} {B : Bs} {e : Expr} {t : DT}
theorem k_nil : PK X [] (tDA B aNil) := ⟨fun pos pins s σ H Q I ⟨_, _, _, S, h, k⟩ => pk_nil.run pos pins s σ H Q I (k _ _ _ _ _ h (Same.refl _) S .nil)⟩
theorem k_cons {kws : List Keyword} {nm : Option Str} {kpos : Pos} {tr : DA} (ha : PE X e (tD B t)) (hr : PK X kws (tDA B tr)) : PK X (⟨nm, e, kpos⟩ :: kws) (tDA B (aCons t tr)) :=
  ⟨fun pos pins s σ H Q I q => (pk_cons (nm := nm) (kpos := kpos) ha hr).run pos pins s σ H Q I (acons_core σ H Q q)⟩
theorem vals_app : ∀ {vs : List V} {us : List Value} {ws : List V} {xs : List Value}, Vals vs us → Vals ws xs → Vals (vs ++ ws) (us ++ xs)
  | _, _, _, _, .nil, h => h
  | _, _, _, _, .cons a r, h => .cons a (vals_app r h)
theorem vals_rev : ∀ {vs : List V} {us : List Value}, Vals vs us → Vals vs.reverse us.reverse
  | _, _, .nil => .nil
  | _, _, .cons a r => by
    rw [List.reverse_cons, List.reverse_cons]
    exact vals_app (vals_rev r) (.cons a .nil)
theorem kb_rev {K : PySem.W.Frag} {x qual : Str} {st : Stmt} {f : Addr} {fd : FuncData} {ps ks : List Str} (F : Fun K x qual st f fd)
    (h : ∀ (kV doc pm : Value) (an : Option Addr) (cdv ct : Value) (us ws : List Value), (us ++ ws.reverse).length = ps.length → bindArgs (PySem.W.fnOf x qual (defArgs st) (defBody st) (defScope st) .none kV doc pm an cdv ct) ⟨us, ks.zip ws⟩ = pure (ps.zip (us ++ ws.reverse))) :
    KBinds K fd ps ks (fun us ws => us ++ ws.reverse) (fun vs zs => vs ++ zs.reverse) := by
  obtain ⟨oc, od, kV, doc, pm, an, cdv, ct, osl, rfl, lk, hcd⟩ := F.ex
  exact ⟨fun s us ws _ hl => .of_eq (h kV doc pm an cdv ct us ws hl), fun a b => vals_app a (vals_rev b)⟩
theorem kb_cat {K : PySem.W.Frag} {x qual : Str} {st : Stmt} {f : Addr} {fd : FuncData} {ps ks : List Str} (F : Fun K x qual st f fd)
    (h : ∀ (kV doc pm : Value) (an : Option Addr) (cdv ct : Value) (us ws : List Value), (us ++ ws).length = ps.length → bindArgs (PySem.W.fnOf x qual (defArgs st) (defBody st) (defScope st) .none kV doc pm an cdv ct) ⟨us, ks.zip ws⟩ = pure (ps.zip (us ++ ws))) :
    KBinds K fd ps ks (fun us ws => us ++ ws) (fun vs zs => vs ++ zs) := by
  obtain ⟨oc, od, kV, doc, pm, an, cdv, ct, osl, rfl, lk, hcd⟩ := F.ex
  exact ⟨fun s us ws _ hl => .of_eq (h kV doc pm an cdv ct us ws hl), fun a b => vals_app a b⟩
end
section
variable {X : Cx} {B : Bs} {e : Expr} {E : XK} {ta tk : DA} {c n : Nat} {F : FD} {gV : List V → List V → List V} {gD : List D → List D → List D} {DkF : Nat → Hp → Addr → Addr → Prop}
theorem d_callKwc {cc : Nat} (hcc : B.cost = cc) (hB : DkK B DkF) (P : Puts gV gD) (h : PE X e (tCallK (spD B.K B.W.cl DkF c n F) gV E tNil (tDA B tk))) : PE X e (tD B (dCallK c n F cc gD aNil tk)) := by
  subst hcc
  exact d_callKw hB P h
theorem d_callKc {cc : Nat} (hcc : B.cost = cc) (hB : DkK B DkF) (P : Puts gV gD) (h : PE X e (tCallK (spD B.K B.W.cl DkF c n F) gV E (tDA B ta) (tDA B tk))) : PE X e (tD B (dCallK c n F cc gD ta tk)) := by
  subst hcc
  exact d_callK hB P h
end
/-! ### a list taken apart -/
section
variable {X : Cx} {B : Bs}
def bL (bs : List D → Gm → (Gm → Prop) → Prop) : BdT := fun d γ R => match d with
  | .lst ds => bs ds γ R
  | _ => False
theorem g_lst {tg : Expr} {n : Nat} {vs : List Nat} {bs} (hl : BLen bs n) (h : PG X tg (gLst B.K n (tDGs B vs bs))) : PG X tg (tDG B vs (bL bs)) := pg_imp h fun v σ H Q ⟨G, γ, d, R, S, r, q, k⟩ => by
  unfold bL at q
  split at q
  · cases r with
    | lst hs ra => exact ⟨_, _, rfl, SqL.of (S.sub _ _ hs), by rw [ra.len]; exact hl _ _ _ q, G, γ, _, R, S, ra, q, k⟩
  · exact q.elim
end
end EL
namespace EL
open PySem PySem.Spec PyProof.Rows L2
/-! ### tuple(d.values()) -/
section
variable {X : Cx} {B : Bs} {G : Hp} {γ : Gm} {σ : L2.St} {H : Hp} {e : Expr} {t : DT}
theorem mt_dvals : MtR X "dict.values" (fun x xs H Q => ∃ d kvs, x = .ref d ∧ xs = [] ∧ H d = some (.dK kvs) ∧ ∀ p, H p = none → Q (.ref p) (upd H p (viewO "dict_values" p d))) := by
  rintro pins s σ H x xs v us Q I rx rxs ⟨d, kvs, rfl, rfl, hd, q⟩
  cases rxs
  obtain rfl : v = Value.ref d := rx
  obtain ⟨hl, ns, vs, kv, hm⟩ := I.hok d _ hd
  refine call_meetsIn PySem.F.slot_dict_values hm.typeIs PySem.F.entry_dict_values (PySem.F.args_dict_values_1 _) (meets_dict_values (mixKind X.prog X.w) d ns) ⟨⟨vs, hm⟩, ?_⟩
  refine ⟨.ref _, _, I.laid (t' := s.toks) (o := viewO "dict_values" s.heap.objs.size d) (fun b o q => Heap.get?_push_of_some _ q) (Nat.le_refl _) ?_, rfl, q _ (I.hok.fresh (Nat.le_refl _))⟩
  refine ⟨Heap.get?_push_size _ rfl, ⟨_, Heap.get?_push_size _ rfl⟩, fun h1 h2 a1 a2 => a2 _ a1⟩
theorem meets_tuple_view {prog : Program} {w : World} {T : String} {r d : Addr} {n : Nat} {P : Nat → Value → Prop} {OK : Heap → Prop} (K : PySem.W.KdlSrc prog w T r d n P OK) :
    MeetsIn prog w (Builtin.«tuple.__new__» ⟨[.type "tuple", .ref r], []⟩) (fun A R s => A.handled = none ∧ OK s.heap ∧ n ≤ sizeLine ∧ ∀ (h' : Heap) (tk : Nat) (acc : Array Value), (∀ b o, s.heap.get? b = some o → h'.get? b = some o) → ItemsOf P acc n →
      R (.ok (.ret (.ref h'.objs.size))) { s with heap := h'.push { cls := .type "tuple", data := .seq acc }, toks := tk }) := by
  rintro A R s ⟨hA, hok, hn, h⟩
  have hA1 : A.in1.handled = none := hA
  have hsub := PySem.F.sub_tuple_tuple
  have hmade := PySem.madeHere_tuple
  have hinit : typeLookup (.type "tuple") (Str.ofString "__init__") = pure (some (.builtin "object.__init__")) := by rfl
  have hT := K.type s hok
  have hx : ∀ {Q : Bool → Shared → Prop} {E : Value → Shared → Prop}, Q false s → wpAny (model prog w) A.in1 (Builtin.Tuple.tupleIsExact (.ref r)) Q E s := fun {Q E} q => by
    unfold Builtin.Tuple.tupleIsExact
    refine wpAny_bind (wpAny_typeOf hT ?_)
    rw [K.notTuple]
    exact wpAny_pure q
  wp_walk using hx, PySem.W.kdu_collect K hA1 hok hn
  intro h' tk acc k a
  have hfit : sizeOk (.seq acc.toList.toArray) := by
    show acc.toList.toArray.size ≤ sizeLine
    have := a.1
    simp
    omega
  refine wpAny_bind (wpAny_pure ?_)
  refine wpAny_bind (m := Builtin.Tuple.tupleExact _) (wpAny_newObj_type (wpAny_pure ?_) hfit)
  have := h h' tk acc k a
  simpa using this
theorem call_tuple_view {prog : Program} {w : World} {A : Around} {E : Value → Shared → Prop} {s : Shared} {T : String} {r d : Addr} {n : Nat} {P : Nat → Value → Prop} {OK : Heap → Prop} {Q : Value → Shared → Prop} (K : PySem.W.KdlSrc prog w T r d n P OK)
    (hA : A.handled = none) (hok : OK s.heap) (hn : n ≤ sizeLine) (h : ∀ (h' : Heap) (tk : Nat) (acc : Array Value), (∀ b o, s.heap.get? b = some o → h'.get? b = some o) → ItemsOf P acc n →
      Q (.ref h'.objs.size) { s with heap := h'.push { cls := .type "tuple", data := .seq acc }, toks := tk }) : wpAny (model prog w) A (call (.type "tuple") [.ref r]) Q E s := by
  refine callType_meetsIn (Q₁ := fun obj s₁ => s₁.TypeIs obj "tuple" ∧ Q obj s₁) PySem.F.called_tuple (PySem.F.typeCall_tuple_1 _) (PySem.F.newCall_tuple_1 _) PySem.F.entry_tuple_new PySem.F.entry_object_init (meets_tuple_view K) ⟨hA, hok, hn, fun h' tk acc k a => ?_⟩ ?_
  · exact ⟨⟨_, Heap.get?_push_size _ rfl, rfl⟩, h h' tk acc k a⟩
  · rintro obj s₁ ⟨ht, hq⟩
    exact ⟨ht, PySem.F.args_object_init_2 _ _, _, object_init_meets (newId := "tuple.__new__") PySem.init_tuple_lookup PySem.F.called_tuple.made (by decide), ht, rfl, hq⟩
theorem kv_vals {kvs : List (Key × V)} {vs : List (Key × Value)} (h : KV kvs vs) : Vals (kvs.map (·.2)) (vs.map (·.2)) := by
  unfold KV at h
  induction h with
  | nil => exact .nil
  | cons a _ ih => exact .cons a.2 ih
/-- tuple(d.values()) -/
theorem cr_tupVals (hc : X.calm = true) : CallR X (.type "tuple") (fun xs H Q => ∃ p d kvs, xs = [.ref p] ∧ H p = some (viewO "dict_values" p d) ∧ H d = some (.dK kvs) ∧ ∀ l, H l = none → Q (.ref l) (upd H l (.tup (kvs.map (·.2))))) := by
  rintro pins s σ H xs us Q I rx ⟨p, d, kvs, rfl, hp, hd, q⟩
  obtain ⟨u, rfl, ru⟩ := vals1 rx
  obtain rfl : u = Value.ref p := ru
  obtain ⟨hl, ns, vs, kv, ob, es, ep, hm⟩ := I.hok d _ hd
  obtain ⟨hv, _⟩ := I.hok p _ hp
  have hh : X.A.handled = none := I.ok.hd hc
  have lv : kvs.length = vs.length := kv.length
  refine call_tuple_view (PySem.W.kdl_values (knd := mixKind X.prog X.w) (d := d) (r := p) (kvs := vs) (ep := ep)) hh ⟨⟨_, hv, rfl, rfl⟩, ob, es, hm⟩ (by omega) fun h' tk acc k a => ?_
  have ea : acc.toList = vs.map (·.2) := by
    refine List.ext_getElem? fun i => ?_
    rw [List.getElem?_map]
    cases e : acc[i]? with
    | none =>
      have h1 : acc.toList[i]? = none := by rw [Array.getElem?_toList]; exact e
      have h2 : vs[i]? = none := by
        rw [List.getElem?_eq_none_iff, ← a.1]
        exact Array.getElem?_eq_none_iff.mp e
      rw [h1, h2]
      rfl
    | some v =>
      obtain ⟨ky, h2⟩ := a.2 i v e
      rw [Array.getElem?_toList, e, h2]
      rfl
  have hV : Vals (kvs.map (·.2)) acc.toList := by
    rw [ea]
    exact kv_vals kv
  have I1 : Inv X pins σ H { s with heap := h', toks := tk } := I.kept (t' := tk) k
  refine ⟨.ref _, _, I1.laid (t' := tk) (o := .tup (kvs.map (·.2))) (fun b o q => Heap.get?_push_of_some _ q) (Nat.le_refl _) ?_, rfl, q _ (I1.hok.fresh (Nat.le_refl _))⟩
  exact ⟨by rw [List.length_map]; exact hl, acc.toList, hV, ⟨_, Heap.get?_push_size _ rfl, rfl, _, rfl⟩⟩
end
end EL
namespace EL
open PySem PySem.Spec PyProof.Rows L2
/-! ### sets of texts: how many there are -/
/-- c of these, all of them where they are unlike -/
structure SzOk (xs : List Str) (c : Nat) : Prop where
  le : c ≤ xs.length
  nd : c = xs.length ↔ xs.Nodup
theorem szOk_nil : SzOk [] 0 := ⟨Nat.le_refl _, by simp⟩
theorem szOk_snoc {xs : List Str} {c : Nat} (h : SzOk xs c) (x : Str) : SzOk (xs ++ [x]) (if decide (x ∈ xs) = true then c else c + 1) := by
  have e : (xs ++ [x]).Nodup ↔ xs.Nodup ∧ x ∉ xs := by
    rw [List.nodup_append]
    simp
    intro _
    constructor
    · intro h hx; exact h x hx rfl
    · intro h a ha e; subst e; exact h ha
  have := h.le
  by_cases m : x ∈ xs
  · rw [if_pos (decide_eq_true m)]
    refine ⟨by rw [List.length_append]; simp; omega, ?_⟩
    rw [e, List.length_append]
    constructor
    · intro q; simp at q; omega
    · rintro ⟨_, n⟩; exact absurd m n
  · rw [if_neg (by simpa using m)]
    refine ⟨by rw [List.length_append]; simp; omega, ?_⟩
    rw [e, List.length_append]
    constructor
    · intro q; exact ⟨h.nd.mp (by simpa using q), m⟩
    · rintro ⟨n, _⟩; have := h.nd.mpr n; simp; omega
section
variable {prog : Program} {w : World} {A : Around}
theorem setOf_keep {K : Type} [DecidableEq K] {knd : KeyKind prog w K} {h h' : Heap} {a : Addr} {S : K → Bool} {n : Nat} (x : Heap.SetOf knd h a S n) (k : ∀ o, h.get? a = some o → h'.get? a = some o) : Heap.SetOf knd h' a S n := by
  obtain ⟨o, es, ep, t, ho, r⟩ := x
  exact ⟨o, es, ep, t, k _ ho, r⟩
theorem strs_at {vs : List Value} {xs : List Str} (h : StrsAre vs xs) : ∀ {i : Nat} {v : Value}, vs[i]? = some v → ∃ x t, v = .str x t ∧ xs[i]? = some x := by
  induction h with
  | nil => intro i v e; cases e
  | cons x t r ih =>
    intro i v e
    cases i with
    | zero => cases e; exact ⟨x, t, rfl, rfl⟩
    | succ i => exact ih e
theorem upd_loop {I l S : Addr} {items : Array Value} {xs : List Str} {R : Result → Shared → Prop} (hA : A.handled = none) (hI : l ≠ I) (hS : S ≠ I) (hSl : S ≠ l) (hx : StrsAre items.toList xs) (hb : xs.length + 1 < scanBound) :
    ∀ (k i : Nat) (s : Shared), items.size - i = k → i ≤ items.size → s.heap.IsListIter I l i → s.heap.IsList l items → (∃ c, SzOk (xs.take i) c ∧ Heap.SetOf (strKind prog w) s.heap S (fun z => decide (z ∈ xs.take i)) c) →
      (∀ (s' : Shared) (c : Nat), (∀ b o, b ≠ S → b ≠ I → s.heap.get? b = some o → s'.heap.get? b = some o) → s'.gens = s.gens → s'.drawn = s.drawn → s'.os = s.os → SzOk xs c → Heap.SetOf (strKind prog w) s'.heap S (fun z => decide (z ∈ xs)) c → R (.ok (.ret .none)) s') →
      codeAny (model prog w) A (Code.builtin "set.update.loop" ⟨[.ref S, .ref I], []⟩) R s := by
  intro k
  induction k with
  | zero =>
    intro i s hk hi h1 h2 ⟨c, h3, h4⟩ h
    refine codeAny_builtin F.entry_set_update_loop ?_
    unfold Builtin.«set.update.loop»
    dsimp only
    have hA' : (A.under (Code.builtin "set.update.loop" ⟨[.ref S, .ref I], []⟩)).handled = none := hA
    have e : i = items.size := by omega
    subst e
    refine wpAny_bind ((Walks.list hA' I l hI items).done s _ _ ⟨h1, h2⟩ fun h' tk kp => ?_)
    refine wpAny_pure ?_
    have el : xs.take items.size = xs := List.take_of_length_le (by rw [← hx.length]; simp)
    rw [el] at h3 h4
    refine h _ c (fun b o _ n q => kp b o (by simpa using n) q) rfl rfl rfl h3 (setOf_keep h4 fun o q => kp S o (by simpa using hS) q)
  | succ k ih =>
    intro i s hk hi h1 h2 ⟨c, h3, h4⟩ h
    refine codeAny_builtin F.entry_set_update_loop ?_
    unfold Builtin.«set.update.loop»
    dsimp only
    have hA' : (A.under (Code.builtin "set.update.loop" ⟨[.ref S, .ref I], []⟩)).handled = none := hA
    have hlt : i < items.size := by omega
    refine wpAny_bind ((Walks.list hA' I l hI items).item i s _ _ hlt ⟨h1, h2⟩ fun v h' tk pv st kp => ?_)
    dsimp only
    have pv' : items.toList[i]? = some v := by rw [Array.getElem?_toList]; exact pv
    obtain ⟨x, t, rfl, hxi⟩ := strs_at hx pv'
    have et : xs.take (i + 1) = xs.take i ++ [x] := by rw [List.take_succ, hxi]; rfl
    have h4' : Heap.SetOf (strKind prog w) h' S (fun z => decide (z ∈ xs.take i)) c := setOf_keep h4 fun o q => kp S o (by simpa using hS) q
    refine wpAny_bind (wpAny_holding ?_)
    unfold setAdd
    refine wpAny_holding (wpAny_bind (wpAny_pyHash_str ?_))
    have hsz := h3.le
    refine wpAny_setAddHashed_of (knd := strKind prog w) (k := x) (strKind_is prog w x t) rfl h4' (by rw [List.length_take] at hsz; omega) fun h2' sb so => ?_
    refine wpAny_pure ?_
    refine ⟨plainId_quiet PyProof.Rows.F.plain_set_update_loop _, ih (i + 1) _ (by omega) (by omega) ?_ ?_ ⟨if decide (x ∈ xs.take i) = true then c else c + 1, ?_, ?_⟩ fun s' c' a1 a2 a3 a4 a5 a6 => h s' c' (fun b o n1 n2 q => a1 b o n1 n2 ?_) a2 a3 a4 a5 a6⟩
    · refine Heap.IsListIter.at st.1 fun o q => ?_
      rw [sb.2 _ (by simpa using hS.symm)]
      exact q
    · refine Heap.IsList.at st.2 fun o q => ?_
      rw [sb.2 _ (by simpa using hSl.symm)]
      exact q
    · rw [et]
      exact szOk_snoc h3 x
    · rw [et]
      have e : (fun z => decide (z ∈ xs.take i ++ [x])) = fun z => decide (z ∈ xs.take i) || decide (z = x) := by
        funext z
        rw [Bool.eq_iff_iff]
        simp
      rw [e]
      exact so
    · rw [sb.2 _ n1]
      exact kp b o (by simpa using n2) q
theorem init_strs {l S : Addr} {items : Array Value} {xs : List Str} {R : Result → Shared → Prop} {s : Shared} (hA : A.handled = none) (hSl : S ≠ l) (hx : StrsAre items.toList xs) (hb : xs.length + 1 < scanBound) (hl : s.heap.IsList l items) (led : Bool)
    (h0 : s.heap.get? S = some { cls := .type "set", data := Data.set #[] 0 (SetTable.fresh 0 0 led) })
    (h : ∀ (s' : Shared) (c : Nat), (∀ b o, b ≠ S → s.heap.get? b = some o → s'.heap.get? b = some o) → s'.gens = s.gens → s'.drawn = s.drawn → s'.os = s.os → SzOk xs c → Heap.SetOf (strKind prog w) s'.heap S (fun z => decide (z ∈ xs)) c → R (.ok (.ret .none)) s') :
    wpAny (model prog w) A.in1 (Builtin.«set.__init__» ⟨[.ref S, .ref l], []⟩) (fun fin s' => match fin with
        | Fin.done f => R (Except.ok f) s'
        | Fin.again c' => c'.quiet = true ∧ codeAny (model prog w) A c' R s') (fun e s' => R (Except.error e) s') s := by
  have hT : s.TypeIs (.ref S) "set" := ⟨_, h0, rfl⟩
  have hTl : s.TypeIs (.ref l) "list" := hl.typeIs
  have s1 := PySem.F.sub_list_set
  have s2 := PySem.F.sub_list_frozenset
  have hlS : S < s.heap.objs.size := Heap.lt_size h0
  have hll : l < s.heap.objs.size := by
    obtain ⟨o, e, _⟩ := id hl
    exact Heap.lt_size e
  wp_walk using wpAny_pyIter_list hl
  refine upd_loop (A := A.in1) (l := l) (items := items) (xs := xs) hA (Nat.ne_of_lt hll) (Nat.ne_of_lt hlS) hSl hx hb _ 0 { s with heap := s.heap.push { cls := .type "list_iterator", data := .fields #[.ref l, .int 0 0] } } rfl (Nat.zero_le _) ⟨_, Heap.get?_push_size _ rfl, rfl, rfl⟩ (Heap.IsList.push hl _) ⟨0, by rw [List.take_zero]; exact szOk_nil, ?_⟩ fun s' c a1 a2 a3 a4 a5 a6 => ?_
  · refine ⟨_, #[], 0, SetTable.fresh 0 0 led, Heap.get?_push_of_some _ h0, ⟨rfl, rfl, rfl⟩, rfl, ?_, fun k => ?_, by decide, ?_, rfl⟩
    · exact fun e he => by simp at he
    · simp
    · cases led <;> decide
  · refine wpAny_pure (wpAny_pure ?_)
    exact h s' c (fun b o n q => a1 b o n (Nat.ne_of_lt (Heap.lt_size q)) (Heap.get?_push_of_some _ q)) a2 a3 a4 a5 a6
/-- set(list of texts) -/
theorem call_set_strs {E : Value → Shared → Prop} {s : Shared} {l : Addr} {items : Array Value} {xs : List Str} {Q : Value → Shared → Prop} (hA : A.handled = none) (hl : s.heap.IsList l items) (hx : StrsAre items.toList xs) (hb : xs.length + 1 < scanBound)
    (h : ∀ (h' : Heap) (tk : Nat) (c : Nat), SzOk xs c → Heap.SetOf (strKind prog w) h' s.heap.objs.size (fun z => decide (z ∈ xs)) c → (∀ b o, s.heap.get? b = some o → h'.get? b = some o) → Q (.ref s.heap.objs.size) { s with heap := h', toks := tk }) : wpAny (model prog w) A (call (.type "set") [.ref l]) Q E s := by
  obtain ⟨ol, el, _⟩ := id hl
  obtain ⟨c, tl, hmro⟩ := PySem.F.called_set.mro
  have hmade := PySem.F.called_set.made
  have hsub := PySem.F.called_set.sub
  refine wpAny_call (codeAny_of_tree ?_)
  show wpAny _ _ (callAny (.type "set") _) _ _ _
  refine wpAny_pure ⟨Code.quiet_builtin _ (by decide +kernel), codeAny_builtin PySem.F.entry_type_call ?_⟩
  rw [Around.under_plain (weight_type_call_type "set" [.ref l] []) rfl]
  have h1 := PySem.F.called_set.notType
  have h2 := PySem.F.called_set.canCreate
  have hct := PySem.F.typeCall_set_1 (.ref l)
  repeat (any_goals (first | assumption | wp_step))
  refine codeAny_mono (code_set_new_1 (.ref l) (E := E) (Q₁ := fun obj s₁ => ∃ led : Bool, obj = .ref s.heap.objs.size ∧ s₁ = { s with heap := s.heap.push { cls := .type "set", dict := none, data := .set #[] 0 (.fresh 0 0 led) } }) fun led => ⟨led, rfl, rfl⟩) fun r s₁ hr => ?_
  cases r with
  | error e => exact hr
  | ok fl =>
    cases fl with
    | ret obj =>
      obtain ⟨led, rfl, rfl⟩ := hr
      have hS : (s.heap.push { cls := .type "set", dict := none, data := .set #[] 0 (.fresh 0 0 led) }).get? s.heap.objs.size = some { cls := .type "set", dict := none, data := .set #[] 0 (.fresh 0 0 led) } := Heap.get?_push_size _ rfl
      have hT : Shared.TypeIs { s with heap := s.heap.push { cls := .type "set", dict := none, data := .set #[] 0 (.fresh 0 0 led) } } (.ref s.heap.objs.size) "set" := ⟨_, hS, rfl⟩
      have hli := PySem.F.called_set.init.lookup
      have hbi := PySem.F.called_set.init.bind (.ref s.heap.objs.size)
      repeat (any_goals (first | assumption | wp_step))
      refine codeAny_mono (codeAny_call_builtin (R := wants (fun r s₂ => r = .none ∧ Q (.ref s.heap.objs.size) s₂) E) PySem.F.called_set.init.plain PySem.F.entry_set_init (check_set_init_1 hT ?_)) fun r₂ s₂ hr₂ => ?_
      · refine init_strs (led := led) (l := l) (items := items) (xs := xs) (A := A.in1) (R := wants (fun r s₂ => r = Value.none ∧ Q (.ref s.heap.objs.size) s₂) E) hA (Nat.ne_of_gt (Heap.lt_size el)) hx hb (Heap.IsList.push hl _) hS fun s' c a1 a2 a3 a4 a5 a6 => ?_
        refine ⟨rfl, ?_⟩
        have := h s'.heap s'.toks c a5 a6 fun b o q => a1 b o (Nat.ne_of_lt (Heap.lt_size q)) (Heap.get?_push_of_some _ q)
        obtain ⟨hp, g, d, tk, os⟩ := s'
        cases a2
        cases a3
        cases a4
        exact this
      · cases r₂ with
        | error e => exact hr₂
        | ok fl₂ =>
          cases fl₂ with
          | ret r =>
            obtain ⟨rfl, hq⟩ := hr₂
            repeat (any_goals (first | assumption | wp_step))
          | _ => exact hr₂.elim
    | _ => exact hr.elim
end
end EL
namespace EL
open PySem PySem.Spec PyProof.Rows L2
section
variable {X : Cx} {B : Bs} {G : Hp} {γ : Gm} {σ : L2.St} {H : Hp} {e a : Expr} {t ta : DT} {pos : Pos}
/-! ### len(set(texts)) -/
def tLenSetS (K : PySem.W.Frag) (ta : TE) : TE := fun σ H Q => ta σ H fun x H1 => ∃ (l : Addr) (xs : List Str), x = .ref l ∧ SqL K H1 l (xs.map V.str) ∧ xs.length + 1 < scanBound ∧ ∀ c : Nat, SzOk xs c → Q (.int c) H1
theorem pe_lenSetS {ta : TE} {p p2 q pos : Pos} (hc : X.calm = true) (hg : Gl X "len") (hm : X.mg "len" = none) (hg2 : Gl X "set") (hm2 : X.mg "set" = none) (ha : PE X a ta)
    (na : starEach [a] X.env = (false, eval a X.env) :: starEach [] X.env := by rfl) : PE X (.Call (.Name "len" p) [.Call (.Name "set" p2) [a] [] q] [] pos) (tLenSetS X.K ta) := by
  refine ⟨fun pins s σ H Q I h => ?_⟩
  refine Call_ (ld_blt I hg hm boot_len ?_)
  refine PyProof.Rows.callWith_builtin1 (PyProof.Rows.args_cons ?_ rfl) rfl rfl
  refine Call_ (ld_blt I hg2 hm2 boot_set ?_)
  refine PyProof.Rows.callWith_type1 (PyProof.Rows.args_cons (thn (ha.run pins s σ H _ I h) fun v s1 ⟨x, H1, I1, r1, q1⟩ => PyProof.Rows.args_nil ?_) na) na rfl
  obtain ⟨l, xs, rfl, hq, h1, q1⟩ := q1
  cases r1
  obtain ⟨its, r, pl, hz⟩ := I1.list hq
  refine call_set_strs (xs := xs) (I1.ok.hd hc) pl.isList (by simpa using strsAre_of r) h1 fun h' tk c hc2 hS hk => ?_
  refine PyProof.Rows.args_nil ?_
  obtain ⟨o, es, ep, t, ho, hex, hd, _, _, _, hf, hn⟩ := hS
  have I2 : Inv X pins σ H1 { s1 with heap := h', toks := tk } := I1.kept fun b o e => hk b o e
  have hle := hc2.le
  have hsb : scanBound ≤ 2 ^ 40 := by unfold scanBound; decide
  refine call_len_set ho hex hd hf (by rw [hn]; omega) ⟨.int c, H1, I2.tok _, ⟨_, by rw [hn]⟩, q1 c hc2⟩
def dLenSet (t : DT) : DT := fun γ R => t γ fun x γ1 => match x with
  | .lst xs => ∃ ys : List Str, xs = ys.map D.str ∧ ys.length ≤ 1000 ∧ ∀ c : Nat, SzOk ys c → R (.int c) γ1
  | _ => False
theorem d_lenSet {p p2 q : Pos} (hK : X.K = B.K) (hc : X.calm = true) (hg : Gl X "len") (hm : X.mg "len" = none) (hg2 : Gl X "set") (hm2 : X.mg "set" = none) (ha : PE X a (tD B t))
    (na : starEach [a] X.env = (false, eval a X.env) :: starEach [] X.env := by rfl) : PE X (.Call (.Name "len" p) [.Call (.Name "set" p2) [a] [] q] [] pos) (tD B (dLenSet t)) := pe_imp (pe_lenSetS hc hg hm hg2 hm2 ha na) fun σ H Q ⟨G, γ, R, S, h, k⟩ =>
  ⟨G, γ, _, S, h, fun d γ1 G1 v H1 h1 s1 S1 r1 => by
    split at h1
    · obtain ⟨ys, rfl, hl, h1⟩ := h1
      cases r1 with
      | lst hs ra =>
        rw [rp_strs ra] at hs
        refine ⟨_, ys, rfl, by rw [hK]; exact SqL.of (S1.sub _ _ hs), by unfold scanBound; omega, fun c hc => k _ _ _ _ _ (h1 c hc) s1 S1 (.int _)⟩
    · exact h1.elim⟩
/-! ### tuple(d.values()) -/
def dTupVals (t : DT) : DT := fun γ R => t γ fun x γ1 => match x with
  | .dct kvs => R (.tup (kvs.map (·.2))) γ1
  | _ => False
theorem rpKv_vals {W : Cw} : ∀ {us : List (Key × V)} {ds : List (Key × D)}, RpKv W G us ds → RpAll W G (us.map (·.2)) (ds.map (·.2))
  | _, _, .nil => .nil
  | _, _, .cons r t => .cons r (rpKv_vals t)
theorem d_tupVals (hK : X.K = B.K) (h : PE X e (tCB (fun xs H Q => ∃ p d kvs, xs = [.ref p] ∧ H p = some (viewO "dict_values" p d) ∧ H d = some (.dK kvs) ∧ ∀ l, H l = none → Q (.ref l) (upd H l (.tup (kvs.map (·.2)))))
      (tCons (tBM0 X.K "dict" (fun x xs H Q => ∃ d kvs, x = .ref d ∧ xs = [] ∧ H d = some (.dK kvs) ∧ ∀ p, H p = none → Q (.ref p) (upd H p (viewO "dict_values" p d))) (tD B t)) tNil))) : PE X e (tD B (dTupVals t)) := pe_imp h fun σ H Q ⟨G, γ, R, S, h, k⟩ =>
  ⟨G, γ, _, S, h, fun d γ1 G1 v H1 h1 s1 S1 r1 => by
    split at h1
    · rename_i kvs
      cases r1 with
      | dct hs rk =>
        rename_i a us
        have hd : H1 a = some (.dK us) := S1.sub _ _ hs
        refine ⟨.inr (.inr (.inl ⟨rfl, .inl ⟨_, hd⟩⟩)), a, us, rfl, rfl, hd, fun p hp => ?_⟩
        have S2 := S1.laid (o := viewO "dict_values" p a) (fun xs e => by unfold viewO at e; cases e) hp
        have hne : a ≠ p := fun e => by rw [e, hp] at hd; cases hd
        refine ⟨p, a, us, rfl, upd_same, by rw [upd_ne hne]; exact hd, fun l hl => ?_⟩
        obtain ⟨G2, sm, S3, r2⟩ := S2.newTup (rpKv_vals rk) hl
        exact k _ _ _ _ _ h1 (s1.trans sm) S3 r2
    · exact h1.elim⟩
/-! ### texts -/
def splitF : D → D → (D → Prop) → Prop := fun d x R => match d, x with
  | .str a, .str b => (b.length == 0) = false ∧ a.length ≤ 1000000 ∧ R (.lst ((Txt.split a b).map D.str))
  | _, _ => False
theorem ok_split : OkM1 B (fun x xs H Q => ∃ a b, x = .str a ∧ xs = [.str b] ∧ (b.length == 0) = false ∧ a.length + 2 ≤ sizeLine ∧ rNewStrs (Txt.split a b) H Q) splitF := by
  intro G γ σ H z x d R Q S r h k
  unfold splitF at h
  split at h
  · rename_i _ b e1
    cases e1
    cases rpStr r
    obtain ⟨h1, h2, h3⟩ := h
    refine ⟨_, _, rfl, rfl, h1, by unfold sizeLine; omega, fun p hp => ?_⟩
    obtain ⟨G2, sm, S3, r2⟩ := S.newLst (strs_rp _) hp
    exact k _ _ _ _ h3 sm S3 r2
  · exact h.elim
def strF : FC := fun ds R => match ds with
  | [.int i] => i.natAbs < 2 ^ 1900 ∧ R (.str (toString i))
  | [.str z] => R (.str z)
  | _ => False
theorem call_strOf : CallR X (.type "str") (fun xs H Q => (∃ i, xs = [.int i] ∧ i.natAbs.log2 < 1920 ∧ Q (.str (toString i)) H) ∨ ∃ a, xs = [.str a] ∧ Q (.str a) H) := CallR.or call_str_int SkE.call_str_str
theorem ok_strOf : OkRC B (fun xs H Q => (∃ i, xs = [.int i] ∧ i.natAbs.log2 < 1920 ∧ Q (.str (toString i)) H) ∨ ∃ a, xs = [.str a] ∧ Q (.str a) H) strF := by
  intro G γ σ H vs ds R Q S r h k
  unfold strF at h
  split at h
  · cases r with
    | cons r1 r2 =>
      cases r2
      cases rpInt r1
      rename_i i
      refine .inl ⟨_, rfl, ?_, k _ _ _ _ h.2 (Same.refl _) S (.str _)⟩
      by_cases z : i.natAbs = 0
      · rw [z]; decide
      · exact Nat.lt_of_lt_of_le ((Nat.log2_lt z).mpr h.1) (by decide)
  · cases r with
    | cons r1 r2 =>
      cases r2
      cases rpStr r1
      exact .inr ⟨_, rfl, k _ _ _ _ h (Same.refl _) S (.str _)⟩
  · exact h.elim
/-- s.isalpha() and the like -/
def dS0 (f : Str → Bool) (t : DT) : DT := fun γ R => t γ fun x γ1 => match x with
  | .str z => R (.bl (f z)) γ1
  | _ => False
theorem d_s0 {f : Str → Bool} (h : PE X e (tM0 (fun x xs H Q => ∃ a, x = .str a ∧ xs = [] ∧ True ∧ Q (.bl (f a)) H) (tD B t))) : PE X e (tD B (dS0 f t)) := pe_imp h fun σ H Q ⟨G, γ, R, S, h, k⟩ =>
  ⟨G, γ, _, S, h, fun d γ1 G1 v H1 h1 s1 S1 r1 => by
    split at h1
    · cases rpStr r1
      exact ⟨⟨_, rfl⟩, _, rfl, rfl, trivial, k _ _ _ _ _ h1 s1 S1 (.bl _)⟩
    · exact h1.elim⟩
/-- the truth of a text -/
def bStr (ta : DT) : DB := fun γ R => ta γ fun x γ1 => match x with
  | .str z => z.length ≤ 1000000 ∧ R (z.length ≠ 0) γ1
  | _ => False
theorem b_str (ha : PE X a (tD B ta)) (he : ∀ whole, isTrue a X.env whole = (do let v ← whole; standAt a.pos; holding [v] (truthy v)) := by intro _; rfl) : PT X a (tDB B (bStr ta)) := pt_imp (pt_truth ha he) fun σ H Q ⟨G, γ, R, S, h, k⟩ =>
  ⟨G, γ, _, S, h, fun d γ1 G1 v H1 h1 s1 S1 r1 => by
    split at h1
    · cases rpStr r1
      rename_i z
      refine ⟨_, ⟨by unfold sizeLine; omega, rfl⟩, k _ _ _ _ _ h1.2 ?_ s1 S1⟩
      constructor
      · intro e q; rw [q] at e; exact absurd e (by decide)
      · intro e; simpa using e
    · exact h1.elim⟩
/-! ### repr, of texts too -/
def reprB : FC := fun ds R => match ds with
  | [.str z] => (reprText z).length ≤ 1000000 ∧ R (.str (reprText z))
  | ds => reprA ds R
def rReprB (K : PySem.W.Frag) : List V → Hp → VK → Prop := fun xs H Q => (∃ z : Str, xs = [.str z] ∧ (reprText z).length ≤ sizeLine ∧ Q (.str (reprText z)) H) ∨ rReprA K xs H Q
theorem cr_reprB {k : Nat} (hg : X.A.guards = some []) (hr : Room k X.A) : CallR X (.builtin "repr") (rReprB X.K) := by
  intro pins s σ H xs us Q I r h
  rcases h with ⟨z, rfl, hl, q⟩ | h
  · obtain ⟨u, rfl, ru⟩ := vals1 r
    obtain ⟨t, rfl⟩ := ru
    exact PySem.P.repr_of_str (hsz := hl) ⟨.str _, H, I.tok _, ⟨_, rfl⟩, q⟩
  · exact cr_reprA hg hr pins s σ H xs us Q I r h
theorem ok_reprB (hK : X.K = B.K) : OkRC B (rReprB X.K) reprB := by
  intro G γ σ H vs ds R Q S r h k
  unfold reprB at h
  split at h
  · cases r with
    | cons r1 r2 =>
      cases r2
      cases rpStr r1
      exact .inl ⟨_, rfl, by unfold sizeLine; omega, k _ _ _ _ h.2 (Same.refl _) S (.str _)⟩
  · exact .inr (ok_reprA hK G γ σ H vs _ R Q S r h k)
/-! ### in a dict of the module -/
theorem op_kin2 {cl : Nat → Option (Addr × List Str)} {d : Addr} {tab : Str → Option D} (T : KTab X.K X.w cl d tab) : OpR X (compareOp .In) (rKIn X.K d) := by
  obtain ⟨es, n, D⟩ := T.dict
  exact op_in_kd D
theorem op_kni2 {cl : Nat → Option (Addr × List Str)} {d : Addr} {tab : Str → Option D} (T : KTab X.K X.w cl d tab) : OpR X (compareOp .NotIn) (rKNi X.K d) := by
  obtain ⟨es, n, D⟩ := T.dict
  exact op_notIn_kd D
/-! ### numbers of the module -/
theorem pe_gc {n : Str} {i : Int} {q : Pos} (hg : Gl X n) (h : ∃ u, X.mg n = some u ∧ RelV (.int i) u) (hdb : (n == ("__debug__" : Str)) = false := by decide) : PE X (.Name n q) (tC (.int i)) := by
  obtain ⟨u, h1, h2⟩ := h
  exact pe_glob hg h1 h2 hdb
theorem d_gc {i : Int} (h : PE X e (tC (.int i))) : PE X e (tD B (dC (.int i))) := pe_imp h fun σ H Q ⟨_, _, _, S, hr, k⟩ => k _ _ _ _ _ hr (Same.refl _) S (.int i)
end
end EL
namespace EL
open PySem PySem.Spec PyProof.Rows L2
/-! ### repr of data, dicts too -/
def keyP : Key → PyData
  | .inl i => .int i
  | .inr z => .str z
mutual
def pyX : D → PyData
  | .bl b => .bool b
  | .int i => .int i
  | .str z => .str z
  | .tup ds => .tuple (pyXs ds)
  | .lst ds => .list (pyXs ds)
  | .dct kvs => .dict (pyXk kvs)
  | _ => .none
def pyXs : List D → List PyData
  | [] => []
  | d :: ds => pyX d :: pyXs ds
def pyXk : List (Key × D) → List (PyData × PyData)
  | [] => []
  | (k, d) :: r => (keyP k, pyX d) :: pyXk r
end
mutual
def isX : D → Bool
  | .non => true
  | .bl _ => true
  | .int _ => true
  | .str _ => true
  | .tup ds => isXs ds
  | .lst ds => isXs ds
  | .dct kvs => isXk kvs
  | _ => false
def isXs : List D → Bool
  | [] => true
  | d :: ds => isX d && isXs ds
def isXk : List (Key × D) → Bool
  | [] => true
  | (_, d) :: r => isX d && isXk r
end
section
variable {X : Cx} {W : Cw} {pins : List (Addr × Obj)} {σ : L2.St} {G H : Hp} {s : Shared}
theorem key_reads {h : Heap} {k : Key} {u : Value} (hk : keyIs k u = true) : Reads h u (keyP k) [] := by
  rcases keyIs_shape hk with ⟨i, t, rfl, rfl⟩ | ⟨z, t, rfl, rfl⟩
  · exact .int i t
  · exact .str z t
mutual
theorem rdX (I : Inv X pins σ H s) (hK : X.K = W.K) (sm : Same G H) : ∀ (d : D) {v : V} {u : Value}, isX d = true → Rp W G v d → RelV v u → ∃ as, Reads s.heap u (pyX d) as
  | .non, _, _, _, r, q => by
    cases r; cases q
    exact ⟨_, .none⟩
  | .bl b, _, _, _, r, q => by
    cases r; cases q
    exact ⟨_, .bool b⟩
  | .int i, _, _, _, r, q => by
    cases r; obtain ⟨t, rfl⟩ := q
    exact ⟨_, .int i t⟩
  | .str z, _, _, _, r, q => by
    cases r; obtain ⟨t, rfl⟩ := q
    exact ⟨_, .str z t⟩
  | .tup ds, _, _, h, r, q => by
    cases r with
    | tup hs ra =>
      cases q
      obtain ⟨its, rv, ⟨o, e1, e2, n, e3⟩, _⟩ := I.tuple (hK ▸ hs.sq sm)
      obtain ⟨as, e4⟩ := rdXs I hK sm ds h ra rv
      exact ⟨_, .tuple e1 e2 e3 e4⟩
  | .lst ds, _, _, h, r, q => by
    cases r with
    | lst hs ra =>
      cases q
      obtain ⟨its, rv, ⟨o, n, e1, e2, _, e3⟩, _⟩ := I.list (SqL.of (sm _ _ hs))
      obtain ⟨as, e4⟩ := rdXs I hK sm ds h ra rv
      exact ⟨_, .list e1 e2 e3 e4⟩
  | .dct kvs, _, _, h, r, q => by
    cases r with
    | dct hs rk =>
      cases q
      obtain ⟨_, _, ws, kv, o, es, ep, e1, e2, e3, _, e4, _⟩ := I.hok _ _ (sm _ _ hs)
      obtain ⟨⟨as, e5⟩, bs, e6⟩ := rdXk I hK sm kvs h rk kv e4
      exact ⟨_, .dict e1 e2.1 e3 e5 e6⟩
  | .obj _ _, _, _, h, _, _ => nomatch h
  | .dcT _, _, _, h, _, _ => nomatch h
  | .dk, _, _, h, _, _ => nomatch h
  | .opq _, _, _, h, _, _ => nomatch h
theorem rdXs (I : Inv X pins σ H s) (hK : X.K = W.K) (sm : Same G H) : ∀ (ds : List D) {vs : List V} {us : List Value}, isXs ds = true → RpAll W G vs ds → Vals vs us → ∃ as, ReadsAll s.heap us (pyXs ds) as
  | [], _, _, _, r, q => by
    cases r; cases q
    exact ⟨_, .nil⟩
  | d :: ds, _, _, h, r, q => by
    have h : (isX d && isXs ds) = true := h
    rw [Bool.and_eq_true] at h
    cases r with
    | cons r1 r2 =>
      cases q with
      | cons q1 q2 =>
        obtain ⟨as, e1⟩ := rdX I hK sm d h.1 r1 q1
        obtain ⟨bs, e2⟩ := rdXs I hK sm ds h.2 r2 q2
        exact ⟨_, .cons e1 e2⟩
theorem rdXk (I : Inv X pins σ H s) (hK : X.K = W.K) (sm : Same G H) : ∀ (kvs : List (Key × D)) {us : List (Key × V)} {ws : List (Key × Value)} {es : List DictEntry}, isXk kvs = true → RpKv W G us kvs → KV us ws → Pairs (mixKind X.prog X.w) es ws →
    (∃ as, ReadsAll s.heap (es.map (·.key)) ((pyXk kvs).map (·.1)) as) ∧ ∃ bs, ReadsAll s.heap (es.map (·.val)) ((pyXk kvs).map (·.2)) bs
  | [], _, _, _, _, r, q, p => by
    cases r
    cases q
    cases p
    exact ⟨⟨_, .nil⟩, _, .nil⟩
  | (k, d) :: kvs, _, _, _, h, r, q, p => by
    have h : (isX d && isXk kvs) = true := h
    rw [Bool.and_eq_true] at h
    cases r with
    | cons r1 r2 =>
      cases q with
      | cons q1 q2 =>
        cases p with
        | cons p1 p2 p3 =>
          obtain ⟨qa, qb⟩ := q1
          obtain ⟨as, e1⟩ := rdX I hK sm d h.1 r1 qb
          obtain ⟨⟨bs, e2⟩, cs, e3⟩ := rdXk I hK sm kvs h.2 r2 q2 p3
          refine ⟨⟨_, .cons (key_reads (by rw [show k = _ from qa]; exact p1)) e2⟩, _, .cons (by dsimp only; rw [p2]; exact e1) e3⟩
end
theorem entries_more {P : Program} {w : World} {h0 : Heap} {as bs : List Addr} {m n : Nat} (hs : ∀ b ∈ as, b ∈ bs) (hd : m ≤ n) : ∀ {es : List DictEntry} {ps : List Str}, ReprEntriesK P w as h0 m es ps → ReprEntriesK P w bs h0 n es ps
  | _, _, .nil => .nil
  | _, _, .cons a b r => .cons ((a.more hs).level_le hd) ((b.more hs).level_le hd) (entries_more hs hd r)
theorem key_repr {P : Program} {w : World} {h0 : Heap} {as : List Addr} {n : Nat} {k : Key} {u : Value} (hk : keyIs k u = true) (hs : (keyP k).showable = true) (hl : (keyP k).shown.length ≤ sizeLine) : ReprK P w as h0 n u (keyP k).shown := by
  rcases keyIs_shape hk with ⟨i, t, rfl, rfl⟩ | ⟨z, t, rfl, rfl⟩
  · exact .of_is (by simp only [keyP, PyData.shown]; exact ReprIs.int t (by simpa [keyP, PyData.showable] using hs)) _ _ _
  · exact .of_is (by simp only [keyP, PyData.shown]; exact ReprIs.str z t (by simpa only [keyP, PyData.shown] using hl)) _ _ _
theorem rel_reads {n : Nat} {bs : List Addr} {m : Nat} (h : ReadAtMost s.heap n bs) (hm : n ≤ m) : ReadAtMost s.heap m bs := h.mono hm
mutual
theorem rkX (I : Inv X pins σ H s) (hK : X.K = W.K) (sm : Same G H) : ∀ (d : D) {v : V} {u : Value}, isX d = true → Rp W G v d → RelV v u → (pyX d).showable = true → (pyX d).shown.length ≤ sizeLine →
    ∃ bs, ReadAtMost s.heap (pyX d).depth bs ∧ ReprK X.prog X.w bs s.heap (pyX d).depth u (pyX d).shown
  | .non, _, _, _, r, q, _, _ => by
    cases r; cases q
    exact ⟨[], (fun _ h => by cases h), by simp only [pyX, PyData.shown]; exact .of_is ReprIs.none _ _ _⟩
  | .bl b, _, _, _, r, q, _, _ => by
    cases r; cases q
    exact ⟨[], (fun _ h => by cases h), by simp only [pyX, PyData.shown]; exact .of_is (ReprIs.bool b) _ _ _⟩
  | .int i, _, _, _, r, q, hs, _ => by
    cases r; obtain ⟨t, rfl⟩ := q
    exact ⟨[], (fun _ h => by cases h), by simp only [pyX, PyData.shown]; exact .of_is (ReprIs.int t (by simpa [pyX, PyData.showable] using hs)) _ _ _⟩
  | .str z, _, _, _, r, q, _, hl => by
    cases r; obtain ⟨t, rfl⟩ := q
    exact ⟨[], (fun _ h => by cases h), by simp only [pyX, PyData.shown]; exact .of_is (ReprIs.str z t (by simpa only [pyX, PyData.shown] using hl)) _ _ _⟩
  | .tup ds, _, _, h, r, q, hs, hl => by
    obtain ⟨as, rr⟩ := rdX I hK sm (.tup ds) h r q
    cases r with
    | tup ht ra =>
      cases q
      obtain ⟨its, rv, ⟨o, e1, e2, n, e3⟩, _⟩ := I.tuple (hK ▸ ht.sq sm)
      have hl' : (tupleText (PyData.shownAll (pyXs ds))).length ≤ sizeLine := by simpa only [pyX, PyData.shown] using hl
      obtain ⟨bs, c1, c2⟩ := rkXs I hK sm ds h ra rv (by simpa [pyX, PyData.showable] using hs) fun t ht => Nat.le_trans (tupleText_mem_le ht) hl'
      have dp : (pyX (.tup ds)).depth = PyData.depthAll (pyXs ds) + 1 := by simp only [pyX, PyData.depth]
      refine ⟨_ :: bs, ReadAtMost.cons (n := PyData.depthAll (pyXs ds)) rr (by omega) c1, ?_⟩
      rw [dp]
      simp only [pyX, PyData.shown]
      exact .tuple e1 e2 e3 (not_mem_of_deeper rr (by omega) c1) c2
  | .lst ds, _, _, h, r, q, hs, hl => by
    obtain ⟨as, rr⟩ := rdX I hK sm (.lst ds) h r q
    cases r with
    | lst ht ra =>
      cases q
      obtain ⟨its, rv, ⟨o, n, e1, e2, _, e3⟩, _⟩ := I.list (SqL.of (sm _ _ ht))
      have hl' : (listText (PyData.shownAll (pyXs ds))).length ≤ sizeLine := by simpa only [pyX, PyData.shown] using hl
      obtain ⟨bs, c1, c2⟩ := rkXs I hK sm ds h ra rv (by simpa [pyX, PyData.showable] using hs) fun t ht => Nat.le_trans (listText_mem_le ht) hl'
      have dp : (pyX (.lst ds)).depth = PyData.depthAll (pyXs ds) + 1 := by simp only [pyX, PyData.depth]
      refine ⟨_ :: bs, ReadAtMost.cons (n := PyData.depthAll (pyXs ds)) rr (by omega) c1, ?_⟩
      rw [dp]
      simp only [pyX, PyData.shown]
      have hn := not_mem_of_deeper rr (by omega) c1
      cases its with
      | nil =>
        generalize PyData.shownAll (pyXs ds) = ts at c2 ⊢
        cases c2
        rw [listText_nil]
        exact .listEmpty e1 e2 e3
      | cons y its => exact .list e1 e2 e3 hn (by simpa using c2.length_eq) fun i z hz => c2.item i z (by simpa using hz)
  | .dct kvs, _, _, h, r, q, hs, hl => by
    obtain ⟨as, rr⟩ := rdX I hK sm (.dct kvs) h r q
    cases r with
    | dct ht rk =>
      cases q
      obtain ⟨_, ns, ws, kv, o, es, ep, e1, e2, e3, _, e4, _⟩ := I.hok _ _ (sm _ _ ht)
      have hl' : (dictText (PyData.shownKv (pyXk kvs))).length ≤ sizeLine := by simpa only [pyX, PyData.shown] using hl
      obtain ⟨bs, c1, c2⟩ := rkXk I hK sm kvs h rk kv e4 (by simpa [pyX, PyData.showable] using hs) fun t ht => Nat.le_trans (dictText_mem_le ht) hl'
      have dp : (pyX (.dct kvs)).depth = PyData.depthKv (pyXk kvs) + 1 := by simp only [pyX, PyData.depth]
      refine ⟨_ :: bs, ReadAtMost.cons (n := PyData.depthKv (pyXk kvs)) rr (by omega) c1, ?_⟩
      rw [dp]
      simp only [pyX, PyData.shown]
      exact .dict e1 e2.1 e3 ns (not_mem_of_deeper rr (by omega) c1) c2
  | .obj _ _, _, _, h, _, _, _, _ => nomatch h
  | .dcT _, _, _, h, _, _, _, _ => nomatch h
  | .dk, _, _, h, _, _, _, _ => nomatch h
  | .opq _, _, _, h, _, _, _, _ => nomatch h
theorem rkXs (I : Inv X pins σ H s) (hK : X.K = W.K) (sm : Same G H) : ∀ (ds : List D) {vs : List V} {us : List Value}, isXs ds = true → RpAll W G vs ds → Vals vs us → PyData.showableAll (pyXs ds) = true → (∀ t ∈ PyData.shownAll (pyXs ds), t.length ≤ sizeLine) →
    ∃ bs, ReadAtMost s.heap (PyData.depthAll (pyXs ds)) bs ∧ ReprAllK X.prog X.w bs s.heap (PyData.depthAll (pyXs ds)) us (PyData.shownAll (pyXs ds))
  | [], _, _, _, r, q, _, _ => by
    cases r; cases q
    exact ⟨[], (fun _ h => by cases h), by simp only [pyXs, PyData.shownAll]; exact .nil⟩
  | d :: ds, _, _, h, r, q, hs, hl => by
    have h : (isX d && isXs ds) = true := h
    rw [Bool.and_eq_true] at h
    have hs : ((pyX d).showable && PyData.showableAll (pyXs ds)) = true := by simpa only [pyXs, PyData.showableAll] using hs
    rw [Bool.and_eq_true] at hs
    have e : PyData.shownAll (pyXs (d :: ds)) = (pyX d).shown :: PyData.shownAll (pyXs ds) := by simp only [pyXs, PyData.shownAll]
    rw [e] at hl
    rw [e]
    have dp : PyData.depthAll (pyXs (d :: ds)) = max (pyX d).depth (PyData.depthAll (pyXs ds)) := by simp only [pyXs, PyData.depthAll]
    rw [dp]
    cases r with
    | cons r1 r2 =>
      cases q with
      | cons q1 q2 =>
        obtain ⟨as, a1, a2⟩ := rkX I hK sm d h.1 r1 q1 hs.1 (hl _ List.mem_cons_self)
        obtain ⟨bs, b1, b2⟩ := rkXs I hK sm ds h.2 r2 q2 hs.2 fun t ht => hl t (List.mem_cons_of_mem _ ht)
        exact ⟨as ++ bs, (a1.mono (Nat.le_max_left _ _)).append (b1.mono (Nat.le_max_right _ _)), .cons ((a2.more fun b hb => List.mem_append_left _ hb).level_le (Nat.le_max_left _ _)) (b2.more_le (fun b hb => List.mem_append_right _ hb) (Nat.le_max_right _ _))⟩
theorem rkXk (I : Inv X pins σ H s) (hK : X.K = W.K) (sm : Same G H) : ∀ (kvs : List (Key × D)) {us : List (Key × V)} {ws : List (Key × Value)} {es : List DictEntry}, isXk kvs = true → RpKv W G us kvs → KV us ws → Pairs (mixKind X.prog X.w) es ws →
    PyData.showableKv (pyXk kvs) = true → (∀ t ∈ PyData.shownKv (pyXk kvs), t.length ≤ sizeLine) →
    ∃ bs, ReadAtMost s.heap (PyData.depthKv (pyXk kvs)) bs ∧ ReprEntriesK X.prog X.w bs s.heap (PyData.depthKv (pyXk kvs)) es (PyData.shownKv (pyXk kvs))
  | [], _, _, _, _, r, q, p, _, _ => by
    cases r
    cases q
    cases p
    exact ⟨[], (fun _ h => by cases h), by simp only [pyXk, PyData.shownKv]; exact .nil⟩
  | (k, d) :: kvs, _, _, _, h, r, q, p, hs, hl => by
    have h : (isX d && isXk kvs) = true := h
    rw [Bool.and_eq_true] at h
    have hs : ((keyP k).showable && (pyX d).showable && PyData.showableKv (pyXk kvs)) = true := by simpa only [pyXk, PyData.showableKv] using hs
    rw [Bool.and_eq_true, Bool.and_eq_true] at hs
    have e : PyData.shownKv (pyXk ((k, d) :: kvs)) = ((keyP k).shown ++ ": " ++ (pyX d).shown) :: PyData.shownKv (pyXk kvs) := by simp only [pyXk, PyData.shownKv]
    rw [e] at hl
    rw [e]
    have dp : PyData.depthKv (pyXk ((k, d) :: kvs)) = max (max (keyP k).depth (pyX d).depth) (PyData.depthKv (pyXk kvs)) := by simp only [pyXk, PyData.depthKv]
    rw [dp]
    have h1 := hl _ List.mem_cons_self
    rw [strLen_append, strLen_append] at h1
    cases r with
    | cons r1 r2 =>
      cases q with
      | cons q1 q2 =>
        cases p with
        | @cons en kw _ _ p1 p2 p3 =>
          obtain ⟨qa, qb⟩ := q1
          obtain ⟨as, a1, a2⟩ := rkX I hK sm d h.1 r1 qb hs.1.2 (by omega)
          obtain ⟨bs, b1, b2⟩ := rkXk I hK sm kvs h.2 r2 q2 p3 hs.2 fun t ht => hl t (List.mem_cons_of_mem _ ht)
          have hk : keyIs k en.key = true := by rw [show k = _ from qa]; exact p1
          refine ⟨as ++ bs, (a1.mono (by omega)).append (b1.mono (by omega)), .cons (key_repr hk hs.1.1 (by omega)) ?_ (entries_more (fun b hb => List.mem_append_right _ hb) (by omega) b2)⟩
          rw [p2]
          exact (a2.more fun b hb => List.mem_append_left _ hb).level_le (by omega)
end
end
end EL
namespace EL
open PySem PySem.Spec PyProof.Rows L2
/-! ### repr of any data -/
def showX (d : D) : Prop := isX d = true ∧ (pyX d).showable = true ∧ (pyX d).depth ≤ 60 ∧ (pyX d).shown.length ≤ 1000000
def shX (d : D) : Str := (pyX d).shown
def rReprX (K : PySem.W.Frag) : List V → Hp → VK → Prop := fun xs H Q => ∃ (W : Cw) (G : Hp) (d : D) (v : V), xs = [v] ∧ K = W.K ∧ Same G H ∧ Rp W G v d ∧ showX d ∧ Q (.str (shX d)) H
section
variable {X : Cx} {B : Bs}
theorem cr_reprX {k : Nat} (hg : X.A.guards = some []) (hr : Room k X.A) : CallR X (.builtin "repr") (rReprX X.K) := by
  intro pins s σ H xs us Q I r h
  obtain ⟨W, G, d, v, rfl, hK, sm, rd, ⟨hx, hs, hd, hl⟩, q⟩ := h
  obtain ⟨u, rfl, ru⟩ := vals1 r
  have hu := hr.units
  have hz : (pyX d).shown.length ≤ sizeLine := by unfold sizeLine; omega
  have fin : ∀ (h' : Heap) (t : Tok) (tk : Nat), (∀ b o, s.heap.get? b = some o → h'.get? b = some o) → EP X pins σ Q (.str (pyX d).shown t) { s with heap := h', toks := tk } := fun h' t tk hk => ⟨.str _, H, I.kept hk, ⟨t, rfl⟩, q⟩
  have wrap : ∀ {a : Addr} {T id : String}, u = .ref a → s.TypeIs (.ref a) T → SlotG T "__repr__" id → (wpAny (model X.prog X.w) X.A.in1 (call (.builtin id) [.ref a]) (fun r s₁ => ∃ x t, r = .str x t ∧ EP X pins σ Q r s₁) X.xe s) → wpAny (model X.prog X.w) X.A (call (.builtin "repr") [u]) (EP X pins σ Q) X.xe s := fun e hT sl hc => by
    subst e
    exact call_repr_slot (by omega) hT sl hc
  have units : ∀ {n : Nat}, n ≤ 60 → X.A.in1.units + n < cLine := fun h => by
    show X.A.units + 1 + _ < cLine
    omega
  cases d with
  | non =>
    cases rd; cases ru
    exact PySem.P.repr_of_none ⟨.str _, H, I.tok _, ⟨_, rfl⟩, q⟩
  | bl b =>
    cases rd; cases ru
    exact PySem.P.repr_of_bool ⟨.str _, H, I.tok _, ⟨_, by cases b <;> rfl⟩, q⟩
  | int i =>
    cases rd; obtain ⟨t, rfl⟩ := ru
    exact PySem.P.repr_of_int (by simpa [pyX, PyData.showable] using hs) ⟨.str _, H, I.tok _, ⟨_, rfl⟩, q⟩
  | str z =>
    cases rd; obtain ⟨t, rfl⟩ := ru
    exact PySem.P.repr_of_str (hsz := hz) ⟨.str _, H, I.tok _, ⟨_, rfl⟩, q⟩
  | tup ds =>
    obtain ⟨as, rr⟩ := rdX I hK sm (.tup ds) hx rd ru
    cases rd with
    | tup ht ra =>
      cases ru
      obtain ⟨its, rv, ⟨o, e1, e2, n, e3⟩, _⟩ := I.tuple (hK ▸ ht.sq sm)
      have hl' : (tupleText (PyData.shownAll (pyXs ds))).length ≤ sizeLine := by simpa only [pyX, PyData.shown] using hz
      obtain ⟨bs, c1, c2⟩ := rkXs I hK sm ds hx ra rv (by simpa [pyX, PyData.showable] using hs) fun t ht => Nat.le_trans (tupleText_mem_le ht) hl'
      have dp : (pyX (.tup ds)).depth = PyData.depthAll (pyXs ds) + 1 := by simp only [pyX, PyData.depth]
      refine wrap rfl ⟨o, e1, e2⟩ F.slot_tuple_repr ?_
      refine call_tuple_reprK e1 e2 e3 (not_mem_of_deeper rr (by omega) c1) c2 (A := X.A.in1) (g := []) hg (fun b _ => .nil b) (units (by omega)) (fun _ _ e => e) (fun h' t tk hk => ⟨_, _, rfl, ?_⟩) hl'
      have := fin h' t tk hk
      simp only [pyX, PyData.shown] at this
      exact this
  | lst ds =>
    obtain ⟨as, rr⟩ := rdX I hK sm (.lst ds) hx rd ru
    cases rd with
    | lst ht ra =>
      cases ru
      obtain ⟨its, rv, ⟨o, n, e1, e2, _, e3⟩, _⟩ := I.list (SqL.of (sm _ _ ht))
      have hl' : (listText (PyData.shownAll (pyXs ds))).length ≤ sizeLine := by simpa only [pyX, PyData.shown] using hz
      have dp : (pyX (.lst ds)).depth = PyData.depthAll (pyXs ds) + 1 := by simp only [pyX, PyData.depth]
      cases its with
      | nil =>
        exact repr_of_reads' rr hs (fun e => by
          cases ds with
          | nil => simp [pyX, pyXs, PyData.hasDict, PyData.hasDictAll] at e
          | cons d ds =>
            cases ra
            cases rv) hg (by omega) (fun _ _ e => e) (fun h' t tk hk => fin h' t tk hk) hz
      | cons y its =>
        obtain ⟨bs, c1, c2⟩ := rkXs I hK sm ds hx ra rv (by simpa [pyX, PyData.showable] using hs) fun t ht => Nat.le_trans (listText_mem_le ht) hl'
        refine wrap rfl ⟨o, e1, e2⟩ F.slot_list_repr.toG ?_
        refine call_list_reprK e1 e2 e3 (not_mem_of_deeper rr (by omega) c1) (by simpa using c2.length_eq) (fun i z hz => c2.item i z (by simpa using hz)) (A := X.A.in1) (g := []) hg (fun b _ => .nil b) (units (by omega)) (fun _ _ e => e) (fun h' t tk hk => ⟨_, _, rfl, ?_⟩) hl'
        have := fin h' t tk hk
        simp only [pyX, PyData.shown] at this
        exact this
  | dct kvs =>
    obtain ⟨as, rr⟩ := rdX I hK sm (.dct kvs) hx rd ru
    cases rd with
    | dct ht rk =>
      cases ru
      obtain ⟨_, ns, ws, kv, o, es, ep, e1, e2, e3, _, e4, _⟩ := I.hok _ _ (sm _ _ ht)
      have hl' : (dictText (PyData.shownKv (pyXk kvs))).length ≤ sizeLine := by simpa only [pyX, PyData.shown] using hz
      obtain ⟨bs, c1, c2⟩ := rkXk I hK sm kvs hx rk kv e4 (by simpa [pyX, PyData.showable] using hs) fun t ht => Nat.le_trans (dictText_mem_le ht) hl'
      have dp : (pyX (.dct kvs)).depth = PyData.depthKv (pyXk kvs) + 1 := by simp only [pyX, PyData.depth]
      refine wrap rfl ⟨o, e1, e2.1⟩ F.slot_dict_repr ?_
      refine call_dict_reprK e1 e2.1 e3 ns (not_mem_of_deeper rr (by omega) c1) c2 (A := X.A.in1) (g := []) hg (fun b _ => .nil b) (units (by omega)) (fun _ _ e => e) (fun h' t tk hk => ⟨_, _, rfl, ?_⟩) hl'
      have := fin h' t tk hk
      simp only [pyX, PyData.shown] at this
      exact this
  | obj _ _ => nomatch hx
  | dcT _ => nomatch hx
  | dk => nomatch hx
  | opq _ => nomatch hx
def reprX : FC := fun ds R => match ds with
  | [d] => showX d ∧ R (.str (shX d))
  | _ => False
theorem ok_reprX (hK : X.K = B.K) : OkRC B (rReprX X.K) reprX := by
  intro G γ σ H vs ds R Q S r h k
  unfold reprX at h
  split at h
  · cases r with
    | cons r1 r2 =>
      cases r2
      exact ⟨B.W, G, _, _, rfl, hK, S.sub, r1, h.1, k _ _ _ _ h.2 (Same.refl _) S (.str _)⟩
  · exact h.elim
end
mutual
theorem pyX_py : ∀ {d : D}, isPy d = true → isX d = true ∧ pyX d = py d
  | .non, _ => ⟨rfl, by simp only [pyX, py]⟩
  | .bl _, _ => ⟨rfl, by simp only [pyX, py]⟩
  | .int _, _ => ⟨rfl, by simp only [pyX, py]⟩
  | .str _, _ => ⟨rfl, by simp only [pyX, py]⟩
  | .tup ds, h => by
    obtain ⟨a, b⟩ := pyXs_py (ds := ds) h
    exact ⟨a, by simp only [pyX, py, b]⟩
  | .lst ds, h => by
    obtain ⟨a, b⟩ := pyXs_py (ds := ds) h
    exact ⟨a, by simp only [pyX, py, b]⟩
  | .dct _, h => nomatch h
  | .dcT _, h => nomatch h
  | .obj _ _, h => nomatch h
  | .dk, h => nomatch h
  | .opq _, h => nomatch h
theorem pyXs_py : ∀ {ds : List D}, isPys ds = true → isXs ds = true ∧ pyXs ds = pys ds
  | [], _ => ⟨rfl, by simp only [pyXs, pys]⟩
  | d :: ds, h => by
    have h : (isPy d && isPys ds) = true := h
    rw [Bool.and_eq_true] at h
    obtain ⟨a, b⟩ := pyX_py h.1
    obtain ⟨c, e⟩ := pyXs_py h.2
    exact ⟨by show (isX d && isXs ds) = true; rw [a, c]; rfl, by simp only [pyXs, pys, b, e]⟩
end
theorem showX_of {d : D} (h : showOk d) : showX d ∧ shX d = shownD d := by
  obtain ⟨a, b, _, c, e⟩ := h
  obtain ⟨i, j⟩ := pyX_py a
  exact ⟨⟨i, by rw [j]; exact b, by rw [j]; exact c, by rw [j]; exact e⟩, by unfold shX shownD; rw [j]⟩
end EL
namespace EL
open PySem PySem.Spec PyProof.Rows L2
/-! ### zip of a text of low signs and a tuple -/
abbrev nzA (h : Heap) (x : Str) (t : Tok) : Heap := h.push { cls := .type "str_ascii_iterator", data := .fields #[.str x t, .int 0 0] }
abbrev nzB (h : Heap) (x : Str) (t : Tok) (q : Addr) : Heap := (nzA h x t).push { cls := .type "tuple_iterator", data := .fields #[.ref q, .int 0 0] }
abbrev nzC (h : Heap) (x : Str) (t : Tok) (q : Addr) : Heap := (nzB h x t q).push { cls := .type "tuple", data := .seq #[.ref h.objs.size, .ref (nzA h x t).objs.size] }
abbrev nzD (h : Heap) (x : Str) (t : Tok) (q : Addr) : Heap := (nzC h x t q).push { cls := .type "tuple", data := .seq #[.none, .none] }
abbrev nzE (h : Heap) (x : Str) (t : Tok) (q : Addr) : Heap := (nzD h x t q).push { cls := .type "zip", data := .fields #[.none, .bool false, .bool false, .ref (nzB h x t q).objs.size, .ref (nzC h x t q).objs.size] }
theorem meets_nz (x : Str) (t : Tok) (q : Addr) (ys : Array Value) :
    Meets (Builtin.«zip.__new__» ⟨[.type "zip", .str x t, .ref q], []⟩) (fun _ R s => x.cps.all (· < 128) = true ∧ s.heap.IsTuple q ys ∧
      R (.ok (.ret (.ref (nzD s.heap x t q).objs.size))) { s with heap := nzE s.heap x t q }) :=
  .of_wp fun prog w A R s h => by
    obtain ⟨hp, gn, dr, tk, os⟩ := s
    obtain ⟨k1, k2, h⟩ := h
    have hsub := sub_zip
    have m2 : Heap.IsTuple (Shared.heap ⟨hp.push { cls := .type "str_ascii_iterator", data := .fields #[.str x t, .int 0 0] }, gn, dr, tk, os⟩) q ys := Heap.IsTuple.push k2 _
    wp_walk using wpAny_pyIter_ascii k1, wpAny_pyIter_tuple m2
    exact ⟨_, rfl, h⟩
section
variable {prog : Program} {w : World} {A : Around} {E : Value → Shared → Prop} {s : Shared}
theorem call_nz {x : Str} {t : Tok} {q : Addr} {ys : Array Value} {Q : Value → Shared → Prop} (k1 : x.cps.all (· < 128) = true) (k2 : s.heap.IsTuple q ys)
    (h : ∀ h', IsZip h' (s.heap.objs.size + 4) (s.heap.objs.size + 2) (s.heap.objs.size + 3) .none → PySem.IsTupOf2 h' (s.heap.objs.size + 2) (.ref s.heap.objs.size) (.ref (s.heap.objs.size + 1)) →
      PySem.IsTupOf2 h' (s.heap.objs.size + 3) .none .none → h'.IsStrIter s.heap.objs.size "str_ascii_iterator" x t 0 → h'.IsTupleIter (s.heap.objs.size + 1) q 0 →
      (∀ c o, s.heap.get? c = some o → h'.get? c = some o) → Q (.ref (s.heap.objs.size + 4)) { s with heap := h' }) :
    wpAny (model prog w) A (call (.type "zip") [.str x t, .ref q]) Q E s := by
  refine callType_new F.called_zip (by decide) (F.typeCall_zip_2 _ _) (F.newCall_zip_2 _ _) (fun obj => F.args_object_init_3 obj _ _) F.entry_zip_new (meets_nz x t q ys) ⟨k1, k2, ?_⟩
  have n1 : (nzA s.heap x t).objs.size = s.heap.objs.size + 1 := Heap.size_push ..
  have n2 : (nzB s.heap x t q).objs.size = s.heap.objs.size + 2 := by rw [Heap.size_push, n1]
  have n3 : (nzC s.heap x t q).objs.size = s.heap.objs.size + 3 := by rw [Heap.size_push, n2]
  have n4 : (nzD s.heap x t q).objs.size = s.heap.objs.size + 4 := by rw [Heap.size_push, n3]
  have e5 : (nzE s.heap x t q).get? (nzD s.heap x t q).objs.size = some _ := Heap.get?_push_size _ rfl
  have e4 : (nzE s.heap x t q).get? (nzC s.heap x t q).objs.size = some _ := Heap.get?_push_of_some _ (Heap.get?_push_size _ rfl)
  have e3 : (nzE s.heap x t q).get? (nzB s.heap x t q).objs.size = some _ := Heap.get?_push_of_some _ (Heap.get?_push_of_some _ (Heap.get?_push_size _ rfl))
  have e2 : (nzE s.heap x t q).get? (nzA s.heap x t).objs.size = some _ := Heap.get?_push_of_some _ (Heap.get?_push_of_some _ (Heap.get?_push_of_some _ (Heap.get?_push_size _ rfl)))
  have e1 : (nzE s.heap x t q).get? s.heap.objs.size = some _ := Heap.get?_push_of_some _ (Heap.get?_push_of_some _ (Heap.get?_push_of_some _ (Heap.get?_push_of_some _ (Heap.get?_push_size _ rfl))))
  show _ ∧ _
  rw [n2, n3, n4] at e5
  rw [n1, n2] at e3
  rw [n3] at e4
  rw [n1] at e2
  rw [n4]
  exact ⟨⟨_, e5, rfl⟩, h _ e5 e3 e4 ⟨_, e1, rfl, rfl⟩ ⟨_, e2, rfl, rfl⟩ fun c o x => Heap.get?_push_of_some _ (Heap.get?_push_of_some _ (Heap.get?_push_of_some _ (Heap.get?_push_of_some _ (Heap.get?_push_of_some _ x))))⟩
end
/-- the text and the tuple at b as it stands at each turn -/
def ItzS (K : PySem.W.Frag) (x : Str) (b : Addr) : It :=
  ⟨fun i H => ∃ (ys : List V) (c : Nat) (y : V), x.cps[i]? = some c ∧ SqT K H b ys ∧ ys[i]? = some y,
    fun i H v H' => ∃ T c y, v = .ref T ∧ H T = none ∧ H' = upd H T (.tup [.str ⟨#[c]⟩, y]) ∧ x.cps[i]? = some c ∧ ∀ ys, SqT K H b ys → ys[i]? = some y,
    fun i H => ∃ ys : List V, SqT K H b ys ∧ i ≤ x.cps.size ∧ i ≤ ys.length ∧ (i = x.cps.size ∨ i = ys.length)⟩
theorem nz_nin1 (x p : Nat) (h1 : x ≠ p) : (x : Addr) ∉ ([p] : List Addr) := fun e => h1 (List.mem_singleton.mp e)
theorem nz_sep (I b : Nat) (h2 : b < I) : ZipSep2 (I + 4) (I + 2) (I + 3) I (I + 1) [I] [I + 1, b] where
  TIz := (by omega : ¬ (I + 2 = I + 4))
  TOz := (by omega : ¬ (I + 3 = I + 4))
  TITO := (by omega : ¬ (I + 2 = I + 3))
  TIi1 := (by omega : ¬ (I + 2 = I))
  mem1 := List.mem_cons_self
  zf1 := nz_nin1 _ _ (by omega)
  Tf1 := nz_nin1 _ _ (by omega)
  TIi2 := (by omega : ¬ (I + 2 = I + 1))
  mem2 := List.mem_cons_self
  zf2 := mz_nin _ _ _ (by omega) (by omega)
  Tf2 := mz_nin _ _ _ (by omega) (by omega)
  sep1_2 := mz_nin _ _ _ (by omega) (by omega)
  sep2_1 := nz_nin1 _ _ (by omega)
theorem turn_nz {P : Program} {w : World} {K : PySem.W.Frag} {elts : List Expr} {kk : Nat} {tpos : Pos} {x : Str} {t : Tok} {b z TI TO i1 i2 : Addr} (D : ZipSep2 z TI TO i1 i2 [i1] [i2, b]) (nb : b ≠ i2) (n12 : i1 ≠ i2) :
    Turn P w K (.Tuple elts kk tpos) (ItzS K x b) [z, TI, TO, i1, i2] z (fun i h => IsZip h z TI TO .none ∧ IsTupOf2 h TI (.ref i1) (.ref i2) ∧ (∃ x y, IsTupOf2 h TO x y) ∧ h.IsStrIter i1 "str_ascii_iterator" x t i ∧ h.IsTupleIter i2 b i) where
  mem := by simp
  obj := fun i h st c hc => by
    obtain ⟨s1, s2, ⟨x, y, s3⟩, ⟨o1, e1, _, d1⟩, ⟨o2, e2, _, d2⟩⟩ := st
    have e' : c = z ∨ c = TI ∨ c = TO ∨ c = i1 ∨ c = i2 := by simpa using hc
    rcases e' with q | q | q | q | q <;> rw [q]
    · exact ⟨_, s1, fun v q => nomatch q⟩
    · exact ⟨_, s2, fun v q => nomatch q⟩
    · exact ⟨_, s3, fun v q => nomatch q⟩
    · exact ⟨o1, e1, fun v q => by rw [d1] at q; cases q⟩
    · exact ⟨o2, e2, fun v q => by rw [d2] at q; cases q⟩
  keep := fun i h h' st k => by
    obtain ⟨s1, s2, ⟨x, y, s3⟩, ⟨o, s4, r⟩, s5⟩ := st
    exact ⟨k z (by simp) _ s1, k TI (by simp) _ s2, ⟨x, y, k TO (by simp) _ s3⟩, ⟨o, k i1 (by simp) o s4, r⟩, s5.at fun o q => k i2 (by simp) o q⟩
  item := by
    intro X hP hw hK hc i pins s σ H E I hf st hg
    subst hP hw hK
    obtain ⟨t1, t2, ⟨x0, y0, t3⟩, t4, t5⟩ := st
    obtain ⟨ys, cp, y, gx, qy, gy⟩ := hg
    obtain ⟨vs, rv, pv, _⟩ := I.tuple qy
    obtain ⟨v, hv, r2⟩ := rv.get gy
    have hh : X.A.in1.handled = none := I.ok.hd hc
    have b1 : i < x.cps.size := (Array.getElem?_eq_some_iff.mp gx).1
    have b2 : i < vs.toArray.size := by have := (List.getElem?_eq_some_iff.mp hv).1; simpa using this
    have zl : z < s.heap.objs.size := Heap.lt_size t1
    refine wpAny_pyNext_zipD2_item D (Draws.strAscii hh i1 x t) (Draws.tuple hh i2 b nb vs.toArray) t1 t2 t3 t4 ⟨t5, pv⟩ b1 b2 fun x1 x2 h' tk p1 p2 z' o' s4 s5 nw sz hk => ?_
    obtain ⟨c1, u1, p1, rfl⟩ := p1
    rw [gx] at p1
    cases p1
    have e2 : v = x2 := by have : vs.toArray[i]? = some x2 := p2; rw [List.getElem?_toArray, hv] at this; exact Option.some.inj this
    subst e2
    refine ⟨_, rfl, wpAny_letOwnedTupleGo_zip (s := { s with heap := h', toks := tk }) z' fun h'' z'' sb => ?_⟩
    have nw2 : h''.get? s.heap.objs.size = some { cls := .type "tuple", data := .seq #[.str ⟨#[cp]⟩ u1, v] } := (sb.2 _ (Nat.ne_of_gt zl)).trans nw
    have new : ObjOk X.prog X.w (upd H s.heap.objs.size (.tup [.str ⟨#[cp]⟩, y])) h'' s.heap.objs.size (.tup [.str ⟨#[cp]⟩, y]) :=
      ⟨by show 2 ≤ sizeLine; decide, [_, v], .cons ⟨_, rfl⟩ (.cons r2 .nil), ⟨_, nw2, rfl, _, rfl⟩⟩
    have I1 : Inv X pins σ (upd H s.heap.objs.size (.tup [.str ⟨#[cp]⟩, y])) { s with heap := h'', toks := tk } :=
      I.turnedNew (t' := tk) (ch := [z, TI, TO, i1, i2]) (fun c o hb q => (sb.2 c (fun q' => hb (by simp [q']))).trans (hk c o (fun q' => hb (by simp [q'])) (fun q' => hb (by simp [q'])) (fun q' => hb (by simp [q'])) (fun q' => hb (by simp [q'])) q)) hf (Nat.le_refl _) new
    refine ⟨.ref s.heap.objs.size, _, I1, rfl, ⟨_, cp, y, rfl, I.hok.fresh (Nat.le_refl _), rfl, gx, fun l hl => by rw [I.tuple_inj hl qy]; exact gy⟩, ⟨z'', ?_, ⟨.str ⟨#[cp]⟩ u1, v, ?_⟩, ?_, ?_⟩, fun c hcm => ?_⟩
    · exact (sb.2 _ D.TIz).trans (hk _ _ D.TIz D.TITO D.TIi1 D.TIi2 t2)
    · exact (sb.2 _ D.TOz).trans o'
    · obtain ⟨o4, q4, r4⟩ := s4
      exact ⟨o4, (sb.2 _ D.zi1.symm).trans q4, r4⟩
    · exact s5.1.at fun o q => (sb.2 _ D.zi2.symm).trans q
    · obtain ⟨_, e4, _⟩ := t4
      obtain ⟨_, e5, _⟩ := t5
      have hlt : c < s.heap.objs.size := by
        have e' : c = z ∨ c = TI ∨ c = TO ∨ c = i1 ∨ c = i2 := by simpa using hcm
        rcases e' with q | q | q | q | q <;> rw [q]
        · exact zl
        · exact Heap.lt_size t2
        · exact Heap.lt_size t3
        · exact Heap.lt_size e4
        · exact Heap.lt_size e5
      rw [upd_ne (Nat.ne_of_lt hlt)]
      exact (hf c hcm).1
  done := by
    intro X hP hw hK hc i pins s σ H E I hf st hg
    subst hP hw hK
    obtain ⟨t1, t2, ⟨x0, y0, t3⟩, t4, t5⟩ := st
    obtain ⟨ys, qy, l1, l2, hend⟩ := hg
    obtain ⟨vs, rv, pv, _⟩ := I.tuple qy
    have k2 := rv.length
    have hh : X.A.in1.handled = none := I.ok.hd hc
    have z2 : vs.toArray.size = ys.length := by rw [List.size_toArray]; exact k2.symm
    exact wpAny_pyNext_zipD2_end D (Draws.strAscii hh i1 x t) (Draws.tuple hh i2 b nb vs.toArray) t1 t2 t3 t4 ⟨t5, pv⟩ l1 (by rw [z2]; exact l2) (by rw [z2]; exact hend) fun h' tk hk =>
      ⟨rfl, I.turnedL (t' := tk) (ch := [z, TI, TO, i1, i2]) (fun c o hb q => hk c o (fun q' => hb (by simp [q'])) (fun q' => hb (by simp [q'])) (fun q' => hb (by simp [q'])) (fun q' => hb (by simp [q'])) q) hf⟩
  self := fun A i s Q E st h => wpAny_pyIter_zip st.1 h
def iZipS (K : PySem.W.Frag) (ta : TA) : TI := fun σ H R => ta σ H fun vs H1 => ∃ x b ys, vs = [.str x, .ref b] ∧ x.cps.all (· < 128) = true ∧ SqT K H1 b ys ∧ R (ItzS K x b) H1
theorem pi_zipS {X : Cx} {e e2 : Expr} {ta : TA} {p pos tpos : Pos} {elts : List Expr} {kk : Nat} (hg : Gl X "zip") (hm : X.mg "zip" = none) (ha : PA X [e, e2] ta)
    (hs : starEach [e, e2] X.env = (false, eval e X.env) :: starEach [e2] X.env := by rfl) (hpl : (backTo pos (starEach [e2] X.env)).any (·.1) = false := by rfl) : PI X (.Tuple elts kk tpos) (.Call (.Name "zip" p) [e, e2] [] pos) (iZipS X.K ta) := by
  refine ⟨fun pins s σ H R I h => Call_ (ld_blt I hg hm PyProof.Rows.boot_zip (PyProof.Rows.callWith_type1 (thn (ha.run pos pins s σ H _ I h) fun us s1 ⟨vs, H1, I1, r1, x, b, ys, ex, hx, qy, q⟩ => ?_) hs hpl))⟩
  subst ex
  cases r1 with
  | cons ra rr =>
  cases rr with
  | cons rb rr =>
  cases rr
  obtain ⟨t, rfl⟩ := ra
  cases rb
  let n := s1.heap.objs.size
  have fp : ∀ c, c ∈ [n + 4, n + 2, n + 3, n, n + 1] → FpOk X pins H1 c := fun c hc => by
    have hle : n ≤ c := by
      have e' : c = n + 4 ∨ c = n + 2 ∨ c = n + 3 ∨ c = n ∨ c = n + 1 := by simpa using hc
      rcases e' with z | z | z | z | z <;> rw [z]
      · exact Nat.le_add_right _ _
      · exact Nat.le_add_right _ _
      · exact Nat.le_add_right _ _
      · exact Nat.le_refl _
      · exact Nat.le_add_right _ _
    exact I1.fpOk hle (I1.hok.fresh hle)
  obtain ⟨l2, v2, p2, _⟩ := I1.tuple qy
  obtain ⟨o2, w2, _⟩ := id p2
  have lb : b < n := Heap.lt_size w2
  exact call_nz hx (show s1.heap.IsTuple b l2.toArray from p2) fun h' hz hTI hTO h1 h2 hk => wpAny_pyIter_zip hz
    ⟨n + 4, [n + 4, n + 2, n + 3, n, n + 1], _, _, H1, rfl, I1.kept (t' := s1.toks) hk, turn_nz (nz_sep n b lb) (Nat.ne_of_lt (Nat.lt_succ_of_lt lb)) (Nat.ne_of_lt (Nat.lt_succ_self n)), ⟨hz, hTI, ⟨_, _, hTO⟩, h1, h2⟩, fp, q⟩
/-- the signs of a text, with things -/
def zipS (x : Str) (ds : List D) : List D := (x.cps.toList.zip ds).map fun p => .tup [.str ⟨#[p.1]⟩, p.2]
theorem zipS_get {x : Str} {ds : List D} {i : Nat} {c : D} (h : (zipS x ds)[i]? = some c) : ∃ k d, x.cps[i]? = some k ∧ ds[i]? = some d ∧ c = .tup [.str ⟨#[k]⟩, d] := by
  unfold zipS at h
  rw [List.getElem?_map] at h
  cases q : (x.cps.toList.zip ds)[i]? with
  | none => rw [q] at h; cases h
  | some p =>
    rw [q] at h
    injection h with h
    obtain ⟨a, b⟩ := p
    obtain ⟨h1, h2⟩ := List.getElem?_zip_eq_some.mp q
    exact ⟨a, b, by rw [← Array.getElem?_toList]; exact h1, h2, h.symm⟩
section
variable {B : Bs} {G1 : Hp}
theorem walkD_nz {x : Str} {b : Addr} {us : List V} {es : List D} (h' : SqT B.K G1 b us) (r' : RpAll B.W G1 us es) : WalkD B (ItzS B.K x b) G1 (zipS x es) := fun H0 G γ σ H sm S => by
  have hs' : SqT B.K H b us := sqT_mono S.sub (sqT_mono sm h')
  have el : (zipS x es).length = min x.cps.size es.length := by
    unfold zipS
    rw [List.length_map, List.length_zip, Array.length_toList]
  refine ⟨⟨us, hs', ?_⟩, fun i c hc => ?_⟩
  · rw [el, r'.len]
    omega
  obtain ⟨k, e, hd, he, rfl⟩ := zipS_get hc
  obtain ⟨u, hu, ru⟩ := r'.get he
  refine ⟨⟨us, k, u, hd, hs', hu⟩, fun x' H' ⟨T, c', y', g1, g2, g3, g4, g5⟩ => ?_⟩
  have e2 := g5 us hs'
  rw [hu] at e2
  rw [hd] at g4
  cases g4
  cases e2
  subst g1 g3
  exact pair_step (B := withH B H0) S (.str _) (ru.mono sm) g2
def iZipTS (t : DA) : DA := fun γ R => t γ fun ds γ1 => match ds with
  | [.str x, .tup ys] => x.cps.all (· < 128) = true ∧ R (zipS x ys) γ1
  | _ => False
theorem i_zipS {tg it : Expr} {X : Cx} {t : DA} (h : PI X tg it (iZipS B.K (tDA B t))) : PI X tg it (tDI B (iZipTS t)) := pi_imp h fun σ H R' ⟨G, γ, R, S, h, k⟩ => ⟨G, γ, _, S, h, fun ds γ1 G1 vs H1 q sm S1 r => by
  split at q
  · cases r with
    | cons r1 r2 =>
    cases r2 with
    | cons r2 r3 =>
    cases r3
    cases rpStr r1
    cases r2 with
    | tup hs ra => exact ⟨_, _, _, rfl, q.1, hs.sq S1.sub, k _ _ _ _ _ q.2 sm S1 (walkD_nz hs.sq0 ra)⟩
  · exact q.elim⟩
end
section
variable {X : Cx} {B : Bs} {a b c : Expr} {ta tb tc : DT} {pos : Pos}
/-! ### a < b < c -/
def bChain (f f' : FP) (ta tb tc : DT) : DB := fun γ R => ta γ fun x γ1 => tb γ1 fun y γ2 => f x y fun p => (p → tc γ2 fun z γ3 => f' y z fun q => R q γ3) ∧ (¬p → R False γ2)
theorem b_chain {op op' : CmpOp} {r r' : R2} {f f' : FP} (ho : OpR X (compareOp op) r) (ho' : OpR X (compareOp op') r') (hr : OkRP B r f) (hr' : OkRP B r' f') (ha : PE X a (tD B ta)) (hb : PE X b (tD B tb)) (hc : PE X c (tD B tc))
    (hm : lastMarks [op, op'] [b, c] = false := by with_unfolding_all rfl) : PT X (.Compare a [op, op'] [b, c] pos) (tDB B (bChain f f' ta tb tc)) :=
  pt_imp (pt_chain ho ho' ha hb hc hm) fun σ H Q ⟨G, γ, R, S, h, k⟩ =>
    ⟨G, γ, _, S, h, fun d γ1 G1 v H1 h1 s1 S1 r1 => ⟨G1, γ1, _, S1, h1, fun e γ2 G2 u H2 h2 s2 S2 r2 => hr _ _ _ _ _ _ _ _ _ _ S2 (r1.mono s2) r2 h2 fun p x G3 H3 ⟨h3, h4⟩ hp s3 S3 => ⟨x, rfl, by
      cases x with
      | true =>
        rw [if_pos rfl]
        exact ⟨G3, γ2, _, S3, h3 (hp.mp rfl), fun z γ4 G4 y H4 h5 s4 S4 r4 => hr' _ _ _ _ _ _ _ _ _ _ S4 ((r2.mono s3).mono s4) r4 h5 fun q x5 G5 H5 h6 hq s5 S5 => ⟨x5, rfl, k _ _ _ _ _ h6 hq (s1.trans (s2.trans (s3.trans (s4.trans s5)))) S5⟩⟩
      | false =>
        rw [if_neg (by decide)]
        exact ⟨false, rfl, k _ _ _ _ _ (h4 fun h => by have := hp.mpr h; cases this) (by simp) (s1.trans (s2.trans s3)) S3⟩⟩⟩⟩
def leSP : FP := fun d e R => match d, e with
  | .str i, .str j => R (¬ strLt j i)
  | _, _ => False
theorem ok_leSP : OkRP B (fun x y H Q => ∃ i j, x = .str i ∧ y = .str j ∧ Q (.bl (!decide (j.cps.toList < i.cps.toList))) H) leSP := by
  intro G γ σ H x y d e R Q S rx ry h k
  unfold leSP at h
  split at h
  · cases rpStr rx
    cases rpStr ry
    exact ⟨_, _, rfl, rfl, k _ _ _ _ h (by unfold strLt; simp) (Same.refl _) S⟩
  · exact h.elim
end
end EL
namespace EL
open PySem PySem.Spec PyProof.Rows L2
section
variable {X : Cx} {B : Bs} {e a b : Expr} {t ta tb : DT} {pos : Pos}
/-! ### a tuple == () -/
def rEqT0 (K : PySem.W.Frag) : R2 := fun x y H Q => ∃ (p q : Addr) (xs : List V), x = .ref p ∧ y = .ref q ∧ SqT K H p xs ∧ SqT K H q [] ∧ Q (.bl xs.isEmpty) H
theorem op_eqT0 {n : Nat} (hr : Room n X.A) : OpR X (compareOp .Eq) (rEqT0 X.K) := by
  intro pins s σ H x y v u Q I rx ry h
  obtain ⟨p, q, xs, rfl, rfl, h1, h2, k⟩ := h
  obtain rfl : v = Value.ref p := rx
  obtain rfl : u = Value.ref q := ry
  obtain ⟨its, rv, p1, _⟩ := I.tuple h1
  obtain ⟨its2, rv2, p2, _⟩ := I.tuple h2
  have hu := hr.units
  cases rv2
  refine PySem.SeqAt.eq_tupleAt (e := fun _ => true) (show s.heap.IsTuple p its.toArray from p1) (show s.heap.IsTuple q ([] : List Value).toArray from p2) (by omega) (fun j h1 h2 => absurd h2 (Nat.not_lt_zero j)) ?_
  have e : ((List.range (min its.toArray.size ([] : List Value).toArray.size)).all (fun _ => true) && its.toArray.size == ([] : List Value).toArray.size) = xs.isEmpty := by
    have hl := rv.length
    cases xs with
    | nil => cases its with
      | nil => rfl
      | cons _ _ => cases hl
    | cons _ _ => cases its with
      | nil => cases hl
      | cons _ _ => simp
  rw [e]
  exact ⟨.bl _, H, I, rfl, k⟩
def eqT0 : FP := fun d e R => match d, e with
  | .tup xs, .tup [] => R (xs = [])
  | _, _ => False
theorem ok_eqT0 (hK : X.K = B.K) : OkRP B (rEqT0 X.K) eqT0 := by
  intro G γ σ H x y d e R Q S rx ry h k
  rw [hK]
  unfold eqT0 at h
  split at h
  · cases rx with
    | tup hs ra =>
    cases ry with
    | tup hs' ra' =>
      cases ra'
      refine ⟨_, _, _, rfl, rfl, hs.sq S.sub, hs'.sq S.sub, k _ _ _ _ h ?_ (Same.refl _) S⟩
      cases ra with
      | nil => simp
      | cons _ _ => simp
  · exact h.elim
/-! ### s.upper() -/
def upS (z : Str) : Str := Txt.upper z
theorem mt_upperA : MtR X "str.upper" (fun x xs H Q => ∃ a, x = .str a ∧ xs = [] ∧ ((∀ c ∈ a.cps.toList, c < 128) ∧ a.length ≤ 1000000) ∧ Q (.str (upS a)) H) :=
  mt0 (C := fun a => (∀ c ∈ a.cps.toList, c < 128) ∧ a.length ≤ 1000000) (g := fun a => .str (upS a)) fun a t s Q hc h => PySem.SC.upper (by
    have e := upper_ascii hc.1
    have : (Txt.upper a).length = a.length := by rw [e]; simp [Str.length]
    unfold Builtin.Str.tooLong
    rw [this]
    have := hc.2
    simp
    unfold sizeLine
    omega) (h _ _ ⟨_, rfl⟩)
def dUp (t : DT) : DT := fun γ R => t γ fun x γ1 => match x with
  | .str z => ((∀ c ∈ z.cps.toList, c < 128) ∧ z.length ≤ 1000000) ∧ R (.str (upS z)) γ1
  | _ => False
theorem d_up (h : PE X e (tM0 (fun x xs H Q => ∃ a, x = .str a ∧ xs = [] ∧ ((∀ c ∈ a.cps.toList, c < 128) ∧ a.length ≤ 1000000) ∧ Q (.str (upS a)) H) (tD B t))) : PE X e (tD B (dUp t)) := pe_imp h fun σ H Q ⟨G, γ, R, S, h, k⟩ =>
  ⟨G, γ, _, S, h, fun d γ1 G1 v H1 h1 s1 S1 r1 => by
    split at h1
    · cases rpStr r1
      exact ⟨⟨_, rfl⟩, _, rfl, rfl, h1.1, k _ _ _ _ _ h1.2 s1 S1 (.str _)⟩
    · exact h1.elim⟩
end
theorem up_low {z : Str} (h : ∀ c ∈ z.cps.toList, c < 128) : (∀ c ∈ (upS z).cps.toList, c < 128) ∧ (upS z).length = z.length := by
  unfold upS
  rw [upper_ascii h]
  refine ⟨fun c hc => ?_, by simp [Str.length]⟩
  have hc : c ∈ (z.cps.map up1).toList := hc
  rw [Array.toList_map] at hc
  obtain ⟨d, hd, rfl⟩ := List.mem_map.mp hc
  have := h d hd
  unfold up1
  split <;> omega
theorem str_low (i : Int) : ∀ c ∈ (Str.ofString (toString i)).cps.toList, c < 128 := fun c hc => by
  have := PyProof.Rows.signs_ofString (toString i)
  rw [this] at hc
  obtain ⟨k, hk, rfl⟩ := List.mem_map.mp hc
  exact PySem.int_ascii i k hk
end EL
namespace EL
open PySem PySem.Spec PyProof.Rows L2
section
variable {X : Cx} {B : Bs} {G G' G1 : Hp} {γ γ' : Gm} {σ σ' : L2.St} {H H' : Hp} {e a b : Expr} {ta tb t : DT} {pos : Pos} {st : Stmt} {p : Addr} {o o' : HO}
/-! ### a dict gone through -/
def dcD (bd : BdT) (tt : DB) (tk tv : DT) (vs : List Nat) : List D → List (Key × D) → Gm → (List (Key × D) → Gm → Prop) → Prop
  | [], acc, γ, R => R acc (wipeS γ vs)
  | d :: ds, acc, γ, R => bd d γ fun γ2 => tt γ2 fun p γ3 => (p → tk γ3 fun c γ4 => tv γ4 fun e γ5 => ∃ key, keyD c = some key ∧ dcD bd tt tk tv vs ds (setK key e acc) (wipeS γ5 vs) R) ∧ (¬p → dcD bd tt tk tv vs ds acc (wipeS γ3 vs) R)
def fDc (t : DA) (bd : BdT) (tt : DB) (tk tv : DT) (vs : List Nat) : DKv := fun γ R => t γ fun ds γ1 => ds.length ≤ 1000000 ∧ dcD bd tt tk tv vs ds [] (wipeS γ1 vs) R
theorem dc_run {t : DA} {bd : BdT} {tt : DB} {tk tv : DT} {vs : List Nat} : ∀ σ H Q, tDFd B (fDc t bd tt tk tv vs) σ H Q → tDc (tDI B t) (tDGx B vs bd) (tDBx B tt) (tDx B tk) (tDx B tv) vs σ H Q := fun σ H Q ⟨G, γ, R, S, h, k⟩ => by
  refine ⟨G, γ, _, S, h, fun ds γ1 G1 H1 J ⟨lim, q⟩ sm S1 w Dd hD => ?_⟩
  have hg0 : B.G0 Dd = none := S1.sub0.free (S1.sub.free hD)
  have hh0 := S1.free0 hD
  have hdk : ∀ d c, B.W.dk = some (d, c) → B.H0 d ≠ none ∧ B.H0 c ≠ none := fun d c e => ⟨(S1.dkok d c e).2.1, (S1.dkok d c e).2.2.1⟩
  refine ⟨fun i m H => ∃ G γ us acc, m = ds.length - i ∧ i ≤ ds.length ∧ acc.length ≤ i ∧ Same G1 G ∧ DstG B G γ (wipe σ vs) H ∧ H Dd = some (.dK us) ∧ RpKv B.W G us acc ∧ G Dd = none ∧ NoSlot γ.sl Dd ∧ dcD bd tt tk tv vs (ds.drop i) acc γ R,
    ⟨_, G1, wipeS γ1 vs, [], [], rfl, Nat.zero_le _, Nat.le_refl _, Same.refl _, (S1.laid (o := .dK []) (fun _ z => nomatch z) hD).wiped vs, upd_same, .nil, S1.sub.free hD, (S1.noslot hD).wipe vs, q⟩, ?_⟩
  rintro i m H2 ⟨G2, γ2, us, acc, rfl, hi, hacc, sm2, S2, hu, ra, hg, hn, q2⟩
  have S2h := S2.hide hu hg hh0 hn
  obtain ⟨w1, w2⟩ := w _ G2 γ2 _ H2 sm2 S2h
  by_cases hlt : i < ds.length
  · right
    obtain ⟨go, y⟩ := w2 i _ (List.getElem?_eq_getElem hlt)
    rw [List.drop_eq_getElem_cons hlt] at q2
    refine ⟨go, fun H' => ∃ G γ us acc, acc.length ≤ i + 1 ∧ Same G1 G ∧ DstG B G γ (wipe σ vs) H' ∧ H' Dd = some (.dK us) ∧ RpKv B.W G us acc ∧ G Dd = none ∧ NoSlot γ.sl Dd ∧ dcD bd tt tk tv vs (ds.drop (i + 1)) acc γ R,
      fun H' ⟨G3, γ3, us, acc, z⟩ => ⟨ds.length - (i + 1), by omega, G3, γ3, us, acc, rfl, hlt, z⟩, fun x H' yy => ?_⟩
    obtain ⟨G3, s3, S3, r3⟩ := y x H' yy
    refine ⟨upd B.H0 Dd (.dK us), G3, γ2, _, _, S3, r3, q2, fun γ4 σ4 q4 S4 w4 => ⟨w4.trans (wipe_wipe σ vs), ?_⟩⟩
    have w4' : wipe σ4 vs = wipe σ vs := w4.trans (wipe_wipe σ vs)
    have s13 : Same G1 G3 := sm2.trans s3
    refine ⟨_, G3, γ4, _, S4, q4, fun pp b γ5 G5 H5 ⟨h1, h2⟩ hpb s5 S5 => ?_⟩
    cases b with
    | true =>
      refine iteT ?_
      refine ⟨_, G5, γ5, _, S5, h1 (hpb.mp rfl), fun c γ6 G6 v H6 q6 s6 S6 r6 => ⟨_, G6, γ6, _, S6, q6, fun e7 γ7 G7 v7 H7 ⟨key, hk, q7⟩ s7 S7 r7 => ?_⟩⟩
      obtain ⟨S7', hu7, hg7, hn7⟩ := S7.unhide hh0 hg0 hdk
      have ra7 := ra.mono (s3.trans (s5.trans (s6.trans s7)))
      have hl : acc.length < 1000000 := by omega
      refine ⟨us, key, rp_key r6 hk, hu7, by rw [ra7.len]; exact Nat.lt_of_lt_of_le hl (by decide), G7, wipeS γ7 vs, putK us key v7, setK key e7 acc, Nat.le_trans (setK_len acc) (Nat.succ_le_succ hacc), s13.trans (s5.trans (s6.trans s7)), ?_, upd_same, rp_putK r7 ra7, hg7, hn7.wipe vs, q7⟩
      rw [← w4']
      exact (S7'.wiped vs).offed (fun _ z => nomatch z) hg7 hh0 (hn7.wipe vs)
    | false =>
      refine iteF ?_
      obtain ⟨S5', hu5, hg5, hn5⟩ := S5.unhide hh0 hg0 hdk
      refine ⟨G5, wipeS γ5 vs, us, acc, by omega, s13.trans s5, ?_, hu5, ra.mono (s3.trans s5), hg5, hn5.wipe vs, h2 fun z => nomatch hpb.mpr z⟩
      rw [← w4']
      exact S5'.wiped vs
  · left
    have e : i = ds.length := by omega
    subst e
    rw [List.drop_length] at q2
    exact ⟨w1, k _ _ _ _ _ _ q2 (sm.trans sm2) S2.unwipe hu ra hh0 hg (hn.wipe vs)⟩
theorem f_dc {t : DA} {bd : BdT} {tt : DB} {tk tv : DT} {vs : List Nat} (h : PE X e (tDc (tDI B t) (tDGx B vs bd) (tDBx B tt) (tDx B tk) (tDx B tv) vs)) : PE X e (tDFd B (fDc t bd tt tk tv vs)) := pe_imp h dc_run
/-! ### a list and two dicts, new, stored at once -/
def sParL2D (i j l : Nat) : DS := fun E γ => ∀ p q r, E.nx (putS (putS (putS γ i (.own p [])) j (.ownD q [])) l (.ownD r []))
theorem s_parL2D {i j l : Nat} (hij : i ≠ j) (hil : i ≠ l) (hjl : j ≠ l) (h : PS X st (tPar3 i j l (tCons (tLst tNil) (tCons tDNewK (tCons tDNewK tNil))))) : PS X st (tDS B (sParL2D i j l)) := ps_imp h fun De σ H ⟨G, γ, E, S, h, F⟩ => by
  refine ⟨by show 0 ≤ sizeLine; decide, fun p hp q hq r hr => ?_⟩
  have S1 := S.laid (o := .lst []) (fun _ z => nomatch z) hp
  have S2 := S1.laid (o := .dK []) (fun _ z => nomatch z) hq
  have S3 := S2.laid (o := .dK []) (fun _ z => nomatch z) hr
  have hqp : q ≠ p := fun z => by rw [z, upd_same] at hq; cases hq
  have hrq : r ≠ q := fun z => by rw [z, upd_same] at hr; cases hr
  have hrp : r ≠ p := fun z => by rw [z, upd_ne hqp.symm, upd_same] at hr; cases hr
  have np := S.noslot hp
  have nq := S1.noslot hq
  have nr := S2.noslot hr
  have q2 := h p q r
  rw [putS_eq, putS_eq, putS_eq] at q2
  refine ⟨_, _, _, rfl, ?_⟩
  have S4 := slot_set S3 (i := i) (v := .ref p) (s := .own p []) ⟨rfl, [], by rw [upd_ne hrp.symm, upd_ne hqp.symm, upd_same], .nil⟩ (fun p' hp' => by
    cases List.mem_singleton.mp hp'
    exact ⟨S.free0 hp, S.sub.free hp, fun j t _ e => np j t e⟩)
  have S5 := slot_set S4 (i := j) (v := .ref q) (s := .ownD q []) ⟨rfl, [], by rw [upd_ne hrq.symm, upd_same], .nil⟩ (fun p' hp' => by
    cases List.mem_singleton.mp hp'
    refine ⟨S1.free0 hq, S1.sub.free hq, fun j' t hj e => ?_⟩
    by_cases z : i = j'
    · subst z
      by_cases li : i < γ.sl.length
      · rw [List.getElem?_set_self li] at e
        cases e
        exact fun z => hqp (List.mem_singleton.mp z)
      · rw [List.getElem?_eq_none (by rw [List.length_set]; omega)] at e
        cases e
    · rw [List.getElem?_set_ne z] at e
      exact nq j' t e)
  have S6 := slot_set S5 (i := l) (v := .ref r) (s := .ownD r []) ⟨rfl, [], upd_same, .nil⟩ (fun p' hp' => by
    cases List.mem_singleton.mp hp'
    refine ⟨S2.free0 hr, S2.sub.free hr, fun j' t hj e => ?_⟩
    by_cases z2 : j = j'
    · subst z2
      by_cases li : j < (γ.sl.set i (.own p [])).length
      · rw [List.getElem?_set_self li] at e
        cases e
        exact fun z => hrq (List.mem_singleton.mp z)
      · rw [List.getElem?_eq_none (by rw [List.length_set]; omega)] at e
        cases e
    rw [List.getElem?_set_ne z2] at e
    by_cases z : i = j'
    · subst z
      by_cases li : i < γ.sl.length
      · rw [List.getElem?_set_self li] at e
        cases e
        exact fun z => hrp (List.mem_singleton.mp z)
      · rw [List.getElem?_eq_none (by rw [List.length_set]; omega)] at e
        cases e
    · rw [List.getElem?_set_ne z] at e
      exact nr j' t e)
  exact F.nx _ _ _ _ q2 (Same.refl _) S6
/-! ### sorted(a dict of texts): its keys, in some order -/
def fSortD (ta : DA) : DA := fun γ R => ta γ fun ds γ1 => match ds with
  | [.dct kvs] => ∃ ks : List Str, kvs.map (·.1) = ks.map Sum.inr ∧ ks.length < 64 ∧ ∀ ys : List Str, ys.Perm ks → R (ys.map D.str) γ1
  | _ => False
theorem RpKv.keys' {W : Cw} : ∀ {vs : List (Key × V)} {ds : List (Key × D)}, RpKv W G vs ds → vs.map (·.1) = ds.map (·.1)
  | _, _, .nil => rfl
  | _, _, .cons _ t => by rw [List.map_cons, List.map_cons, RpKv.keys' t]
theorem f_sortD {ta : DA} (h : PE X e (tCB (fun xs H Q => ∃ (a : Addr) (kvs : List (Key × V)) (ks : List Str), xs = [.ref a] ∧ Rd H a (.dK kvs) ∧ kvs.map (·.1) = ks.map Sum.inr ∧ ks.length < 64 ∧ ∀ (ys : List Str) (p : Addr), ys.Perm ks → sortedS ys = true → H p = none → Q (.ref p) (upd H p (.lst (ys.map V.str)))) (tDA B ta))) :
    PE X e (tDF B (fSortD ta)) := pe_imp h fun σ H Q ⟨G, γ, R, S, h, k⟩ =>
  ⟨G, γ, _, S, h, fun ds γ1 G1 vs H1 q sm S1 r => by
    split at q
    · rename_i kvs
      obtain ⟨ks, e1, e2, hR⟩ := q
      cases r with
      | cons r1 r2 =>
        cases r2
        cases r1 with
        | dct hs ra =>
          refine ⟨_, _, ks, rfl, .inl (S1.sub _ _ hs), (RpKv.keys' ra).trans e1, e2, fun ys p py _ hp => ?_⟩
          exact k _ _ _ _ _ _ (hR ys py) sm (S1.laid (fun _ z => nomatch z) hp) upd_same (strs_rp ys) (S1.free0 hp) (S1.sub.free hp) (S1.noslot hp)
    · exact q.elim⟩
end
end EL
namespace EL
open PySem PySem.Spec PyProof.Rows L2
section
variable {prog : Program} {w : World} {A : Around} {E : Value → Shared → Prop} {s : Shared}
/-- str of an object, by what strOf makes of it -/
theorem call_str_at {a : Addr} {Q : Value → Shared → Prop} (h : wpAny (model prog w) A.in1.in1 (Builtin.Str.strOf (.ref a)) (fun r s' => s'.TypeIs r "str" ∧ Q r s') E s) : wpAny (model prog w) A (call (.type "str") [.ref a]) Q E s := by
  refine callType_codes F.called_str (F.typeCall_str_1 _) F.entry_object_init (Q₁ := fun r s' => s'.TypeIs r "str" ∧ Q r s')
    (codeAny_call_builtin F.called_str.plain F.entry_str_new (wpAny_of_eq (F.newCall_str_1 _) ?_)) fun obj s₁ hq => ⟨hq.1, F.args_object_init_2 _ _, ?_⟩
  · rw [str_new_tree]
    refine wpAny_bind (wpAny_pure ?_)
    refine wpAny_bind (wpAny_of_eq isSubtype_str_str ?_)
    exact wpAny_bind (wpAny_mono h (fun r s' h' => wpAny_pure h') fun _ _ e => e)
  · exact object_init_meets F.called_str.init.lookup F.called_str.made (by decide) prog w A.in1 (wants (fun r s₂ => r = .none ∧ Q obj s₂) E) s₁ ⟨hq.1, ⟨rfl, hq.2⟩⟩
end
section
variable {X : Cx} {B : Bs}
def strX : D → Str
  | .str z => z
  | d => shX d
def rStrX (K : PySem.W.Frag) : List V → Hp → VK → Prop := fun xs H Q => ∃ (W : Cw) (G : Hp) (d : D) (v : V), xs = [v] ∧ K = W.K ∧ Same G H ∧ Rp W G v d ∧ showX d ∧ Q (.str (strX d)) H
theorem cr_strX {k : Nat} (hg : X.A.guards = some []) (hr : Room k X.A) : CallR X (.type "str") (rStrX X.K) := by
  intro pins s σ H xs us Q I r h
  obtain ⟨W, G, d, v, rfl, hK, sm, rd, ⟨hx, hs, hd, hl⟩, q⟩ := h
  obtain ⟨u, rfl, ru⟩ := vals1 r
  have hu := hr.units
  have hz : (pyX d).shown.length ≤ sizeLine := by unfold sizeLine; omega
  have wrap : ∀ {a : Addr} {T id : String} {t : Str}, u = .ref a → strX d = t → s.TypeIs (.ref a) T → Slot T "__str__" "object.__str__" → SlotG T "__repr__" id →
      (wpAny (model X.prog X.w) X.A.in1.in1.in1 (call (.builtin id) [.ref a]) (fun r s₁ => ∃ h' t' tk, r = .str t t' ∧ (∀ b o, s.heap.get? b = some o → h'.get? b = some o) ∧ s₁ = { s with heap := h', toks := tk }) X.xe s) → wpAny (model X.prog X.w) X.A (call (.type "str") [u]) (EP X pins σ Q) X.xe s := fun e et hT ss sl hc => by
    subst e
    refine call_str_at (wpAny_strOf_slot rfl (by show X.A.units + 1 + 1 + 1 < cLine; omega) hT ss sl (wpAny_mono hc (fun r s₁ h₁ => ?_) fun _ _ e => e))
    obtain ⟨h', t', tk, rfl, hk, rfl⟩ := h₁
    exact ⟨_, _, rfl, typeIs_str _ _ _, .str _, H, I.kept hk, ⟨t', rfl⟩, et ▸ q⟩
  have units : ∀ {n : Nat}, n ≤ 60 → X.A.in1.in1.in1.units + n < cLine := fun h => by
    show X.A.units + 1 + 1 + 1 + _ < cLine
    omega
  cases d with
  | non =>
    cases rd; cases ru
    exact PySem.P.str_of_none ⟨.str _, H, I.tok _, ⟨_, rfl⟩, q⟩
  | bl b =>
    cases rd; cases ru
    exact PySem.P.str_of_bool ⟨.str _, H, I.tok _, ⟨_, by cases b <;> rfl⟩, q⟩
  | int i =>
    cases rd; obtain ⟨t, rfl⟩ := ru
    exact PySem.P.str_of_int (by simpa [pyX, PyData.showable] using hs) ⟨.str _, H, I.tok _, ⟨_, rfl⟩, q⟩
  | str z =>
    cases rd; obtain ⟨t, rfl⟩ := ru
    exact PySem.P.str_of_str ⟨.str _, H, I, ⟨t, rfl⟩, q⟩
  | tup ds =>
    obtain ⟨as, rr⟩ := rdX I hK sm (.tup ds) hx rd ru
    cases rd with
    | tup ht ra =>
      cases ru
      obtain ⟨its, rv, ⟨o, e1, e2, n, e3⟩, _⟩ := I.tuple (hK ▸ ht.sq sm)
      have hl' : (tupleText (PyData.shownAll (pyXs ds))).length ≤ sizeLine := by simpa only [pyX, PyData.shown] using hz
      obtain ⟨bs, c1, c2⟩ := rkXs I hK sm ds hx ra rv (by simpa [pyX, PyData.showable] using hs) fun t ht => Nat.le_trans (tupleText_mem_le ht) hl'
      have dp : (pyX (.tup ds)).depth = PyData.depthAll (pyXs ds) + 1 := by simp only [pyX, PyData.depth]
      refine wrap (t := tupleText (PyData.shownAll (pyXs ds))) rfl (by show (pyX (.tup ds)).shown = _; simp only [pyX, PyData.shown]) ⟨o, e1, e2⟩ F.slot_tuple_str F.slot_tuple_repr ?_
      exact call_tuple_reprK e1 e2 e3 (not_mem_of_deeper rr (by omega) c1) c2 (A := X.A.in1.in1.in1) (g := []) hg (fun b _ => .nil b) (units (by omega)) (fun _ _ e => e) (fun h' t tk hk => ⟨h', _, tk, rfl, hk, rfl⟩) hl'
  | lst ds =>
    obtain ⟨as, rr⟩ := rdX I hK sm (.lst ds) hx rd ru
    cases rd with
    | lst ht ra =>
      cases ru
      obtain ⟨its, rv, ⟨o, n, e1, e2, _, e3⟩, _⟩ := I.list (SqL.of (sm _ _ ht))
      have hl' : (listText (PyData.shownAll (pyXs ds))).length ≤ sizeLine := by simpa only [pyX, PyData.shown] using hz
      have dp : (pyX (.lst ds)).depth = PyData.depthAll (pyXs ds) + 1 := by simp only [pyX, PyData.depth]
      have et : strX (.lst ds) = listText (PyData.shownAll (pyXs ds)) := by show (pyX (.lst ds)).shown = _; simp only [pyX, PyData.shown]
      cases its with
      | nil =>
        refine str_of_reads rr hs (fun e => by
          cases ds with
          | nil => simp [pyX, pyXs, PyData.hasDict, PyData.hasDictAll] at e
          | cons d ds =>
            cases ra
            cases rv) hg (by omega) (fun _ _ e => e) (fun h' t tk hk => ⟨.str _, H, I.kept hk, ⟨t, rfl⟩, q⟩) hz
      | cons y its =>
        obtain ⟨bs, c1, c2⟩ := rkXs I hK sm ds hx ra rv (by simpa [pyX, PyData.showable] using hs) fun t ht => Nat.le_trans (listText_mem_le ht) hl'
        refine wrap rfl et ⟨o, e1, e2⟩ F.slot_list_str F.slot_list_repr.toG ?_
        exact call_list_reprK e1 e2 e3 (not_mem_of_deeper rr (by omega) c1) (by simpa using c2.length_eq) (fun i z hz => c2.item i z (by simpa using hz)) (A := X.A.in1.in1.in1) (g := []) hg (fun b _ => .nil b) (units (by omega)) (fun _ _ e => e) (fun h' t tk hk => ⟨h', _, tk, rfl, hk, rfl⟩) hl'
  | dct kvs =>
    obtain ⟨as, rr⟩ := rdX I hK sm (.dct kvs) hx rd ru
    cases rd with
    | dct ht rk =>
      cases ru
      obtain ⟨_, ns, ws, kv, o, es, ep, e1, e2, e3, _, e4, _⟩ := I.hok _ _ (sm _ _ ht)
      have hl' : (dictText (PyData.shownKv (pyXk kvs))).length ≤ sizeLine := by simpa only [pyX, PyData.shown] using hz
      obtain ⟨bs, c1, c2⟩ := rkXk I hK sm kvs hx rk kv e4 (by simpa [pyX, PyData.showable] using hs) fun t ht => Nat.le_trans (dictText_mem_le ht) hl'
      have dp : (pyX (.dct kvs)).depth = PyData.depthKv (pyXk kvs) + 1 := by simp only [pyX, PyData.depth]
      refine wrap (t := dictText (PyData.shownKv (pyXk kvs))) rfl (by show (pyX (.dct kvs)).shown = _; simp only [pyX, PyData.shown]) ⟨o, e1, e2.1⟩ F.slot_dict_str F.slot_dict_repr ?_
      exact call_dict_reprK e1 e2.1 e3 ns (not_mem_of_deeper rr (by omega) c1) c2 (A := X.A.in1.in1.in1) (g := []) hg (fun b _ => .nil b) (units (by omega)) (fun _ _ e => e) (fun h' t tk hk => ⟨h', _, tk, rfl, hk, rfl⟩) hl'
  | obj _ _ => nomatch hx
  | dcT _ => nomatch hx
  | dk => nomatch hx
  | opq _ => nomatch hx
def strXF : FC := fun ds R => match ds with
  | [d] => showX d ∧ R (.str (strX d))
  | _ => False
theorem ok_strX (hK : X.K = B.K) : OkRC B (rStrX X.K) strXF := by
  intro G γ σ H vs ds R Q S r h k
  unfold strXF at h
  split at h
  · cases r with
    | cons r1 r2 =>
      cases r2
      exact ⟨B.W, G, _, _, rfl, hK, S.sub, r1, h.1, k _ _ _ _ h.2 (Same.refl _) S (.str _)⟩
  · exact h.elim
/-- d.get(k) -/
def dDgetO (td tk : DT) : DT := fun γ R => td γ fun d γ1 => (∃ kvs, d = .dct kvs) ∧ tk γ1 fun k γ2 => match d, keyD k with
  | .dct kvs, some key => R ((getK key kvs).getD .non) γ2
  | _, _ => False
theorem d_dgetO {td tk : DT} {e : Expr} (h : PE X e (tDGet1 (tD B td) (tD B tk))) : PE X e (tD B (dDgetO td tk)) := pe_imp h fun σ H Q ⟨G, γ, R, S, h, k⟩ =>
  ⟨G, γ, _, S, h, fun d γ1 G1 v H1 ⟨⟨kvs, ed⟩, q⟩ s1 S1 r1 => by
    subst ed
    cases r1 with
    | @dct a vs _ hs ra =>
      refine ⟨a, rfl, .inl ⟨vs, .inl (S1.sub _ _ hs)⟩, G1, γ1, _, S1, q, fun kk γ2 G2 u H2 q2 s2 S2 r2 => ?_⟩
      split at q2
      · rename_i kvs' key e1 hk
        cases e1
        have ra2 := ra.mono s2
        refine ⟨valV vs key, by rw [rp_key r2 hk]; exact DGet.k (S2.sub _ _ (s2 _ _ hs)), ?_⟩
        cases e : getK key kvs with
        | some c =>
          rw [e] at q2
          obtain ⟨v, hv, rv⟩ := (valV_get ra2).1 c e
          rw [hv]
          exact k _ _ _ _ _ q2 (s1.trans s2) S2 rv
        | none =>
          rw [e] at q2
          rw [(valV_get ra2).2 e]
          exact k _ _ _ _ _ q2 (s1.trans s2) S2 .non
      · exact q2.elim⟩
/-- each of a list puts its own -/
theorem dc_each {α : Type} {bd : BdT} {tt : DB} {tk tv : DT} {vs : List Nat} {γ0 : Gm} (F : α → D) (ky : α → Key) (g : α → D) (L0 : List α) (hw : wipeS γ0 vs = γ0)
    (step : ∀ x ∈ L0, ∀ (Z : Key → D → Gm → Prop) (Z' : Gm → Prop), (∀ γ', wipeS γ' vs = γ0 → Z (ky x) (g x) γ') →
      bd (F x) γ0 fun γ2 => tt γ2 fun p γ3 => (p → tk γ3 fun c γ4 => tv γ4 fun e γ5 => ∃ key, keyD c = some key ∧ Z key e γ5) ∧ (¬p → Z' γ3)) :
    ∀ (L : List α) (acc : List (Key × D)) (R : List (Key × D) → Gm → Prop), (∀ x ∈ L, x ∈ L0) → R (L.foldl (fun acc x => setK (ky x) (g x) acc) acc) γ0 → dcD bd tt tk tv vs (L.map F) acc γ0 R
  | [], acc, R, _, h => by
    show R acc (wipeS γ0 vs)
    rw [hw]
    exact h
  | x :: L, acc, R, hL, h => by
    show bd (F x) γ0 _
    refine step x (hL x List.mem_cons_self) (fun key e γ5 => dcD bd tt tk tv vs (L.map F) (setK key e acc) (wipeS γ5 vs) R) (fun γ3 => dcD bd tt tk tv vs (L.map F) acc (wipeS γ3 vs) R) fun γ' e => ?_
    show dcD bd tt tk tv vs (L.map F) _ (wipeS γ' vs) R
    rw [e]
    exact dc_each F ky g L0 hw step L _ R (fun y hy => hL y (List.mem_cons_of_mem _ hy)) h
theorem setK_new {key : Key} {v : D} : ∀ {kvs : List (Key × D)}, (∀ p ∈ kvs, p.1 ≠ key) → setK key v kvs = kvs ++ [(key, v)]
  | [], _ => rfl
  | kv :: r, h => by
    have h1 : keyEq kv.1 key = false := by
      rw [keyEq_dec]
      exact decide_eq_false (h kv List.mem_cons_self)
    show (if keyEq kv.1 key = true then _ else kv :: setK key v r) = _
    rw [h1, setK_new fun p hp => h p (List.mem_cons_of_mem _ hp)]
    rfl
theorem fold_new {α : Type} (ky : α → Key) (g : α → D) : ∀ (L : List α) (acc : List (Key × D)), (L.map ky).Nodup → (∀ x ∈ L, ∀ p ∈ acc, p.1 ≠ ky x) → L.foldl (fun acc x => setK (ky x) (g x) acc) acc = acc ++ L.map fun x => (ky x, g x)
  | [], acc, _, _ => (List.append_nil acc).symm
  | x :: L, acc, nd, h => by
    have nd := List.nodup_cons.mp (show (ky x :: L.map ky).Nodup from nd)
    show L.foldl _ (setK (ky x) (g x) acc) = acc ++ ((ky x, g x) :: L.map _)
    rw [setK_new (h x List.mem_cons_self), fold_new ky g L _ nd.2 fun y hy p hp => ?_, List.append_assoc]
    · rfl
    · rcases List.mem_append.mp hp with hp | hp
      · exact h y (List.mem_cons_of_mem _ hy) p hp
      · cases List.mem_singleton.mp hp
        exact fun e => nd.1 (by have e : ky x = ky y := e; rw [e]; exact List.mem_map.mpr ⟨y, hy, rfl⟩)
end
end EL
namespace EL
open PySem PySem.Spec PyProof.Rows L2
section
variable {X : Cx} {B : Bs}
/-- len of a dict -/
def lenKF : FC := fun ds R => match ds with
  | [.dct kvs] => R (.int (kvs.length : Nat))
  | _ => False
theorem ok_lenK : OkRC B (fun xs H Q => ∃ a kvs, xs = [V.ref a] ∧ H a = some (.dK kvs) ∧ Q (.int kvs.length) H) lenKF := by
  intro G γ σ H vs ds R Q S r h k
  unfold lenKF at h
  split at h
  · cases r with
    | cons r1 r2 =>
      cases r2
      cases r1 with
      | dct hs ra =>
        refine ⟨_, _, rfl, S.sub _ _ hs, ?_⟩
        rw [ra.len]
        exact k _ _ _ _ h (Same.refl _) S (.int _)
  · exact h.elim
end
end EL
namespace EL
open PySem PySem.Spec PyProof.Rows L2
/-! ### tuples of numbers from 0 on, dicts keyed by such -/
abbrev embK (ks : List Nat) : List Key := ks.map fun n : Nat => Sum.inl (n : Int)
abbrev kX (ks : List Nat) : D := .tup (ks.map fun n : Nat => .int (n : Nat))
theorem embK_inj : ∀ {a b : List Nat}, embK a = embK b → a = b
  | [], [], _ => rfl
  | [], _ :: _, h => by cases h
  | _ :: _, [], h => by cases h
  | x :: a, y :: b, h => by
    have h : (Sum.inl (x : Int) : Key) :: embK a = Sum.inl (y : Int) :: embK b := h
    have h1 := (List.cons.inj h).1
    have h2 : (x : Int) = y := by injection h1
    rw [embK_inj (List.cons.inj h).2, show x = y by omega]
theorem kV_emb : ∀ ks : List Nat, (embK ks).map kV = ks.map fun n : Nat => V.int (n : Int)
  | [] => rfl
  | n :: ks => congrArg (V.int (n : Int) :: ·) (kV_emb ks)
theorem rp_nats {W : Cw} {G : Hp} : ∀ {ks : List Nat} {vs : List V}, RpAll W G vs (ks.map fun n : Nat => D.int (n : Nat)) → vs = ks.map fun n : Nat => V.int (n : Int)
  | [], _, h => by cases h; rfl
  | n :: ks, _, h => by
    cases h with
    | cons a b =>
      cases rpInt a
      rw [rp_nats b]
      rfl
theorem nats_rp {W : Cw} {G : Hp} : ∀ ks : List Nat, RpAll W G (ks.map fun n : Nat => V.int (n : Int)) (ks.map fun n : Nat => D.int (n : Nat))
  | [] => .nil
  | _ :: ks => .cons (.int _) (nats_rp ks)
theorem rp_key9 {W : Cw} {G : Hp} {v : V} {ks : List Nat} (h9 : W.cl 999 ≠ none) (r : Rp W G v (kX ks)) : ∃ a, v = .ref a ∧ G a = some (.tup ((embK ks).map kV)) := by
  cases r with
  | tup ht ra =>
    rcases ht with ht | ⟨z, _⟩
    · refine ⟨_, rfl, ?_⟩
      rw [kV_emb, ← rp_nats ra]
      exact ht
    · exact absurd z h9
theorem key_rp {W : Cw} {G : Hp} {a : Addr} {ks : List Nat} (h : G a = some (.tup ((embK ks).map kV))) : Rp W G (.ref a) (kX ks) := by
  rw [kV_emb] at h
  exact .tup (.inl h) (nats_rp ks)
/-- the first that stands under k -/
def getA (k : List Nat) : List (List Nat × Int) → Option Int
  | [] => none
  | (j, u) :: r => if j = k then some u else getA k r
/-- put under k: in its place, or behind -/
def setA (k : List Nat) (c : Int) (L : List (List Nat × Int)) : List (List Nat × Int) := if (L.any fun p => decide (p.1 = k)) = true then L.map (fun p => if p.1 = k then (p.1, c) else p) else L ++ [(k, c)]
abbrev dtE (k : List Nat × Int) : List Key × V := (k.1.map (fun n : Nat => Sum.inl (n : Int)), V.int k.2)
theorem valV_dt (k : List Nat) : ∀ L : List (List Nat × Int), valV (L.map dtE) (embK k) = (getA k L).map V.int
  | [] => rfl
  | (j, u) :: r => by
    rw [List.map_cons, getA]
    by_cases e : j = k
    · rw [if_pos e, valV_pos (by rw [← e])]
      rfl
    · rw [if_neg e, valV_neg (fun z => e (embK_inj z)), valV_dt k r]
theorem putK_dt (k : List Nat) (c : Int) (L : List (List Nat × Int)) : putK (L.map dtE) (embK k) (V.int c) = (setA k c L).map dtE := by
  have h1 : ∀ L : List (List Nat × Int), ((L.map dtE).any fun kv => decide (kv.1 = embK k)) = L.any fun p => decide (p.1 = k) := fun L => by
    rw [List.any_map]
    congr 1
    funext p
    show decide (embK p.1 = embK k) = decide (p.1 = k)
    exact decide_eq_decide.mpr ⟨embK_inj, fun e => by rw [e]⟩
  unfold putK setA
  rw [h1]
  by_cases h : (L.any fun p => decide (p.1 = k)) = true
  · rw [if_pos h, if_pos h, List.map_map, List.map_map]
    refine List.map_congr_left fun p _ => ?_
    show (if embK p.1 = embK k then (embK p.1, V.int c) else dtE p) = dtE (if p.1 = k then (p.1, c) else p)
    by_cases e : p.1 = k
    · rw [if_pos e, if_pos (by rw [e])]
    · rw [if_neg e, if_neg fun z => e (embK_inj z)]
  · rw [if_neg h, if_neg h, List.map_append]
    rfl
section
variable {X : Cx} {B : Bs} {G G' : Hp} {γ γ' : Gm} {σ σ' : L2.St} {H H' : Hp} {e a b : Expr} {ta tb t : DT} {pos : Pos} {st : Stmt} {p : Addr}
/-- d[k] -/
def dDgetT (td tk : DT) : DT := fun γ R => td γ fun d γ1 => tk γ1 fun k γ2 => match d with
  | .dcT kvs => ∃ ks c, k = kX ks ∧ getA ks kvs = some c ∧ R (.int c) γ2
  | _ => False
theorem d_dgetT {td tk : DT} (h9 : B.W.cl 999 ≠ none) (h : PE X e (tDGet (tD B td) (tD B tk))) : PE X e (tD B (dDgetT td tk)) := pe_imp h fun σ H Q ⟨G, γ, R, S, h, k⟩ =>
  ⟨G, γ, _, S, h, fun d γ1 G1 v H1 q s1 S1 r1 => ⟨G1, γ1, _, S1, q, fun kk γ2 G2 u H2 q2 s2 S2 r2 => by
    split at q2
    · rename_i kvs
      obtain ⟨ks, c, rfl, hc, q2⟩ := q2
      cases r1 with
      | dcT hs =>
        obtain ⟨b, rfl, hb⟩ := rp_key9 h9 r2
        refine ⟨_, .int c, rfl, ?_, k _ _ _ _ _ q2 (s1.trans s2) S2 (.int _)⟩
        have := DGet.t (k := embK ks) (S2.sub _ _ (s2 _ _ hs)) (S2.sub _ _ hb)
        rw [valV_dt, hc] at this
        exact this
    · exact q2.elim⟩⟩
/-- d.get(k, x) -/
def dDget2T (td tk tx : DT) : DT := fun γ R => td γ fun d γ1 => (∃ kvs, d = .dcT kvs) ∧ tk γ1 fun k γ2 => tx γ2 fun x γ3 => match d with
  | .dcT kvs => ∃ ks i, k = kX ks ∧ x = .int i ∧ R (.int ((getA ks kvs).getD i)) γ3
  | _ => False
theorem d_dget2T {td tk tx : DT} (h9 : B.W.cl 999 ≠ none) (h : PE X e (tDGet2 (tD B td) (tD B tk) (tD B tx))) : PE X e (tD B (dDget2T td tk tx)) := pe_imp h fun σ H Q ⟨G, γ, R, S, h, k⟩ =>
  ⟨G, γ, _, S, h, fun d γ1 G1 v H1 ⟨⟨kvs, ed⟩, q⟩ s1 S1 r1 => by
    subst ed
    cases r1 with
    | dcT hs =>
      rename_i a
      refine ⟨a, rfl, .inr ⟨_, .inl (S1.sub _ _ hs)⟩, G1, γ1, _, S1, q, fun kk γ2 G2 u H2 q2 s2 S2 r2 => ⟨G2, γ2, _, S2, q2, fun x γ3 G3 w H3 q3 s3 S3 r3 => ?_⟩⟩
      obtain ⟨ks, i, rfl, rfl, q3⟩ := q3
      obtain ⟨b, rfl, hb⟩ := rp_key9 h9 (r2.mono s3)
      cases rpInt r3
      refine ⟨_, DGet.t (k := embK ks) (S3.sub _ _ (s3 _ _ (s2 _ _ hs))) (S3.sub _ _ hb), ?_⟩
      rw [show valV (kvs.map fun k => (k.1.map (fun n : Nat => (Sum.inl (n : Int) : Key)), V.int k.2)) (embK ks) = (getA ks kvs).map V.int from valV_dt ks kvs]
      have e : ((getA ks kvs).map V.int).getD (V.int i) = V.int ((getA ks kvs).getD i) := by cases getA ks kvs <;> rfl
      rw [e]
      exact k _ _ _ _ _ q3 (s1.trans (s2.trans s3)) S3 (.int _)⟩
/-- d[k] = v -/
def sDSetT (i : Nat) (tk tv : DT) : DS := fun E γ => tv γ fun d γ1 => (∃ p ds, look γ1 i = .ownT p ds) ∧ tk γ1 fun k γ2 => match look γ2 i with
  | .ownT p ds => ∃ ks c, k = kX ks ∧ d = .int c ∧ ds.length < 1000000 ∧ E.nx (putS γ2 i (.ownT p (setA ks c ds)))
  | _ => False
theorem s_dsetT {i : Nat} {tk tv : DT} (h9 : B.W.cl 999 ≠ none) (h : PS X st (sDPut (tVar i) (tD B tk) (tD B tv))) : PS X st (tDS B (sDSetT i tk tv)) := ps_imp h fun De σ H ⟨G, γ, E, S, h, F⟩ =>
  ⟨G, γ, _, S, h, fun d γ1 G1 v H1 ⟨⟨p0, ds0, hi⟩, q⟩ s1 S1 r1 => by
    obtain ⟨o, h1, h2, h3⟩ := S1.slot i _ (look_get hi (fun z => nomatch z))
    subst h2
    refine ⟨_, h1, G1, γ1, _, S1, q, fun k γ2 G2 u H2 q2 s2 S2 r2 => ?_⟩
    split at q2
    · rename_i p ds hi2
      obtain ⟨ks, c, rfl, rfl, hl, q3⟩ := q2
      have hg := look_get hi2 (fun z => nomatch z)
      obtain ⟨o', k1, k2, k3⟩ := S2.slot i _ hg
      subst k2
      rw [h1] at k1
      cases k1
      rw [putS_eq] at q3
      cases rpInt r1
      obtain ⟨b, rfl, hb⟩ := rp_key9 h9 r2
      refine ⟨p0, _, rfl, DPut.t (k := embK ks) (v := .int c) k3 (S2.sub _ _ hb) (by rw [List.length_map]; exact Nat.lt_of_lt_of_le hl (by decide)), F.nx _ _ _ _ q3 (s1.trans s2) (S2.restore (o := .dT _) hg (List.mem_singleton.mpr rfl) (fun _ z => nomatch z) (fun q hq => hq) fun o0 e0 q0 => ⟨q0.1, ?_⟩)⟩
      rw [upd_same]
      exact congrArg (fun x => some (HO.dT x)) (putK_dt ks c ds)
    · exact q2.elim⟩
/-- x = {} -/
def sOwnT (i : Nat) : DS := fun E γ => ∀ p, E.nx (putS γ i (.ownT p []))
theorem s_ownT {i : Nat} (h : PS X st (tAsg tDNewT (gName i))) : PS X st (tDS B (sOwnT i)) := ps_imp h fun De σ H ⟨G, γ, E, S, h, F⟩ p hp => by
  have q := h p
  rw [putS_eq] at q
  have S1 := S.laid (o := .dT []) (fun _ z => nomatch z) hp
  have np := S.noslot hp
  exact F.nx _ _ _ _ q (Same.refl _) (slot_set S1 (v := .ref p) (s := .ownT p []) ⟨rfl, upd_same⟩ fun p' hp' => by
    cases List.mem_singleton.mp hp'
    exact ⟨S.free0 hp, S.sub.free hp, fun j t _ e => np j t e⟩)
end
/-! ### a heap that has grown: all that is new is read alone, but l -/
def grown (G H H' : Hp) (l : Addr) : Hp := fun b => if b = l then G b else if H b = none then H' b else G b
section
variable {B : Bs} {m : Nat} {G : Hp} {γ : GL} {σ : L2.St} {H H' : Hp} {l : Addr}
theorem Dst.grow (S : Dst B m G γ σ H) (hs : ∀ b o, H b = some o → H' b = some o) (hl : H l = none) (hl' : ∀ xs, H' l ≠ some (.tup xs)) : Same G (grown G H H' l) ∧ Dst B m (grown G H H' l) γ σ H' ∧ grown G H H' l l = none := by
  have gl : G l = none := S.sub.free hl
  have at1 : ∀ b, H b ≠ none → grown G H H' l b = G b := fun b h => by
    unfold grown
    by_cases e : b = l
    · rw [if_pos e]
    · rw [if_neg e, if_neg h]
  have sm : Same G (grown G H H' l) := fun b o e => by
    rw [at1 b (by rw [S.sub b o e]; exact fun z => nomatch z)]
    exact e
  have kp : ∀ b, H b ≠ none → H' b = H b := fun b h => by
    cases e : H b with
    | none => exact absurd e h
    | some o => exact hs b o e
  refine ⟨sm, S.heaps sm (fun b o e => ?_) (fun b o _ e _ => hs b o e) (fun p h1 h2 => ?_) (fun p xs e => ?_) (fun d c e => ?_) (fun i s p e hp => ?_), by unfold grown; rw [if_pos rfl]; exact gl⟩
  · by_cases z : H b = none
    · by_cases q : b = l
      · unfold grown at e
        rw [if_pos q, q, gl] at e
        cases e
      · unfold grown at e
        rw [if_neg q, if_pos z] at e
        exact e
    · rw [at1 b z] at e
      exact hs _ _ (S.sub _ _ e)
  · rw [at1 p fun z => h1 (S.free0 z)]
    exact S.fresh p h1 h2
  · by_cases z : H p = none
    · have q : p ≠ l := fun q => hl' xs (by rw [← q]; exact e)
      unfold grown
      rw [if_neg q, if_pos z]
      exact e
    · rw [at1 p z]
      rw [kp p z] at e
      exact S.tups p xs e
  · obtain ⟨h1, _⟩ := S.dkok d c e
    obtain ⟨t1, t2⟩ := (S.law _).there _ _ _ h1
    exact (S.law _).keep _ _ _ _ h1 (kp d t1) (kp c t2)
  · obtain ⟨o, _, h⟩ := S.slot i s e
    have z : H p ≠ none := fun z => by
      rcases h.there p hp with ⟨xs, q⟩ | ⟨xs, q⟩ | ⟨xs, q⟩ <;> (rw [z] at q; cases q)
    exact ⟨kp p z, by rw [at1 p z]; exact (S.off i s p e hp).2⟩
end
end EL
namespace EL
open PySem PySem.Spec PyProof.Rows L2
open PySem.W (EachIs AllAlike Sortable dataLe dataLt)
/-! ### sorted, by what is collected -/
abbrev Grows (h h' : Heap) : Prop := ∀ b o, h.get? b = some o → h'.get? b = some o
theorem each_perm1 {α β : Type} {R : α → β → Prop} : ∀ {l m : List α} {bs : List β}, l.length < 2 → l.Perm m → EachIs R m bs → EachIs R l bs
  | [], m, bs, _, p, e => by
    have : m = [] := p.symm.eq_nil
    subst this
    exact e
  | [x], m, bs, _, p, e => by
    have : m = [x] := List.singleton_perm.mp p |>.symm ▸ rfl
    subst this
    exact e
  | _ :: _ :: _, _, _, h, _, _ => absurd h (by simp)
section
variable {prog : Program} {w : World} {A : Around} {E : Value → Shared → Prop} {s : Shared}
theorem sorted_by {β : Type} {r : Value} {bs : List β} {enc : β → PyData} {R : Heap → List Value → Value → β → Prop} {P : Heap → List Value → Prop} {Q : Value → Shared → Prop}
    (hcol : ∀ Z : List Value → Shared → Prop, (∀ h' tk vs, Grows s.heap h' → P h' vs → Z vs { s with heap := h', toks := tk }) → wpAny (model prog w) A.in1 (collect r) Z E s)
    (hz : bs.length ≤ sizeLine) (he : ∀ h' vs, P h' vs → EachIs (R h' vs) vs bs) (hd : ∀ h' vs, P h' vs → EachIs (fun v b => Reads h' v (enc b) []) vs bs) (hal : AllAlike (bs.map enc)) (hk : 2 ≤ bs.length → Sortable (bs.map enc))
    (hu : ∀ b ∈ bs, A.units + 2 + (enc b).depth < cLine)
    (h : ∀ h' tk vs out cs h2 d n, Grows s.heap h' → P h' vs → EachIs (R h' vs) out cs → cs.Perm bs → cs.Pairwise (fun x y => dataLt (enc y) (enc x) = false) → (∀ b o, h'.get? b = some o → h2.get? b = some o) →
      h2.get? d = some (seqObj "list" (List.toArray out) n) → d = h'.objs.size → Q (.ref d) { s with heap := h2, toks := tk }) :
    wpAny (model prog w) A (call (.builtin "sorted") [r]) Q E s := by
  refine Calls.call_function_entry kind_sorted plain_sorted entry_sorted (args_sorted1 _) ?_
  unfold Builtin.«sorted»
  refine wpAny_bind (m := checkCount "sorted" 1 1 _) (wpAny_pure ?_)
  refine wpAny_bind (hcol _ fun h' tk vs kp hP => ?_)
  have e := he h' vs hP
  have er := hd h' vs hP
  have hl : vs.length = bs.length := e.length
  refine wpAny_bind (wpAny_newList ?_ (by rw [hl]; exact hz))
  have hob : (h'.push (seqObj "list" vs.toArray 0)).get? h'.objs.size = some (seqObj "list" vs.toArray 0) := Heap.get?_push_size _ rfl
  have ka : Grows h' (h'.push (seqObj "list" vs.toArray 0)) := fun b o q => Heap.get?_push_of_some _ q
  have old : ∀ out b o, h'.get? b = some o → (sortedHeap (h'.push (seqObj "list" vs.toArray 0)) h'.objs.size vs out).get? b = some o := fun out b o q =>
    (PyProof.Rows.sortedHeap_old (Nat.ne_of_lt (Heap.lt_size q)) (Heap.lt_size (ka b o q))).trans (ka b o q)
  have pw : (bs.mergeSort (dataLe false enc)).Pairwise (fun x y => dataLt (enc y) (enc x) = false) := by
    have tot : PySem.W.TotalLe (dataLe false enc) := PySem.W.sortLe_total _ _ _
    refine (PySem.W.sort_pairwise tot bs).imp fun {x y} q => ?_
    have q : (!dataLt (enc y) (enc x)) = true := q
    simpa using q
  have fin : ∀ out : List Value, ∀ cs, EachIs (R h' vs) out cs → cs.Perm bs → cs.Pairwise (fun x y => dataLt (enc y) (enc x) = false) → Q (.ref h'.objs.size) { s with heap := sortedHeap (h'.push (seqObj "list" vs.toArray 0)) h'.objs.size vs (List.toArray out), toks := tk } := fun out cs q p pw => by
    obtain ⟨ep, hep⟩ := PyProof.Rows.sortedHeap_at (vs := vs) (out := List.toArray out) hob
    exact h h' tk vs out cs _ _ ep kp hP q p pw (old _) hep rfl
  show wpAny _ _ _ _ _ { s with heap := h'.push (seqObj "list" vs.toArray 0), toks := tk }
  by_cases h2 : 2 ≤ bs.length
  · refine wpAny_bind (wpAny_holding (wpAny_mono (PySem.W.list_sort_data (A := A.in1) (s := { s with heap := h'.push (seqObj "list" vs.toArray 0), toks := tk }) (R := R h' vs) (enc := enc) (E := E) (Q := fun _ s' => Q (.ref h'.objs.size) s') hob e
      (er.mono fun v b q => ⟨[], PyProof.Rows.Reads.keeps ka q, by simp⟩) hal (hk h2) hz (fun b hb => by have := hu b hb; show A.units + 1 + 1 + _ < _; omega) fun out _ q => fin out _ q (List.mergeSort_perm _ _) pw) (fun _ s' q => ?_) fun _ _ x => x))
    exact wpAny_pure ⟨_, rfl, q⟩
  · have swo : SrtO.Swo (fun _ _ : Value => false) := ⟨(fun _ _ h => by cases h), fun _ _ _ _ _ => rfl⟩
    refine wpAny_bind (wpAny_holding (wpAny_call_entry PyProof.Rows.slot_list_sort ⟨_, hob, rfl⟩ PyProof.Rows.entry_list_sort
      (SrtO.list_sort_ord (s := { s with heap := h'.push (seqObj "list" vs.toArray 0), toks := tk }) swo hob (by rw [hl]; exact hz) (fun z => absurd (by rw [← hl]; exact z) h2) fun out _ hb => ⟨_, rfl, ?_⟩) (PyProof.Rows.args_list_sort _)))
    refine wpAny_pure ⟨_, rfl, fin out bs (each_perm1 (by rw [hb.len, hl]; omega) hb.perm e) (List.Perm.refl _) ?_⟩
    match bs, h2 with
    | [], _ => exact .nil
    | [x], _ => exact List.pairwise_singleton _ _
    | _ :: _ :: _, z => exact absurd (by simp) z
end
/-! ### the order of tuples of numbers -/
abbrev encK (ks : List Nat) : PyData := .tuple ((ks.map fun n : Nat => (n : Int)).map .int)
theorem lt_emb : ∀ a b : List Nat, (a.map fun n : Nat => (n : Int)) < (b.map fun n : Nat => (n : Int)) ↔ a < b
  | [], [] => by simp
  | [], _ :: _ => by simp
  | _ :: _, [] => by simp
  | x :: a, y :: b => by
    rw [List.map_cons, List.map_cons, List.cons_lt_cons_iff, List.cons_lt_cons_iff, lt_emb a b]
    constructor
    · rintro (h | ⟨h, k⟩)
      · exact .inl (by omega)
      · exact .inr ⟨by omega, k⟩
    · rintro (h | ⟨h, k⟩)
      · exact .inl (by omega)
      · exact .inr ⟨by omega, k⟩
theorem lt_encK (a b : List Nat) : dataLt (encK a) (encK b) = decide (a < b) := by
  rw [PySem.W.dataLt_tuple]
  refine (PySem.W.dataLt_ints _ _).trans ?_
  exact decide_eq_decide.mpr (lt_emb a b)
theorem alike_encK (a b : List Nat) : PySem.W.alike (encK a) (encK b) = true := by
  show PySem.W.alike (.tuple _) (.tuple _) = true
  simp only [PySem.W.alike]
  exact PySem.W.alike_ints _ _
theorem depth_encK (a : List Nat) : (encK a).depth = 1 := by
  show PyData.depth (.tuple _) = 1
  simp only [PyData.depth]
  rw [PySem.W.depth_ints]
theorem reads_nats {h : Heap} : ∀ {ks : List Nat} {its : List Value}, Vals (ks.map fun n : Nat => V.int (n : Int)) its → ReadsAll h its ((ks.map fun n : Nat => (n : Int)).map PyData.int) []
  | [], _, r => by cases r; exact .nil
  | n :: ks, _, r => by
    cases r with
    | cons a b =>
      obtain ⟨t, rfl⟩ := a
      exact .cons (as := []) (bs := []) (.int _ _) (reads_nats b)
theorem reads_key {X : Cx} {pins : List (Addr × Obj)} {σ : L2.St} {H : Hp} {s : Shared} {a : Addr} {ks : List Nat} (I : Inv X pins σ H s) (h : H a = some (.tup ((embK ks).map kV))) : Reads s.heap (.ref a) (encK ks) [] := by
  rw [kV_emb] at h
  obtain ⟨_, its, rv, o, h1, h2, n, h3⟩ := I.hok _ _ h
  exact .tuple h1 h2 h3 (by simpa using reads_nats rv)
/-! ### sorted(d), d keyed by tuples of numbers -/
def rSortT : List V → Hp → VK → Prop := fun xs H Q => ∃ (d : Addr) (kvs : List (List Nat × Int)), xs = [.ref d] ∧ H d = some (dtV kvs) ∧ ((∀ t ∈ kvs, t.1 ≠ []) ∨ kvs.length ≤ 1) ∧
  ∀ (bs : List (Addr × List Nat)) (p : Addr), (bs.map (·.2)).Perm (kvs.map (·.1)) → (bs.map (·.2)).Pairwise (fun a b => ¬ b < a) → (∀ b ∈ bs, H b.1 = some (.tup ((embK b.2).map kV))) → H p = none → Q (.ref p) (upd H p (.lst (bs.map fun b => V.ref b.1)))
section
variable {X : Cx}
theorem keysT_go {H : Hp} : ∀ {kvs : List (List Nat × Int)} {xs : List (List Key × Addr × Value)}, Paired (fun (p : List Key × V) (q : List Key × Addr × Value) => p.1 = q.1 ∧ H q.2.1 = some (.tup (p.1.map kV)) ∧ RelV p.2 q.2.2) (kvs.map dtE) xs →
    ∃ bs : List (Addr × List Nat), bs.map (·.2) = kvs.map (·.1) ∧ (∀ b ∈ bs, H b.1 = some (.tup ((embK b.2).map kV))) ∧ (xs.map fun x => Value.ref x.2.1) = bs.map fun b => Value.ref b.1
  | [], _, r => by
    cases r
    exact ⟨[], rfl, (fun _ h => by cases h), rfl⟩
  | t :: kvs, _, r => by
    cases r with
    | cons h r =>
      rename_i q qs
      obtain ⟨bs, e1, e2, e3⟩ := keysT_go r
      refine ⟨(q.2.1, t.1) :: bs, by rw [List.map_cons, List.map_cons, e1], fun b hb => ?_, by rw [List.map_cons, List.map_cons, e3]⟩
      rcases List.mem_cons.mp hb with e | hb
      · subst e
        exact h.2.1
      · exact e2 b hb
theorem eachIs_map {α : Type} (f : α → Value) : ∀ l : List α, EachIs (fun v b => v = f b) (l.map f) l
  | [] => .nil
  | _ :: l => .cons rfl (eachIs_map f l)
theorem eachIs_eq {α : Type} {f : α → Value} : ∀ {vs : List Value} {l : List α}, EachIs (fun v b => v = f b) vs l → vs = l.map f
  | _, _, .nil => rfl
  | _, _, .cons h t => by rw [h, eachIs_eq t]; rfl
theorem eachIs_in {α β : Type} {R T : α → β → Prop} : ∀ {vs : List α} {l : List β}, EachIs R vs l → (∀ v b, b ∈ l → R v b → T v b) → EachIs T vs l
  | _, _, .nil, _ => .nil
  | _, _, .cons h t, k => .cons (k _ _ List.mem_cons_self h) (eachIs_in t fun v b hb => k v b (List.mem_cons_of_mem _ hb))
theorem vals_refs' : ∀ bs : List (Addr × List Nat), Vals (bs.map fun b => V.ref b.1) (bs.map fun b => Value.ref b.1)
  | [] => .nil
  | _ :: r => .cons rfl (vals_refs' r)
theorem cr_sortT (hc : X.calm = true) (hu : X.A.units + 64 < cLine) : CallR X (.builtin "sorted") rSortT := by
  intro pins s σ H xs us Q I r h
  obtain ⟨d, kvs, rfl, hd, hne, q⟩ := h
  obtain ⟨u, rfl, ru⟩ := vals1 r
  cases ru
  obtain ⟨z, hs, ks, pr, o, es, ep, ho, hx, hdt, hen, hn⟩ := I.hok d _ hd
  have l1 : es.size = ks.length := size_of_entries hen
  have l2 : kvs.length = ks.length := by
    have := Paired.length pr
    rw [List.length_map] at this
    exact this
  rw [List.length_map] at z
  obtain ⟨bs, b1, b2, b3⟩ := keysT_go pr
  have bl : bs.length = kvs.length := by
    have := congrArg List.length b1
    rw [List.length_map, List.length_map] at this
    exact this
  refine sorted_by (bs := bs) (enc := fun b => encK b.2) (R := fun _ _ v b => v = .ref b.1) (P := fun h' vs => Grows s.heap h' ∧ vs = bs.map fun b => Value.ref b.1) (fun Z hZ => ?_) (by omega) (fun h' vs hP => ?_) (fun h' vs hP => ?_) ?_ (fun h2 => ?_) (fun b _ => ?_) ?_
  · refine PySem.W.kdu_collect (A := X.A.in1) (kdl_raw hs hx hdt) (I.ok.hd hc) ho (by omega) fun h' tk acc kp it => hZ h' tk _ kp ⟨kp, ?_⟩
    rw [← b3]
    have hl : acc.toList.length = ks.length := by rw [Array.length_toList, it.1]; exact l1
    apply List.ext_getElem?
    intro j
    rw [List.getElem?_map]
    cases hj : acc.toList[j]? with
    | none =>
      have h1 := List.getElem?_eq_none_iff.mp hj
      rw [List.getElem?_eq_none (by omega)]
      rfl
    | some v =>
      obtain ⟨en, he1, hv⟩ := it.2 j v (by rw [← Array.getElem?_toList]; exact hj)
      have qe := entry_at hen j
      rw [he1] at qe
      cases hb : ks[j]? with
      | none =>
        rw [hb] at qe
        exact nomatch (show some en = none from qe)
      | some b =>
        rw [hb] at qe
        have e2 : en = entryOfKey (tupleKind (mixKind X.prog X.w)) b := Option.some.inj qe
        rw [hv, e2]
        rfl
  · rw [hP.2]
    exact eachIs_map _ bs
  · rw [hP.2]
    exact eachIs_in (eachIs_map _ bs) fun v b hb e => by
      subst e
      exact PyProof.Rows.Reads.keeps hP.1 (reads_key I (b2 b hb))
  · exact AllAlike.of fun a b => alike_encK _ _
  · refine .inl fun d hd => ?_
    obtain ⟨b, hb, rfl⟩ := List.mem_map.mp hd
    have hm : b.2 ∈ kvs.map (·.1) := by rw [← b1]; exact List.mem_map.mpr ⟨b, hb, rfl⟩
    obtain ⟨t, ht, e⟩ := List.mem_map.mp hm
    have hne : b.2 ≠ [] := by
      rcases hne with hne | hne
      · rw [← e]; exact hne t ht
      · omega
    obtain ⟨k, l, e2⟩ := List.exists_cons_of_ne_nil hne
    exact ⟨.int k, _, by show encK b.2 = _; rw [e2]; rfl⟩
  · show X.A.units + 2 + (encK b.2).depth < cLine
    rw [depth_encK]
    omega
  · intro h' tk vs out cs h2 dd n kp hP ho hp hw kp2 hdd edd
    have eo := eachIs_eq ho
    subst eo
    subst edd
    have I1 : Inv X pins σ H { s with heap := h', toks := tk } := I.kept (t' := tk) kp
    have hlen : (cs.map fun b => V.ref b.1).length ≤ sizeLine := by
      rw [List.length_map, hp.length_eq]
      omega
    refine ⟨.ref _, _, I1.laid (t' := tk) (o := .lst (cs.map fun b => V.ref b.1)) kp2 (Nat.le_refl _) ⟨hlen, _, n, vals_refs' cs, hdd⟩, rfl, q cs _ ?_ ?_ ?_ (I1.hok.fresh (Nat.le_refl _))⟩
    · rw [← b1]
      exact hp.map _
    · rw [List.pairwise_map]
      refine hw.imp fun {x y} e => ?_
      rw [lt_encK] at e
      exact of_decide_eq_false e
    · exact fun b hb => b2 b (hp.mem_iff.mp hb)
/-- sorted(d), d keyed by whole numbers, any number of them -/
def rSortI : List V → Hp → VK → Prop := fun xs H Q => ∃ (a : Addr) (kvs : List (Key × V)) (ks : List Int), xs = [.ref a] ∧ H a = some (.dK kvs) ∧ kvs.map (·.1) = ks.map Sum.inl ∧
  ∀ (ys : List Int) (p : Addr), ys.Perm ks → ys.Pairwise (fun a b => a ≤ b) → H p = none → Q (.ref p) (upd H p (.lst (ys.map V.int)))
theorem int_vals : ∀ {vs : List Value} {ks : List Int}, EachIs (fun v b => ∃ t, v = Value.int b t) vs ks → Vals (ks.map V.int) vs
  | _, _, .nil => .nil
  | _, _, .cons ⟨t, e⟩ r => .cons ⟨t, e⟩ (int_vals r)
theorem int_each : ∀ {vs : List Value} {ks : List Int}, vs.length = ks.length → (∀ (j : Nat) (v : Value), vs[j]? = some v → ∃ (x : Int) (t : Tok), ks[j]? = some x ∧ v = Value.int x t) → EachIs (fun v b => ∃ t, v = Value.int b t) vs ks
  | [], [], _, _ => .nil
  | [], _ :: _, h, _ => by cases h
  | _ :: _, [], h, _ => by cases h
  | v :: vs, k :: ks, h, q => by
    obtain ⟨x, t, e1, e2⟩ := q 0 v rfl
    have e1 : k = x := Option.some.inj e1
    subst e1
    exact .cons ⟨t, e2⟩ (int_each (Nat.succ.inj h) fun j u e => q (j + 1) u e)
theorem cr_sortI (hc : X.calm = true) (hu : X.A.units + 64 < cLine) : CallR X (.builtin "sorted") rSortI := by
  intro pins s σ H xs us Q I r h
  obtain ⟨d, kvs, ks, rfl, hd, hks, q⟩ := h
  obtain ⟨u, rfl, ru⟩ := vals1 r
  cases ru
  obtain ⟨z, lo, vs, rel, dd⟩ := I.hok d _ hd
  obtain ⟨ep, hat⟩ := dd.dictAt
  have hkeys : vs.map (·.1) = ks.map Sum.inl := rel.keys.symm.trans hks
  have l1 : vs.length = ks.length := by
    have e := congrArg List.length hkeys
    rw [List.length_map, List.length_map] at e
    exact e
  have l2 : kvs.length = vs.length := rel.length
  refine sorted_by (bs := ks) (enc := fun b => .int b) (R := fun _ _ v b => ∃ t, v = .int b t) (P := fun h' ws => EachIs (fun v b => ∃ t, v = Value.int b t) ws ks) (fun Z hZ => ?_) (by omega) (fun h' ws hP => hP) (fun h' ws hP => ?_) ?_ (fun h2 => ?_) (fun b _ => ?_) ?_
  · refine PySem.W.kdu_collect (A := X.A.in1) (PySem.W.kdl_dict (knd := mixKind X.prog X.w) (kvs := vs) (ep := ep) lo) (I.ok.hd hc) hat (by omega) fun h' tk acc kp it => hZ h' tk _ kp (int_each (by rw [Array.length_toList, it.1, l1]) fun j v e => ?_)
    obtain ⟨k, x, e1, e2⟩ := it.2 j v (by rw [← Array.getElem?_toList]; exact e)
    have e3 : (vs.map (·.1))[j]? = some k := by rw [List.getElem?_map, e1]; rfl
    rw [hkeys, List.getElem?_map] at e3
    cases e4 : ks[j]? with
    | none => rw [e4] at e3; cases e3
    | some y =>
      rw [e4] at e3
      have e5 : Sum.inl y = k := Option.some.inj e3
      subst e5
      rcases keyIs_shape (show keyIs (Sum.inl y) v = true from e2) with ⟨i, t, ek, ev⟩ | ⟨z, t, ek, ev⟩
      · cases ek
        exact ⟨y, t, rfl, ev⟩
      · cases ek
  · exact eachIs_in hP fun v b _ ⟨t, e⟩ => by
      subst e
      exact .int _ _
  · exact AllAlike.of fun a b => by simp only [PySem.W.alike]
  · exact Sortable.others fun b => ⟨(fun e => by cases e), (fun xs e => by cases e)⟩
  · show X.A.units + 2 + (PyData.int b).depth < cLine
    simp only [PyData.depth]
    omega
  · intro h' tk ws out cs h2 dd n kp hP ho hp hw kp2 hdd edd
    subst edd
    have I1 : Inv X pins σ H { s with heap := h', toks := tk } := I.kept (t' := tk) kp
    have hlen : (cs.map V.int).length ≤ sizeLine := by
      rw [List.length_map, hp.length_eq]
      omega
    refine ⟨.ref _, _, I1.laid (t' := tk) (o := .lst (cs.map V.int)) kp2 (Nat.le_refl _) ⟨hlen, _, n, int_vals ho, hdd⟩, rfl, q cs _ hp ?_ (I1.hok.fresh (Nat.le_refl _))⟩
    refine hw.imp fun {x y} e => ?_
    rw [PySem.W.dataLt_int] at e
    have := of_decide_eq_false e
    omega
/-- max(t, default=0) of a tuple of numbers -/
def rMaxT0 (K : PySem.W.Frag) : List V → List V → Hp → VK → Prop := fun xs zs H Q => ∃ (a : Addr) (ks : List Nat), xs = [.ref a] ∧ zs = [.int 0] ∧ SqT K H a (ks.map fun n : Nat => V.int (n : Int)) ∧
  ∀ m : Nat, (ks = [] → m = 0) → (ks ≠ [] → m ∈ ks) → (∀ k ∈ ks, k ≤ m) → Q (.int m) H
theorem foldl_max : ∀ (ys : List Int) (y : Int), (∀ k ∈ y :: ys, k ≤ ys.foldl (fun a b => if decide (a < b) = true then b else a) y) ∧ ys.foldl (fun a b => if decide (a < b) = true then b else a) y ∈ y :: ys
  | [], y => ⟨fun k hk => by cases List.mem_singleton.mp hk; exact Int.le_refl _, List.mem_singleton.mpr rfl⟩
  | x :: ys, y => by
    rw [List.foldl_cons]
    by_cases h : y < x
    · rw [if_pos (decide_eq_true h)]
      obtain ⟨a, b⟩ := foldl_max ys x
      refine ⟨fun k hk => ?_, List.mem_cons_of_mem _ b⟩
      rcases List.mem_cons.mp hk with e | hk
      · subst e
        have := a x List.mem_cons_self
        omega
      · exact a k hk
    · rw [if_neg (by rw [decide_eq_false h]; decide)]
      obtain ⟨a, b⟩ := foldl_max ys y
      refine ⟨fun k hk => ?_, ?_⟩
      · rcases List.mem_cons.mp hk with e | hk
        · subst e
          exact a _ List.mem_cons_self
        rcases List.mem_cons.mp hk with e | hk
        · subst e
          have := a y List.mem_cons_self
          omega
        · exact a k (List.mem_cons_of_mem _ hk)
      · rcases List.mem_cons.mp b with e | b
        · rw [e]; exact List.mem_cons_self
        · exact List.mem_cons_of_mem _ (List.mem_cons_of_mem _ b)
theorem cr_maxT0 (hc : X.calm = true) (hu : X.A.units + 64 < cLine) : CallRK X (.builtin "max") ["default"] (rMaxT0 X.K) := by
  intro pins s σ H xs zs us ws Q I r rz h
  obtain ⟨a, ks, rfl, rfl, hT, q⟩ := h
  obtain ⟨u, rfl, ru⟩ := vals1 r
  cases ru
  obtain ⟨d, rfl, rd⟩ := vals1 rz
  obtain ⟨td, rfl⟩ := rd
  obtain ⟨its, rv, ht, hsz⟩ := I.tuple hT
  refine PySem.W.max_tuple_datum_default (α := Int) (xs := ks.map fun n : Nat => (n : Int)) (vs := its.toArray) (I.ok.hd hc) ht ⟨[], (show ReadsAll s.heap its.toArray.toList ((ks.map fun n : Nat => (n : Int)).map PyData.int) [] from by simpa using reads_nats rv)⟩ (by show X.A.units + 1 + 0 < cLine; omega) (fun e h' tk kp => ?_) fun y ys i v h' tk e hi hm kp => ?_
  · have e : ks = [] := List.map_eq_nil_iff.mp e
    subst e
    exact ⟨.int (0 : Nat), H, I.kept (t' := tk) kp, ⟨td, rfl⟩, q 0 (fun _ => rfl) (fun z => absurd rfl z) fun k hk => by cases hk⟩
  · obtain ⟨as, hr⟩ := hm
    have hr : Reads h' v (.int (PySem.W.maxOf y ys)) as := hr
    cases hr
    rename_i t
    have em : PySem.W.maxOf y ys = ys.foldl (fun a b => if decide (a < b) = true then b else a) y := rfl
    obtain ⟨h1, h2⟩ := foldl_max ys y
    rw [← em, ← e] at h1
    rw [← em, ← e] at h2
    obtain ⟨m, hm, e2⟩ := List.mem_map.mp h2
    rw [← e2] at h1 ⊢
    exact ⟨.int (m : Nat), H, I.kept (t' := tk) kp, ⟨_, rfl⟩, q m (fun z => by rw [z] at hm; cases hm) (fun _ => hm) fun k hk => by
      have := h1 (k : Int) (List.mem_map.mpr ⟨k, hk, rfl⟩)
      omega⟩
end
end EL
namespace EL
open PySem PySem.Spec PyProof.Rows L2
/-! ### a tuple of one number, so many times -/
section
variable {l : Addr} {items : Array Value} {n : Nat} {dd : Option Addr} {sl : Array (Option Value)} {x : Int} {u : Tok}
theorem tup_mul1 (hx : x = 1) : Meets (Builtin.«tuple.__mul__» ⟨[.ref l, .int x u], []⟩) (fun _ R s => s.heap.get? l = some { cls := .type "tuple", dict := dd, data := .seq items n, slots := sl } ∧ R (.ok (.ret (Value.ref l))) s) :=
  .of_wp fun prog w A R s h => by
    obtain ⟨hp, g, d, tk, os⟩ := s
    obtain ⟨hl, h⟩ := h
    subst hx
    have f1 := AutoSeq1.idx_int
    have f2 := AutoSeq1.sub_tuple_tuple
    wp_walk using PySem.AutoSeq1.wpAny_loadPart' hl
    have c1 : (items.isEmpty || (1 : Int) == 1) = true := by simp
    repeat (first
      | (refine wpAny_ite_true (decide_eq_true c1) ?_; wp_walk using PySem.AutoSeq1.wpAny_loadPart' hl))
    exact ⟨_, rfl, h⟩
theorem tup_mul0 (hx : x ≤ 0) (h0 : -(2 ^ 63) ≤ x) (he : items.isEmpty = false) : Meets (Builtin.«tuple.__mul__» ⟨[.ref l, .int x u], []⟩) (fun _ R s => s.heap.get? l = some { cls := .type "tuple", dict := dd, data := .seq items n, slots := sl } ∧
      R (.ok (.ret (Value.ref s.heap.objs.size))) { s with heap := s.heap.push { cls := Value.type "tuple", data := Data.seq #[] }, toks := s.toks }) :=
  .of_wp fun prog w A R s h => by
    obtain ⟨hp, g, d, tk, os⟩ := s
    obtain ⟨hl, h⟩ := h
    have c0 : (decide (x < -(2 ^ 63)) || decide (x ≥ 2 ^ 63)) = false := by
      rw [decide_eq_false (by omega), decide_eq_false (by omega)]
      rfl
    have c1 : (items.isEmpty || x == 1) = false := by
      rw [he, Bool.false_or]
      exact beq_eq_false_iff_ne.mpr (by omega)
    have c2 : (decide (x ≤ 0) || items.isEmpty) = true := by
      rw [decide_eq_true hx]
      rfl
    have f1 := AutoSeq1.idx_int
    wp_walk using PySem.AutoSeq1.wpAny_loadPart' hl
    repeat (first
      | (refine wpAny_ite_false (decide_eq_false (by rw [c0]; exact Bool.false_ne_true)) ?_; wp_walk using PySem.AutoSeq1.wpAny_loadPart' hl)
      | (refine wpAny_ite_false (decide_eq_false (by rw [c1]; exact Bool.false_ne_true)) ?_; wp_walk using PySem.AutoSeq1.wpAny_loadPart' hl)
      | (refine wpAny_ite_true (decide_eq_true c2) ?_; wp_walk using PySem.AutoSeq1.wpAny_loadPart' hl))
    exact ⟨_, rfl, h⟩
end
/-- t * k, t not empty -/
def rRep0 (K : PySem.W.Frag) : R2 := fun x y H Q => ∃ l k xs, x = .ref l ∧ y = .int k ∧ SqT K H l xs ∧ xs ≠ [] ∧ ((k = 1 ∧ Q (.ref l) H) ∨ (k = 0 ∧ ∀ p, H p = none → Q (.ref p) (upd H p (.tup []))))
section
variable {X : Cx}
theorem op_rep0 : OpR X (binaryOp .Mult) (rRep0 X.K) := by
  intro pins s σ H x y v u Q I rx ry h
  obtain ⟨l, k, xs, rfl, rfl, hT, hne, hq⟩ := h
  cases rx
  obtain ⟨t, rfl⟩ := ry
  obtain ⟨its, r, ⟨⟨cls, dd, data, sl⟩, ho, hc, n, hd⟩, hs⟩ := I.tuple hT
  simp only at hc hd
  subst hc hd
  have hi : its.toArray.isEmpty = false := by
    cases its with
    | nil =>
      cases r
      exact absurd rfl hne
    | cons a b => rfl
  have go : ∀ {Z : Result → Shared → Prop} {R : Value → Shared → Prop}, wpAny (model X.prog X.w) X.A (call (.builtin "tuple.__mul__") [.ref l, .int k t]) (EP X pins σ Q) X.xe s → wpAny (model X.prog X.w) X.A (binaryOp .Mult (.ref l) (.int k t)) (EP X pins σ Q) X.xe s := fun {Z R} hm =>
    wpAny_binaryOp_repeat_ref (T := "tuple") (U := "int") (by decide) ⟨_, ho, rfl⟩ (fun s' => typeIs_int s' k t) noFill_tuple_mul F.fills_int_mul F.slot_int_rmul repeat_tuple F.slot_int_index.lookup
      (call_meets F.slot_int_rmul (typeIs_int s k t) F.entry_int_rmul (F.args_int_rmul_2 _ _) (int_rmul_tuple k t l its.toArray n dd sl) ⟨ho, rfl, ⟨_, ho, rfl⟩, hm⟩)
  rcases hq with ⟨e, q⟩ | ⟨e, q⟩
  · refine go (Z := fun _ _ => True) (R := fun _ _ => True) ?_
    exact call_meets F.slot_tuple_mul ⟨_, ho, rfl⟩ F.entry_tuple_mul (F.args_tuple_mul_2 _ _) (tup_mul1 (l := l) (items := its.toArray) (n := n) (dd := dd) (sl := sl) e) ⟨ho, ⟨.ref l, H, I, rfl, q⟩⟩
  · refine go (Z := fun _ _ => True) (R := fun _ _ => True) ?_
    refine call_meets F.slot_tuple_mul ⟨_, ho, rfl⟩ F.entry_tuple_mul (F.args_tuple_mul_2 _ _) (tup_mul0 (l := l) (items := its.toArray) (n := n) (dd := dd) (sl := sl) (by omega) (by omega) hi) ⟨ho, ?_⟩
    exact ⟨.ref s.heap.objs.size, _, I.laid (t' := s.toks) (o := .tup []) (fun b ob q => Heap.get?_push_of_some _ q) (Nat.le_refl _) ⟨Nat.zero_le _, [], .nil, IsTup.new _ _⟩, rfl, q _ (I.hok.fresh (Nat.le_refl _))⟩
end
section
variable {X : Cx} {B : Bs} {G G' : Hp} {γ γ' : Gm} {σ σ' : L2.St} {H H' : Hp} {e a b : Expr} {ta tb t : DT} {pos : Pos} {st : Stmt} {p : Addr}
/-- (x,) * n -/
def repTF : F2 := fun d e R => ∃ c k, d = .tup [c] ∧ e = .int (k : Nat) ∧ k ≤ 1000 ∧ R (.tup (List.replicate k c))
theorem ok_repT (hK : X.K = B.K) : OkR2 B (fun x y H Q => rRepT X.K x y H Q ∨ rRep0 X.K x y H Q) repTF := by
  intro G γ σ H x y d e R Q S rx ry h k
  rw [hK]
  obtain ⟨c, n, rfl, rfl, hn, h⟩ := h
  cases rpInt ry
  cases rx with
  | tup ht ra =>
    rename_i a vs
    cases ra with
    | cons r1 r2 =>
      cases r2
      rename_i v
      rcases Nat.lt_or_ge n 2 with h2 | h2
      · refine .inr ⟨_, _, _, rfl, rfl, ht.sq S.sub, (fun z => by cases z), ?_⟩
        rcases Nat.eq_zero_or_pos n with e | e
        · subst e
          refine .inr ⟨rfl, fun p hp => ?_⟩
          obtain ⟨G2, s2, S2, q2⟩ := S.newTup (vs := []) (ds := []) .nil hp
          exact k _ _ _ _ h s2 S2 q2
        · have e : n = 1 := by omega
          subst e
          exact .inl ⟨rfl, k _ _ _ _ h (Same.refl _) S (.tup ht (.cons r1 .nil))⟩
      · refine .inl ⟨_, _, _, rfl, rfl, ht.sq S.sub, (fun z => by cases z), by omega, by omega, by show 1 ≤ 1000; decide, fun p hp => ?_⟩
        have e : (List.replicate (n : Int).toNat [v]).flatten = List.replicate n v := by
          rw [Int.toNat_natCast]
          clear hn h h2 ry
          induction n with
          | zero => rfl
          | succ n ih => rw [List.replicate_succ, List.flatten_cons, ih]; rfl
        rw [e]
        have rr : RpAll B.W G (List.replicate n v) (List.replicate n c) := by
          clear hn h h2 e ry
          induction n with
          | zero => exact .nil
          | succ n ih => exact .cons r1 ih
        obtain ⟨G2, s2, S2, q2⟩ := S.newTup rr hp
        exact k _ _ _ _ h s2 S2 q2
theorem d_repT (hK : X.K = B.K) (ha : PE X a (tD B ta)) (hb : PE X b (tD B tb)) : PE X (.BinOp a .Mult b pos) (tD B (dOp repTF ta tb)) := d_op (OpR.or op_repT op_rep0) (ok_repT hK) ha hb
/-- a < b of tuples of numbers -/
def ltTP : FP := fun d e R => ∃ a b, d = kX a ∧ e = kX b ∧ R (a < b)
theorem lex_nats : ∀ a b : List Nat, HT.lexLt (a.map fun n : Nat => (n : Int)) (b.map fun n : Nat => (n : Int)) = decide (a < b)
  | [], [] => by simp [HT.lexLt]
  | [], _ :: _ => by simp [HT.lexLt]
  | _ :: _, [] => by simp [HT.lexLt]
  | x :: a, y :: b => by
    rw [List.map_cons, List.map_cons, HT.lexLt_cons, lex_nats a b]
    by_cases h : x = y
    · subst h
      rw [if_pos rfl]
      exact decide_eq_decide.mpr ⟨fun h => List.cons_lt_cons_iff.mpr (.inr ⟨rfl, h⟩), fun h => (List.cons_lt_cons_iff.mp h).elim (fun z => by omega) (·.2)⟩
    · rw [if_neg (by omega)]
      exact decide_eq_decide.mpr ⟨fun z => List.cons_lt_cons_iff.mpr (.inl (by omega)), fun z => (List.cons_lt_cons_iff.mp z).elim (fun z => by omega) fun z => absurd z.1 h⟩
theorem ok_ltT (hK : X.K = B.K) : OkRP B (rLtT X.K) ltTP := by
  intro G γ σ H x y d e R Q S rx ry h k
  rw [hK]
  obtain ⟨a, b, rfl, rfl, h⟩ := h
  cases rx with
  | tup ht ra =>
    cases ry with
    | tup ht' ra' =>
      have e1 := ht.sq S.sub
      have e2 := ht'.sq S.sub
      rw [rp_nats ra] at e1
      rw [rp_nats ra'] at e2
      refine ⟨_, _, a.map fun n : Nat => (n : Int), b.map fun n : Nat => (n : Int), rfl, rfl, by rw [List.map_map]; exact e1, by rw [List.map_map]; exact e2, ?_⟩
      rw [lex_nats]
      exact k _ _ _ _ h (by simp) (Same.refl _) S
/-- x.bit_length() of a number from 0 on -/
def dBits (t : DT) : DT := fun γ R => t γ fun d γ1 => ∃ n : Nat, d = .int n ∧ ∀ b : Nat, n < 2 ^ b → b ≤ n → R (.int b) γ1
theorem d_bits (h : PE X e (tBits (tD B t))) : PE X e (tD B (dBits t)) := pe_imp h fun σ H Q ⟨G, γ, R, S, h, k⟩ =>
  ⟨G, γ, _, S, h, fun d γ1 G1 v H1 ⟨n, e, q⟩ s1 S1 r1 => by
    subst e
    cases rpInt r1
    have hle : Builtin.Int.intBits (n : Int) ≤ Builtin.Int.intBits (n : Int) := Nat.le_refl _
    refine ⟨_, rfl, k _ _ _ _ _ (q _ ?_ ?_) s1 S1 (.int _)⟩
    · have := PySem.intBits_le_iff.mp hle
      simpa using this
    · exact PyProof.Rows.intBits_le (by simpa using Nat.lt_two_pow_self)⟩
/-- max(t, default=0) -/
def dMaxT0 (ta tk : DA) : DT := fun γ R => ta γ fun ds γ1 => tk γ1 fun es γ2 => ∃ ks, ds = [kX ks] ∧ es = [.int 0] ∧ ∀ m : Nat, (ks = [] → m = 0) → (ks ≠ [] → m ∈ ks) → (∀ k ∈ ks, k ≤ m) → R (.int m) γ2
theorem d_maxT0 {tx tk : DA} (hK : X.K = B.K) (h : PE X e (tCKw (rMaxT0 X.K) (tDA B tx) (tDA B tk))) : PE X e (tD B (dMaxT0 tx tk)) := pe_imp h fun σ H Q ⟨G, γ, R, S, h, k⟩ =>
  ⟨G, γ, _, S, h, fun ds γ1 G1 vs H1 h1 s1 S1 r1 => ⟨G1, γ1, _, S1, h1, fun es γ2 G2 zs H2 ⟨ks, e1, e2, q⟩ s2 S2 r2 => by
    subst e1 e2
    cases r1 with
    | cons a b =>
      cases b
      cases r2 with
      | cons c d =>
        cases d
        cases rpInt c
        cases a with
        | tup ht ra =>
          have ht' := (ht.mono s2).sq S2.sub
          rw [rp_nats ra] at ht'
          rw [hK]
          exact ⟨_, ks, rfl, rfl, ht', fun m h1 h2 h3 => k _ _ _ _ _ (q m h1 h2 h3) (s1.trans s2) S2 (.int _)⟩⟩⟩
/-- sorted(d) -/
def fSortT (ta : DA) : DA := fun γ R => ta γ fun ds γ1 => match ds with
  | [.dcT kvs] => ((∀ t ∈ kvs, t.1 ≠ []) ∨ kvs.length ≤ 1) ∧ ∀ ks : List (List Nat), ks.Perm (kvs.map (·.1)) → ks.Pairwise (fun a b => ¬ b < a) → R (ks.map kX) γ1
  | _ => False
theorem refs_key {W : Cw} {G : Hp} : ∀ {bs : List (Addr × List Nat)}, (∀ b ∈ bs, G b.1 = some (.tup ((embK b.2).map kV))) → RpAll W G (bs.map fun b => V.ref b.1) ((bs.map (·.2)).map kX)
  | [], _ => .nil
  | b :: bs, h => .cons (key_rp (h b List.mem_cons_self)) (refs_key fun c hc => h c (List.mem_cons_of_mem _ hc))
theorem f_sortT {ta : DA} (h : PE X e (tCB rSortT (tDA B ta))) : PE X e (tDF B (fSortT ta)) := pe_imp h fun σ H Q ⟨G, γ, R, S, h, k⟩ =>
  ⟨G, γ, _, S, h, fun ds γ1 G1 vs H1 q sm S1 r => by
    split at q
    · rename_i kvs
      obtain ⟨e1, hR⟩ := q
      cases r with
      | cons r1 r2 =>
        cases r2
        cases r1 with
        | dcT hs =>
          refine ⟨_, kvs, rfl, S1.sub _ _ hs, e1, fun bs p hp hw hb hn => ?_⟩
          exact k _ _ _ _ _ _ (hR _ hp hw) sm (S1.laid (fun _ z => nomatch z) hn) upd_same (refs_key fun b hb' => S1.tups _ _ (hb b hb')) (S1.free0 hn) (S1.sub.free hn) (S1.noslot hn)
    · exact q.elim⟩
def fSortI (ta : DA) : DA := fun γ R => ta γ fun ds γ1 => match ds with
  | [.dct kvs] => ∃ ks : List Int, kvs.map (·.1) = ks.map Sum.inl ∧ ∀ ys : List Int, ys.Perm ks → ys.Pairwise (fun a b => a ≤ b) → R (ys.map D.int) γ1
  | _ => False
theorem ints_rp' {W : Cw} {G : Hp} : ∀ ks : List Int, RpAll W G (ks.map V.int) (ks.map D.int)
  | [] => .nil
  | _ :: ks => .cons (.int _) (ints_rp' ks)
theorem f_sortI {ta : DA} (h : PE X e (tCB rSortI (tDA B ta))) : PE X e (tDF B (fSortI ta)) := pe_imp h fun σ H Q ⟨G, γ, R, S, h, k⟩ =>
  ⟨G, γ, _, S, h, fun ds γ1 G1 vs H1 q sm S1 r => by
    split at q
    · obtain ⟨ks, e1, hR⟩ := q
      cases r with
      | cons r1 r2 =>
        cases r2
        cases r1 with
        | dct hs ra =>
          refine ⟨_, _, ks, rfl, S1.sub _ _ hs, (RpKv.keys' ra).trans e1, fun ys p hp hw hn => ?_⟩
          exact k _ _ _ _ _ _ (hR _ hp hw) sm (S1.laid (fun _ z => nomatch z) hn) upd_same (ints_rp' ys) (S1.free0 hn) (S1.sub.free hn) (S1.noslot hn)
    · exact q.elim⟩
end
end EL
namespace EL
open PySem PySem.Spec PyProof.Rows L2
open PySem.W (EachIs AllAlike Sortable dataLe dataLt)
/-! ### sorted(d.items()), d keyed by tuples of numbers -/
abbrev encI (t : List Nat × Int) : PyData := .tuple [encK t.1, .int t.2]
/-- one before another: by the tuple, then by the number -/
def itLt (a b : List Nat × Int) : Prop := a.1 < b.1 ∨ (a.1 = b.1 ∧ a.2 < b.2)
theorem eqv_encK (a b : List Nat) : PyData.eqv (encK a) (encK b) = true ↔ a = b := by
  have h1 : PyData.eqv (encK a) (encK b) = decide ((a.map fun n : Nat => (n : Int)) = b.map fun n : Nat => (n : Int)) := PySem.W.Datum.eqv (α := PySem.W.Tup Int) ⟨_⟩ ⟨_⟩ |>.trans (by
    refine decide_eq_decide.mpr ⟨fun h => ?_, fun h => by rw [h]⟩
    injection h)
  rw [h1, decide_eq_true_iff]
  constructor
  · intro h
    refine List.map_inj_right (f := fun n : Nat => (n : Int)) (fun x y e => by omega) |>.mp h
  · intro h
    rw [h]
theorem lt_encI (a b : List Nat × Int) : dataLt (encI a) (encI b) = true ↔ itLt a b := by
  have e1 : dataLt (encI a) (encI b) = if PyData.eqv (encK a.1) (encK b.1) = true then (if PyData.eqv (.int a.2) (.int b.2) = true then false else dataLt (.int a.2) (.int b.2)) else dataLt (encK a.1) (encK b.1) :=
    PySem.W.dataLt_pair (alike_encK _ _) (by simp only [PySem.W.alike])
  rw [e1]
  unfold itLt
  by_cases h : a.1 = b.1
  · rw [if_pos ((eqv_encK _ _).mpr h), PySem.W.dataLt_int]
    have e2 : PyData.eqv (.int a.2) (.int b.2) = decide (a.2 = b.2) := PySem.W.Datum.eqv (α := Int) a.2 b.2
    rw [e2, h]
    by_cases h2 : a.2 = b.2
    · rw [if_pos (decide_eq_true h2), h2]
      exact ⟨fun z => (by cases z), fun z => z.elim (fun z => absurd z (List.lt_irrefl _)) fun z => absurd z.2 (by omega)⟩
    · rw [if_neg (by rw [decide_eq_false h2]; decide), decide_eq_true_iff]
      exact ⟨fun z => .inr ⟨rfl, z⟩, fun z => z.elim (fun z => absurd z (List.lt_irrefl _)) (·.2)⟩
  · rw [if_neg (fun z => h ((eqv_encK _ _).mp z)), lt_encK, decide_eq_true_iff]
    exact ⟨.inl, fun z => z.elim id fun z => absurd z.1 h⟩
/-- the pairs: where they stand, where their tuples stand -/
def rSortIt : List V → Hp → VK → Prop := fun vs H Q => ∃ (p a : Addr) (kvs : List (List Nat × Int)), vs = [.ref p] ∧ H p = some (DX.itemsO p a) ∧ H a = some (dtV kvs) ∧
  ∀ (H' : Hp) (l : Addr) (ps : List (Addr × Addr × (List Nat × Int))), (∀ b o, H b = some o → H' b = some o) → (ps.map (·.2.2)).Perm kvs → (ps.map (·.2.2)).Pairwise (fun x y => ¬ itLt y x) → H l = none → H' l = some (.lst (ps.map fun z => V.ref z.1)) →
    (∀ z ∈ ps, H' z.1 = some (.tup [.ref z.2.1, .int z.2.2.2]) ∧ H' z.2.1 = some (.tup ((embK z.2.2.1).map kV))) → Q (.ref l) H'
section
variable {X : Cx}
theorem keysT_at {H : Hp} : ∀ {kvs : List (List Nat × Int)} {xs : List (List Key × Addr × Value)}, Paired (fun (p : List Key × V) (q : List Key × Addr × Value) => p.1 = q.1 ∧ H q.2.1 = some (.tup (p.1.map kV)) ∧ RelV p.2 q.2.2) (kvs.map dtE) xs →
    ∀ {j : Nat} {q : List Key × Addr × Value}, xs[j]? = some q → ∃ t, kvs[j]? = some t ∧ H q.2.1 = some (.tup ((embK t.1).map kV)) ∧ RelV (.int t.2) q.2.2
  | [], _, r, j, q, h => by
    cases r
    simp at h
  | t :: kvs, _, r, 0, q, h => by
    cases r with
    | cons h1 r =>
      have h := Option.some.inj h
      subst h
      exact ⟨t, rfl, h1.2.1, h1.2.2⟩
  | t :: kvs, _, r, j + 1, q, h => by
    cases r with
    | cons h1 r => exact keysT_at r (j := j) (by simpa using h)
theorem vals_refs3 : ∀ bs : List (Addr × Addr × (List Nat × Int)), Vals (bs.map fun b => V.ref b.1) (bs.map fun b => Value.ref b.1)
  | [] => .nil
  | _ :: r => .cons rfl (vals_refs3 r)
/-- what stands at each place of what was collected -/
theorem made_all {es : Array DictEntry} {h : Heap} {H : Hp} {kvs : List (List Nat × Int)} {as : List Addr} (hl : as.length = kvs.length)
    (h1 : ∀ (j : Nat) (a : Addr), as[j]? = some a → ∃ (t : List Nat × Int) (q : Addr) (u : Tok), kvs[j]? = some t ∧ H q = some (.tup ((embK t.1).map kV)) ∧ h.get? a = some { cls := .type "tuple", data := .seq #[.ref q, .int t.2 u] }) :
    ∃ bs : List (Addr × Addr × (List Nat × Int)), bs.map (·.1) = as ∧ bs.map (·.2.2) = kvs ∧ ∀ b ∈ bs, H b.2.1 = some (.tup ((embK b.2.2.1).map kV)) ∧ ∃ u, h.get? b.1 = some { cls := .type "tuple", data := .seq #[.ref b.2.1, .int b.2.2.2 u] } := by
  induction as generalizing kvs with
  | nil =>
    cases kvs with
    | nil => exact ⟨[], rfl, rfl, fun b hb => by cases hb⟩
    | cons t r => cases hl
  | cons a as ih =>
    cases kvs with
    | nil => cases hl
    | cons t kvs =>
      obtain ⟨bs, e1, e2, e3⟩ := ih (kvs := kvs) (Nat.succ.inj hl) fun j c hj => by
        obtain ⟨t', q, u, z1, z2, z3⟩ := h1 (j + 1) c (by simpa using hj)
        exact ⟨t', q, u, by simpa using z1, z2, z3⟩
      obtain ⟨t', q, u, z1, z2, z3⟩ := h1 0 a rfl
      have z1 : t = t' := Option.some.inj z1
      subst z1
      refine ⟨(a, q, t) :: bs, by rw [List.map_cons, e1], by rw [List.map_cons, e2], fun b hb => ?_⟩
      rcases List.mem_cons.mp hb with e | hb
      · subst e
        exact ⟨z2, u, z3⟩
      · exact e3 b hb
theorem cr_sortIt (hc : X.calm = true) (hu : X.A.units + 64 < cLine) : CallR X (.builtin "sorted") rSortIt := by
  intro pins s σ H xs us Q I r h
  obtain ⟨p, a, kvs, rfl, hp, ha, q⟩ := h
  obtain rfl := Vals.ref1 r
  have view : s.heap.IsItemsView p a := (show ObjOk X.prog X.w H s.heap p (DX.itemsO p a) from I.hok p _ hp).1
  obtain ⟨z, hs, ks, pr, o, es, ep, ho, hx, hdt, hen, hn⟩ := I.hok a _ ha
  have l1 : es.size = ks.length := size_of_entries hen
  have l2 : kvs.length = ks.length := by
    have := Paired.length pr
    rw [List.length_map] at this
    exact this
  rw [List.length_map] at z
  have knd : (kvs.map (·.1)).Nodup := by
    have e : ∀ {kvs : List (List Nat × Int)} {xs : List (List Key × Addr × Value)}, Paired (fun (p : List Key × V) (q : List Key × Addr × Value) => p.1 = q.1 ∧ H q.2.1 = some (.tup (p.1.map kV)) ∧ RelV p.2 q.2.2) (kvs.map dtE) xs → (kvs.map (·.1)).map embK = xs.map (·.1) := fun {kvs xs} r => by
      induction kvs generalizing xs with
      | nil => cases r; rfl
      | cons t kvs ih =>
        cases r with
        | cons h r => rw [List.map_cons, List.map_cons, List.map_cons, ih r, ← h.1]
    have e2 := e pr
    rw [← e2] at hn
    exact (List.pairwise_map.mp hn).imp fun {x y} h z => h (by rw [z])
  refine sorted_by (bs := kvs) (enc := encI) (R := fun h' vs v t => ∃ b : Addr × Addr × (List Nat × Int), b.2.2 = t ∧ v = .ref b.1 ∧ v ∈ vs ∧ s.heap.objs.size ≤ b.1 ∧ H b.2.1 = some (.tup ((embK t.1).map kV)) ∧ ∃ u, h'.get? b.1 = some { cls := .type "tuple", data := .seq #[.ref b.2.1, .int t.2 u] })
    (P := fun h' vs => Grows s.heap h' ∧ ∃ bs : List (Addr × Addr × (List Nat × Int)), vs = bs.map (fun b => Value.ref b.1) ∧ bs.map (·.2.2) = kvs ∧ ∀ b ∈ bs, s.heap.objs.size ≤ b.1 ∧ H b.2.1 = some (.tup ((embK b.2.2.1).map kV)) ∧ ∃ u, h'.get? b.1 = some { cls := .type "tuple", data := .seq #[.ref b.2.1, .int b.2.2.2 u] })
    (fun Z hZ => ?_) (by omega) (fun h' vs hP => ?_) (fun h' vs hP => ?_) ?_ (fun h2 => ?_) (fun b _ => ?_) ?_
  · refine DT.collectI (A := X.A.in1) (es := es) (ep := ep) (I.ok.hd hc) view ⟨o, ho, hx, hdt⟩ (by omega) fun h' tk as kp hlt hl hG => hZ h' tk _ kp ⟨kp, ?_⟩
    obtain ⟨bs, e1, e2, e3⟩ := made_all (es := es) (h := h') (H := H) (kvs := kvs) (as := as) (by omega) fun j c hj => by
      obtain ⟨en, he, hg⟩ := hG.pairs j c hj
      have qe := entry_at hen j
      rw [he] at qe
      cases hb : ks[j]? with
      | none =>
        rw [hb] at qe
        exact nomatch (show some en = none from qe)
      | some b =>
        rw [hb] at qe
        have e2 : en = entryOfKey (tupleKind (mixKind X.prog X.w)) b := Option.some.inj qe
        obtain ⟨t, t1, t2, u, t3⟩ := keysT_at pr hb
        refine ⟨t, b.2.1, u, t1, t2, ?_⟩
        rw [hg, e2, ← t3]
        rfl
    refine ⟨bs, ?_, e2, fun b hb => ⟨?_, e3 b hb⟩⟩
    · rw [← e1, List.map_map]
      rfl
    · exact Nat.le_of_lt (hG.above b.1 (by rw [← e1]; exact List.mem_map.mpr ⟨b, hb, rfl⟩))
  · obtain ⟨_, bs, e1, e2, e3⟩ := hP
    rw [← e2]
    have e4 : ∀ b ∈ bs, Value.ref b.1 ∈ vs := fun b hb => by rw [e1]; exact List.mem_map.mpr ⟨b, hb, rfl⟩
    have go : ∀ cs : List (Addr × Addr × (List Nat × Int)), (∀ b ∈ cs, b ∈ bs) → EachIs (fun v t => ∃ b : Addr × Addr × (List Nat × Int), b.2.2 = t ∧ v = .ref b.1 ∧ v ∈ vs ∧ s.heap.objs.size ≤ b.1 ∧ H b.2.1 = some (.tup ((embK t.1).map kV)) ∧ ∃ u, h'.get? b.1 = some { cls := .type "tuple", data := .seq #[.ref b.2.1, .int t.2 u] }) (cs.map fun b => Value.ref b.1) (cs.map (·.2.2)) := fun cs => by
      induction cs with
      | nil => exact fun _ => .nil
      | cons b cs ih =>
        intro h
        have hb := h b List.mem_cons_self
        obtain ⟨k1, k2, k3⟩ := e3 b hb
        exact .cons ⟨b, rfl, rfl, e4 b hb, k1, k2, k3⟩ (ih fun c hc => h c (List.mem_cons_of_mem _ hc))
    have := go bs fun _ h => h
    rw [← e1] at this
    exact this
  · obtain ⟨kp, bs, e1, e2, e3⟩ := hP
    rw [e1, ← e2]
    clear e1 e2
    induction bs with
    | nil => exact .nil
    | cons b bs ih =>
      refine .cons ?_ (ih fun c hc => e3 c (List.mem_cons_of_mem _ hc))
      obtain ⟨_, k1, u, k2⟩ := e3 b List.mem_cons_self
      exact .tuple k2 rfl rfl (.cons (as := []) (bs := []) (PyProof.Rows.Reads.keeps kp (reads_key I k1)) (.cons (as := []) (bs := []) (.int _ _) .nil))
  · refine AllAlike.of fun x y => ?_
    show PySem.W.alike (.tuple _) (.tuple _) = true
    simp only [PySem.W.alike, PySem.W.alikeAll, Bool.and_true]
    exact alike_encK _ _
  · exact Sortable.tuples fun b => ⟨_, _, rfl⟩
  · show X.A.units + 2 + (PyData.tuple [encK b.1, .int b.2]).depth < cLine
    simp only [PyData.depth, PyData.depthAll]
    have := depth_encK b.1
    simp only [PyData.depth] at this
    omega
  · intro h' tk vs out cs h2 dd n kp hP ho hpm hw kp2 hdd edd
    subst edd
    -- the pairs in their row
    have go : ∀ {out : List Value} {cs : List (List Nat × Int)}, EachIs (fun v t => ∃ b : Addr × Addr × (List Nat × Int), b.2.2 = t ∧ v = .ref b.1 ∧ v ∈ vs ∧ s.heap.objs.size ≤ b.1 ∧ H b.2.1 = some (.tup ((embK t.1).map kV)) ∧ ∃ u, h'.get? b.1 = some { cls := .type "tuple", data := .seq #[.ref b.2.1, .int t.2 u] }) out cs →
        ∃ ps : List (Addr × Addr × (List Nat × Int)), ps.map (·.2.2) = cs ∧ out = ps.map (fun b => Value.ref b.1) ∧ ∀ b ∈ ps, s.heap.objs.size ≤ b.1 ∧ H b.2.1 = some (.tup ((embK b.2.2.1).map kV)) ∧ ∃ u, h'.get? b.1 = some { cls := .type "tuple", data := .seq #[.ref b.2.1, .int b.2.2.2 u] } := fun {out cs} e => by
      induction e with
      | nil => exact ⟨[], rfl, rfl, fun _ h => by cases h⟩
      | cons h _ ih =>
        obtain ⟨b, rfl, rfl, _, k1, k2, k3⟩ := h
        obtain ⟨ps, e1, e2, e3⟩ := ih
        refine ⟨b :: ps, by rw [List.map_cons, e1], by rw [List.map_cons, e2], fun c hc => ?_⟩
        rcases List.mem_cons.mp hc with e | hc
        · subst e
          exact ⟨k1, k2, k3⟩
        · exact e3 c hc
    obtain ⟨ps, p1, p2, p3⟩ := go ho
    subst p2
    have cnd : (cs.map (·.1)).Nodup := (hpm.map (·.1)).nodup_iff.mpr knd
    have und : ∀ x ∈ ps, ∀ y ∈ ps, x.1 = y.1 → x.2.2 = y.2.2 := fun x hx y hy e => by
      obtain ⟨_, kx, ux, ox⟩ := p3 x hx
      obtain ⟨_, ky, uy, oy⟩ := p3 y hy
      rw [e, oy] at ox
      have ox := Option.some.inj ox
      injection ox with _ _ ox
      injection ox with ox _
      have ox : [Value.ref y.2.1, Value.int y.2.2.2 uy] = [Value.ref x.2.1, Value.int x.2.2.2 ux] := congrArg Array.toList ox
      injection ox with o1 o2
      injection o1 with o1
      injection o2 with o2 _
      injection o2 with o2 _
      rw [← o1, ky] at kx
      have kx := Option.some.inj kx
      injection kx with kx
      rw [kV_emb, kV_emb] at kx
      have : y.2.2.1 = x.2.2.1 := List.map_inj_right (f := fun n : Nat => V.int (n : Int)) (fun a b e => by injection e with e; omega) |>.mp kx
      exact Prod.ext this.symm o2.symm
    have pnd : (ps.map (·.1)).Nodup := by
      have c2 : ((ps.map (·.2.2)).map (·.1)).Nodup := by rw [p1]; exact cnd
      have : ps.Pairwise fun x y => x.2.2.1 ≠ y.2.2.1 := by
        rw [List.map_map] at c2
        exact List.pairwise_map.mp c2
      rw [List.Nodup, List.pairwise_map]
      exact this.imp_of_mem fun {x y} hx hy h e => h (by rw [und x hx y hy e])
    have I1 : Inv X pins σ H { s with heap := h', toks := tk } := I.kept (t' := tk) kp
    have hlen : (ps.map fun b => V.ref b.1).length ≤ sizeLine := by
      have := hpm.length_eq
      rw [← p1, List.length_map] at this
      rw [List.length_map]
      omega
    have dn : H h'.objs.size = none := I1.hok.fresh (Nat.le_refl _)
    have I2 : Inv X pins σ (upd H h'.objs.size (.lst (ps.map fun b => V.ref b.1))) { s with heap := h2, toks := tk } := I1.laid (t' := tk) kp2 (Nat.le_refl _) ⟨hlen, _, n, vals_refs3 ps, hdd⟩
    obtain ⟨H2, I3, g, qt⟩ := DX.takeT (P := fun a vs => ∃ b ∈ ps, b.1 = a ∧ vs = [.ref b.2.1, .int b.2.2.2]) I (ps.map (·.1)) _ I2 pnd fun c hcm => by
      obtain ⟨b, hb, rfl⟩ := List.mem_map.mp hcm
      obtain ⟨k1, k2, u, k3⟩ := p3 b hb
      refine ⟨k1, ?_, _, ⟨b, hb, rfl, rfl⟩, fun H3 => ⟨(by show 2 ≤ sizeLine; decide), [.ref b.2.1, .int b.2.2.2 u], .cons rfl (.cons ⟨_, rfl⟩ .nil), ⟨_, kp2 _ _ k3, rfl, 0, rfl⟩⟩⟩
      rw [upd_ne (Nat.ne_of_lt (Heap.lt_size k3))]
      exact I.hok.fresh k1
    have gr : ∀ b o, H b = some o → H2 b = some o := fun b o e => g b o (by rw [upd_ne (ne_of_none e dn)]; exact e)
    refine ⟨.ref h'.objs.size, H2, I3, rfl, q H2 _ ps gr (by rw [p1]; exact hpm) ?_ dn (g _ _ upd_same) fun b hb => ?_⟩
    · rw [p1]
      refine hw.imp fun {x y} e z => ?_
      rw [(lt_encI y x).mpr z] at e
      cases e
    · obtain ⟨vs', ⟨c, hc1, hc2, hc3⟩, hH⟩ := qt b.1 (List.mem_map.mpr ⟨b, hb, rfl⟩)
      have et := und c hc1 b hb hc2
      obtain ⟨_, kb, ub, ob⟩ := p3 b hb
      obtain ⟨_, kc, uc, oc⟩ := p3 c hc1
      rw [hc2, ob] at oc
      have oc := Option.some.inj oc
      injection oc with _ _ oc
      injection oc with oc _
      have oc : [Value.ref b.2.1, Value.int b.2.2.2 ub] = [Value.ref c.2.1, Value.int c.2.2.2 uc] := congrArg Array.toList oc
      injection oc with o1 _
      injection o1 with o1
      rw [hc3, ← o1, et] at hH
      exact ⟨hH, gr _ _ kb⟩
end
end EL
namespace EL
open PySem PySem.Spec PyProof.Rows L2
/-! ### sorted(d.items()) -/
abbrev tmD (t : List Nat × Int) : D := .tup [kX t.1, .int t.2]
def fSortIt (t : DT) : DA := fun γ R => t γ fun d γ1 => match d with
  | .dcT kvs => ∀ ts : List (List Nat × Int), ts.Perm kvs → ts.Pairwise (fun x y => ¬ itLt y x) → R (ts.map tmD) γ1
  | _ => False
section
variable {X : Cx} {B : Bs} {G G' : Hp} {γ γ' : Gm} {σ σ' : L2.St} {H H' : Hp} {e a b : Expr} {ta tb t : DT} {pos : Pos} {st : Stmt} {p : Addr}
theorem its_rp {W : Cw} {G : Hp} : ∀ {ps : List (Addr × Addr × (List Nat × Int))}, (∀ z ∈ ps, G z.1 = some (.tup [.ref z.2.1, .int z.2.2.2]) ∧ G z.2.1 = some (.tup ((embK z.2.2.1).map kV))) → RpAll W G (ps.map fun z => V.ref z.1) ((ps.map (·.2.2)).map tmD)
  | [], _ => .nil
  | z :: ps, h => by
    obtain ⟨h1, h2⟩ := h z List.mem_cons_self
    exact .cons (.tup (.inl h1) (.cons (key_rp h2) (.cons (.int _) .nil))) (its_rp fun c hc => h c (List.mem_cons_of_mem _ hc))
theorem f_sortIt (h : PE X e (tCB rSortIt (tCons (tBM0 X.K "dict" DX.rItemsT (tD B t)) tNil))) : PE X e (tDF B (fSortIt t)) := pe_imp h fun σ H Q ⟨G, γ, R, S, h, k⟩ =>
  ⟨G, γ, _, S, h, fun d γ1 G1 v H1 h1 s1 S1 r1 => by
    split at h1
    · rename_i kvs
      cases r1 with
      | dcT hs =>
        rename_i a
        have hd : H1 a = some (dtV kvs) := S1.sub _ _ hs
        refine ⟨.inr (.inr (.inl ⟨rfl, .inr ⟨_, hd⟩⟩)), a, _, rfl, rfl, hd, fun p hp => ?_⟩
        have S2 := S1.laid (o := DX.itemsO p a) (fun xs e => by unfold DX.itemsO at e; cases e) hp
        have hne : a ≠ p := fun e => by rw [e, hp] at hd; cases hd
        refine ⟨p, a, kvs, rfl, upd_same, by rw [upd_ne hne]; exact hd, fun H' l ps gr hpm hw hl hl' hps => ?_⟩
        obtain ⟨sm, S3, gl⟩ := S2.grow (H' := H') (l := l) gr hl fun xs z => by rw [hl'] at z; cases z
        refine k _ _ _ _ _ _ (h1 _ hpm hw) (s1.trans sm) S3 hl' (its_rp fun z hz => ⟨S3.tups _ _ (hps z hz).1, S3.tups _ _ (hps z hz).2⟩) (S2.free0 hl) gl (S2.noslot hl)
    · exact h1.elim⟩
end
/-! ### one turn of a comprehension -/
/-- the block stands ahead of its i-th turn -/
structure Stood (Y : Cx) (τ : L2.St) (fps : List Addr) (tn : Nat → Heap → Prop) (i : Nat) (V : Hp) (z : Shared) : Prop where
  inv : Inv Y [] τ V z
  turn : tn i z.heap
  off : ∀ c ∈ fps, V c = none
section
variable {Y : Cx} {τ τ0 : L2.St} {fps : List Addr} {tn : Nat → Heap → Prop} {i : Nat} {V V' : Hp} {z : Shared} {tg : Expr} {J : It} {it : Addr} {g : TG} {vs : List Nat}
theorem Stood.fpo (S : Stood Y τ fps tn i V z) (hx : Y.ex = fps) (hp : Y.pn = []) : ∀ c ∈ fps, FpOk Y [] V c := fun c hc => by
  have hc' : c ∈ Y.ex := by rw [hx]; exact hc
  refine ⟨S.off c hc, (S.inv.ok.exf c hc').1, S.inv.ok.exfs c hc', .inl hc', (S.inv.ok.exf c hc').2, fun p q => ?_⟩
  rw [hp] at q
  cases q
/-- an item is drawn and stored; what comes behind may go back to the next turn -/
theorem Stood.next {Qg : L2.St → Hp → Prop} {Z : Unit → Shared → Prop} (hM : Y.xe = fun _ _ => False) (hcalm : Y.calm = true) (hx : Y.ex = fps) (hp : Y.pn = []) (Tn : Turn Y.prog Y.w Y.K tg J fps it tn) (pg : PG Y tg g)
    (S : Stood Y (wipe τ0 vs) fps tn i V z) (hgo : J.go i V) (hst : ∀ x V', J.yld i V x V' → g x (wipe τ0 vs) V' Qg)
    (hZ : ∀ pl τ3 V3 z3, Inv Y pl τ3 V3 z3 → Qg τ3 V3 → (∀ V4 z4, Inv Y pl τ3 V4 z4 → wipe τ3 vs = wipe τ0 vs → Stood Y (wipe τ0 vs) fps tn (i + 1) V4 z4) → Z () z3) :
    wpAny (model Y.prog Y.w) Y.A (pyNext (.ref it)) (fun r z1 => ∃ u, r = some u ∧ wpAny (model Y.prog Y.w) Y.A (letOwnedTupleGo tg (.ref it) u) (fun _ z2 => wpAny (model Y.prog Y.w) Y.A (assign tg Y.env u) Z (fun _ _ => False) z2) (fun _ _ => False) z1) (fun _ _ => False) z := by
  have drawn := Tn.item Y rfl rfl rfl hcalm i [] z _ V (fun _ _ => False) S.inv (S.fpo hx hp) S.turn hgo
  refine thnF drawn fun r z1 ⟨u, e, more⟩ => ⟨u, e, thnF more fun _ z2 ⟨x, V2, I2, rx, y, t2, n2⟩ => ?_⟩
  have S2 : Stood Y (wipe τ0 vs) fps tn (i + 1) V2 z2 := ⟨I2, t2, n2⟩
  have there := Tn.obj _ _ t2
  have I3 := I2.pinned (S2.fpo hx hp) there
  have stored := pg.run _ z2 _ V2 x u _ I3 rx (hst x V2 y)
  rw [hM] at stored
  refine thnF stored fun _ z3 ⟨τ3, V3, I4, q4⟩ => hZ _ τ3 V3 z3 I4 q4 fun V5 z5 I5 hw => ?_
  have same : ∀ c ∈ fps, ∀ o, z2.heap.get? c = some o → z5.heap.get? c = some o ∧ V5 c = none := fun c hc o ho => by
    obtain ⟨k1, k2, _⟩ := I5.pin (c, o) (List.mem_append_right _ (List.mem_append_right _ (mem_pinsAt hc ho)))
    exact ⟨k1, k2⟩
  refine ⟨(I5.unpinned (pins := [])).weak (by rw [← hw, wipe_length]) fun j v hv => ?_, Tn.keep _ _ _ t2 fun c hc o ho => (same c hc o ho).1, fun c hc => ?_⟩
  · rw [← hw] at hv
    exact (wipe_some hv).1
  · obtain ⟨o, ho, _⟩ := there c hc
    exact (same c hc o ho).2
/-- no item is left -/
theorem Stood.end_ (hcalm : Y.calm = true) (hx : Y.ex = fps) (hp : Y.pn = []) (Tn : Turn Y.prog Y.w Y.K tg J fps it tn) (S : Stood Y τ fps tn i V z) (hstop : J.stop i V) :
    wpAny (model Y.prog Y.w) Y.A (pyNext (.ref it)) (fun r z1 => r = none ∧ Inv Y [] τ V z1) (fun _ _ => False) z := Tn.done Y rfl rfl rfl hcalm i [] z _ V _ S.inv (S.fpo hx hp) S.turn hstop
end
/-- a store by a comprehension, whatever the keys' kind -/
theorem dput_in {Y : Cx} {pl : List (Addr × Obj)} {τ : L2.St} {V : Hp} {z : Shared} {a : Addr} {v : L2.V} {r : Value} {E : Value → Shared → Prop} {Q : Unit → Shared → Prop} (hu : Y.A.units + 1 < cLine) (I : Inv Y pl τ V z) {kvs : List (List Key × L2.V)} {k : List Key} {b : Addr} (ha : V a = some (.dT kvs)) (hb : V b = some (.tup (k.map kV)))
    (hz : kvs.length < sizeLine) (rv : RelV v r) (h : ∀ z', Inv Y pl τ (upd V a (.dT (putK kvs k v))) z' → Q () z') : wpAny (model Y.prog Y.w) Y.A (dictSet a (.ref b) r) Q E z := by
  obtain ⟨hle, hd, xs, rel, dd⟩ := dt_of I.hok ha
  have hl := length_putK kvs k v
  have hxs : xs.length ≤ sizeLine := by rw [← Paired.length rel]; exact hle
  refine wpAny_dictSet_heap (hsz := hxs) (show Y.A.units < cLine by omega) (key_of I.hok hb) dd fun h' dd' hs => h _ ?_
  obtain ⟨q, es, ep, hq, h2, h3, h4, _, h5⟩ := dd'
  refine d_write I (by rw [ha]; exact True.intro) hs ⟨q, hq⟩ ⟨by omega, hd, _, (rel.put k hb rv).keeps fun c ys ec => ?_, q, es, ep, hq, h2, h3, h4, h5⟩
  rw [upd_ne (ne_of ec ha (fun z => nomatch z))]
  exact ec
end EL
namespace EL
open PySem PySem.Spec PyProof.Rows L2
/-! ### a comprehension that makes a dict keyed by tuples -/
def tDcT (wi : TI) (g : TG) (tt : TT) (tk tv : TE) (vs : List Nat) : TE := fun τ V Q => wi τ V fun J V1 => ∀ nd : Addr, V1 nd = none → ∃ Go : Nat → Nat → Hp → Prop, (∃ m, Go 0 m (upd V1 nd (.dT []))) ∧ ∀ i m U, Go i m U →
  (J.stop i U ∧ Q (.ref nd) U) ∨ (J.go i U ∧ ∃ On : Hp → Prop, (∀ U', On U' → ∃ k, k < m ∧ Go (i + 1) k U') ∧ ∀ x U', J.yld i U x U' → g x (wipe τ vs) U' fun τ2 U2 => wipe τ2 vs = wipe τ vs ∧ tt τ2 U2 fun b U3 =>
    if b = true then tk τ2 U3 fun y U4 => tv τ2 U4 fun v U5 => ∃ kvs k c, y = .ref c ∧ U5 nd = some (.dT kvs) ∧ U5 c = some (.tup (k.map kV)) ∧ kvs.length < sizeLine ∧ On (upd U5 nd (.dT (putK kvs k v))) else On U3)
section
variable {X : Cx} {kx vx tg itr : Expr} {ifs : List Expr} {sc : Scope} {ol : List (Str × Nat)} {ps : Pos} {wi : TI} {g : TG} {tt : TT} {tk tv : TE}
/-- what each part of it does, in any block of it -/
structure DcParts (X : Cx) (kx vx tg : Expr) (ifs : List Expr) (sc : Scope) (g : TG) (tt : TT) (tk tv : TE) : Prop where
  tgt : ∀ (z : Shared) (V : Hp) (l : Addr) (cs : List (Str × Addr)) (fps : List Addr), PG (X.blk z V sc (compEnvC sc cs l X.env) fps) tg g
  tst : ∀ (z : Shared) (V : Hp) (l : Addr) (cs : List (Str × Addr)) (fps : List Addr), PTs (X.blk z V sc (compEnvC sc cs l X.env) fps) ifs tt
  key : ∀ (z : Shared) (V : Hp) (l : Addr) (cs : List (Str × Addr)) (fps : List Addr), PE (X.blk z V sc (compEnvC sc cs l X.env) fps) kx tk
  val : ∀ (z : Shared) (V : Hp) (l : Addr) (cs : List (Str × Addr)) (fps : List Addr), PE (X.blk z V sc (compEnvC sc cs l X.env) fps) vx tv
/-- the loop, in the block -/
theorem dcT_loop {Y : Cx} {τ : L2.St} {it nd : Addr} {fps : List Addr} {tn : Nat → Heap → Prop} {J : It} {V : Hp} {z : Shared} {m : Nat} {Go : Nat → Nat → Hp → Prop} {Qd : Hp → Prop} {vs : List Nat} {Rr : Result → Shared → Prop}
    (hM : Y.xe = fun _ _ => False) (hcalm : Y.calm = true) (hex : Y.ex = fps) (hpn : Y.pn = []) (hu : Y.A.units + 1 < cLine) (Tn : Turn Y.prog Y.w Y.K tg J fps it tn)
    (pg : PG Y tg g) (pt : PTs Y ifs tt) (pk : PE Y kx tk) (pv : PE Y vx tv) (S : Stood Y (wipe τ vs) fps tn 0 V z) (h0 : Go 0 m V)
    (each : ∀ i m U, Go i m U → (J.stop i U ∧ Qd U) ∨ (J.go i U ∧ ∃ On : Hp → Prop, (∀ U', On U' → ∃ k, k < m ∧ Go (i + 1) k U') ∧ ∀ x U', J.yld i U x U' → g x (wipe τ vs) U' fun τ2 U2 => wipe τ2 vs = wipe τ vs ∧ tt τ2 U2 fun b U3 =>
      if b = true then tk τ2 U3 fun y U4 => tv τ2 U4 fun v U5 => ∃ kvs k c, y = .ref c ∧ U5 nd = some (.dT kvs) ∧ U5 c = some (.tup (k.map kV)) ∧ kvs.length < sizeLine ∧ On (upd U5 nd (.dT (putK kvs k v))) else On U3))
    (hend : ∀ U z', Inv Y [] (wipe τ vs) U z' → Qd U → Rr (.ok .next) z') :
    codeAny (model Y.prog Y.w) Y.A (.compLoop (.DictComp kx vx [⟨tg, itr, ifs, 0⟩] sc ps) 0 (.ref it) (.ref nd) Y.env) Rr z := by
  refine compLoop_anyD (fun k z' => ∃ i U, Stood Y (wipe τ vs) fps tn i U z' ∧ Go i k U) (fun k z' hz => ?_) m ⟨0, V, S, h0⟩
  obtain ⟨i, U, S, hgo⟩ := hz
  rcases each i k U hgo with ⟨hs, hq⟩ | ⟨hg, On, hOn, step⟩
  · refine thnF (S.end_ hcalm hex hpn Tn hs) fun r z1 ⟨e, I1⟩ => ?_
    subst e
    exact hend U z1 I1 hq
  · refine thnF (S.next hM hcalm hex hpn Tn pg hg step (Z := fun _ z3 => wpAny (model Y.prog Y.w) Y.A (forIn ifs true fun c r => if r = true then do let ok ← isTrue c Y.env (eval c Y.env); pure (ForInStep.yield ok) else pure (ForInStep.yield r)) (fun ok z4 =>
        if ok = true then wpAny (model Y.prog Y.w) Y.A (eval kx Y.env) (fun kv z5 => wpAny (model Y.prog Y.w) Y.A (eval vx Y.env) (fun vv z6 => wpAny (model Y.prog Y.w) Y.A (dictSet nd kv vv) (fun _ z7 => ∃ k', k' < k ∧ ∃ i U, Stood Y (wipe τ vs) fps tn i U z7 ∧ Go i k' U) (fun _ _ => False) z6) (fun _ _ => False) z5) (fun _ _ => False) z4
        else ∃ k', k' < k ∧ ∃ i U, Stood Y (wipe τ vs) fps tn i U z4 ∧ Go i k' U) (fun _ _ => False) z3) fun pl τ3 V3 z3 I3 ⟨hw, q3⟩ back => ?_) fun r z1 ⟨u, e, more⟩ => ?_
    · have back' : ∀ V4 z4, Inv Y pl τ3 V4 z4 → On V4 → ∃ k', k' < k ∧ ∃ i U, Stood Y (wipe τ vs) fps tn i U z4 ∧ Go i k' U := fun V4 z4 I4 on => by
        obtain ⟨k', h1, h2⟩ := hOn V4 on
        exact ⟨k', h1, i + 1, V4, back V4 z4 I4 hw, h2⟩
      have tested := pt.run pl z3 τ3 V3 _ I3 q3
      rw [hM] at tested
      refine thnF tested fun b z4 ⟨V4, I4, q4⟩ => ?_
      cases b with
      | false =>
        rw [if_neg Bool.false_ne_true] at q4 ⊢
        exact back' V4 z4 I4 q4
      | true =>
        rw [if_pos rfl] at q4 ⊢
        have keyed := pk.run pl z4 τ3 V4 _ I4 q4
        rw [hM] at keyed
        refine thnF keyed fun uk z5 ⟨yk, V5, I5, rk, q5⟩ => ?_
        have valued := pv.run pl z5 τ3 V5 _ I5 q5
        rw [hM] at valued
        refine thnF valued fun uv z6 ⟨yv, V6, I6, rv, kvs, kk, c, ey, hd, hc, hl, on⟩ => ?_
        subst ey
        cases rk
        exact dput_in hu I6 hd hc hl rv fun z7 I7 => back' _ z7 I7 on
    · subst e
      refine thnF more fun _ z2 h2 => thnF h2 fun _ z3 h3 => thnF h3 fun b z4 h4 => ?_
      cases b with
      | false =>
        rw [if_neg Bool.false_ne_true] at h4 ⊢
        exact h4
      | true =>
        rw [if_pos rfl] at h4 ⊢
        exact thnF h4 fun _ z5 h5 => thnF h5 fun _ z6 h6 => thnF h6 fun _ _ h7 => h7
/-- from the block's start to its end -/
theorem dcT_block {pl : List (Addr × Obj)} {z3 : Shared} {τ : L2.St} {V3 : Hp} {it nd : Addr} {fps : List Addr} {tn : Nat → Heap → Prop} {J : It} {m : Nat} {Go : Nat → Nat → Hp → Prop} {Qd : Hp → Prop} {use : Option (Value → Sem Unit)} {Qf : Value → Shared → Prop}
    (hcalm : X.calm = true) (hnd : X.N.Nodup) (hu : X.A.units + 64 < cLine) (bo : BlkOk X.N X.env.scope sc ol) (P : DcParts X kx vx tg ifs sc g tt tk tv) (I3 : Inv X pl τ V3 z3) (Tn : Turn X.prog X.w X.K tg J fps it tn) (t3 : tn 0 z3.heap)
    (f3 : ∀ c ∈ fps, FpOk X pl V3 c ∧ c < z3.heap.objs.size) (g0 : Go 0 m V3)
    (each : ∀ i m U, Go i m U → (J.stop i U ∧ Qd U) ∨ (J.go i U ∧ ∃ On : Hp → Prop, (∀ U', On U' → ∃ k, k < m ∧ Go (i + 1) k U') ∧ ∀ x U', J.yld i U x U' → g x (wipe τ (ol.map (·.2))) U' fun τ2 U2 => wipe τ2 (ol.map (·.2)) = wipe τ (ol.map (·.2)) ∧ tt τ2 U2 fun b U3 =>
      if b = true then tk τ2 U3 fun y U4 => tv τ2 U4 fun v U5 => ∃ kvs k c, y = .ref c ∧ U5 nd = some (.dT kvs) ∧ U5 c = some (.tup (k.map kV)) ∧ kvs.length < sizeLine ∧ On (upd U5 nd (.dT (putK kvs k v))) else On U3))
    (hend : ∀ U z' mm, Inv X pl τ U z' → Qd U → z'.heap.Ns z3.heap.objs.size mm → FpOk X pl U z3.heap.objs.size → compPost (model X.prog X.w) X.A X.xe use Qf (.ref nd) z3.heap.objs.size (.ok .next) z') :
    codeAny (model X.prog X.w) X.A (.compStart (.DictComp kx vx [⟨tg, itr, ifs, 0⟩] sc ps) 0 (.ref it) (.ref nd) (compEnvC sc (cellsFrom (z3.heap.objs.size + 1) sc.names (cloFrom X.env.cells sc.names [])) z3.heap.objs.size X.env))
      (compPost (model X.prog X.w) X.A X.xe use Qf (.ref nd) z3.heap.objs.size) { z3 with heap := pushCells (z3.heap.push { cls := .type "dict", data := .dict #[] }) sc.names } := by
  have I4 := block_start I3 bo hnd f3
  have t4 : tn 0 (pushCells (z3.heap.push { cls := .type "dict", data := .dict #[] }) sc.names) := Tn.keep _ _ _ t3 fun c _ o e => pushCells_keeps _ _ _ _ (Heap.get?_push_of_some _ e)
  have loop : codeAny (model X.prog X.w) X.A (.compLoop (.DictComp kx vx [⟨tg, itr, ifs, 0⟩] sc ps) 0 (.ref it) (.ref nd) (compEnvC sc (cellsFrom (z3.heap.objs.size + 1) sc.names (cloFrom X.env.cells sc.names [])) z3.heap.objs.size X.env))
      (compPost (model X.prog X.w) X.A X.xe use Qf (.ref nd) z3.heap.objs.size) { z3 with heap := pushCells (z3.heap.push { cls := .type "dict", data := .dict #[] }) sc.names } := by
    refine dcT_loop (Y := X.blk z3 V3 sc (compEnvC sc (cellsFrom (z3.heap.objs.size + 1) sc.names (cloFrom X.env.cells sc.names [])) z3.heap.objs.size X.env) fps) (Qd := Qd) rfl hcalm rfl rfl (by show X.A.units + 1 < cLine; omega) Tn
      (P.tgt _ _ _ _ fps) (P.tst _ _ _ _ fps) (P.key _ _ _ _ fps) (P.val _ _ _ _ fps) ⟨I4, t4, fun c hc => (f3 c hc).1.1⟩ g0 each fun U z' I5 hq => ?_
    have I6 : Inv X pl τ U z' := I3.call' (ch := fps) I5.os I5.base I5.hok I5.bare fun c hc => by
      obtain ⟨⟨_, k1, _, k2, k3, k4⟩, _⟩ := f3 c hc
      exact ⟨k2, k1, k3, k4⟩
    have nl : U z3.heap.objs.size = none := I5.free
    obtain ⟨mm, hns, _⟩ := I5.loc
    exact hend U z' mm I6 hq hns (I3.fpOk (H' := U) (Nat.le_refl _) nl)
  exact codeAny_compStart_dict loop (Tn.self X.A 0 _ _ _ t4 loop)
/-- the whole of it, what is done with the dict left open -/
theorem dcT_core {use : Option (Value → Sem Unit)} {Qf : Value → Shared → Prop} {pl : List (Addr × Obj)} {z : Shared} {τ : L2.St} {V : Hp} {Q : VK} {vo : Pos} {e : Expr} (he : e = .DictComp kx vx [⟨tg, itr, ifs, 0⟩] sc ps) (hcalm : X.calm = true) (hnd : X.N.Nodup) (hu : X.A.units + 64 < cLine) (I : Inv X pl τ V z) (hi : PI X tg itr wi) (bo : BlkOk X.N X.env.scope sc ol) (P : DcParts X kx vx tg ifs sc g tt tk tv) (hf : ∀ x, foldedSetIterable itr X.env x = pure x)
    (h : tDcT wi g tt tk tv (ol.map (·.2)) τ V Q)
    (hend : ∀ (nd lc : Addr) U z' mm, Inv X pl τ U z' → Q (.ref nd) U → z'.heap.Ns lc mm → FpOk X pl U lc → compPost (model X.prog X.w) X.A X.xe use Qf (.ref nd) lc (.ok .next) z') :
    wpAny (model X.prog X.w) X.A (comprehension e sc X.env vo newDict false (eval itr X.env) use) Qf X.xe z := by
  subst he
  have frees : ∀ y ∈ sc.names, y.2 = .free → ∃ c, X.env.cells.lookup y.1 = some c := fun y hy e => (bo.free y hy e).elim (fun k => I.ok.has _ (.inl k)) fun k => I.ok.has _ (.inr k)
  have walked := hi.run pl z τ V _ I h
  refine wpAny_comprehension_free (use := use) rfl hf (closure_ok frees) bo.kind (fun y hy e => by rw [bo.uniq y hy, e]) (thn walked fun v1 z1 h1 => thn h1 fun v2 z2 h2 => ?_)
  obtain ⟨it, fps, tn, J, V2, e, I2, Tn, t2, f2, q⟩ := h2
  subst e
  refine wpAny_newObj_type (newEnv_comp ?_)
  have free2 : V2 z2.heap.objs.size = none := I2.hok.fresh (Nat.le_refl _)
  obtain ⟨Go, ⟨m, g0⟩, each⟩ := q _ free2
  have low : ∀ c ∈ fps, c < z2.heap.objs.size := fun c hc => by
    obtain ⟨o, ho, _⟩ := Tn.obj _ _ t2 c hc
    exact Heap.lt_size ho
  have kp3 : ∀ b o, z2.heap.get? b = some o → (z2.heap.push { cls := .type "dict", data := .dict #[] }).get? b = some o := fun b o e => Heap.get?_push_of_some _ e
  refine dcT_block (z3 := { z2 with heap := z2.heap.push { cls := .type "dict", data := .dict #[] } }) hcalm hnd hu bo P (I2.laid (t' := z2.toks) kp3 (Nat.le_refl _) (dt_empty z2.heap I2.big)) Tn (Tn.keep _ _ _ t2 fun c _ o e => kp3 _ _ e) (fun c hc => ?_) g0 each (hend _ _)
  have l := low c hc
  refine ⟨⟨?_, (f2 c hc).2⟩, ?_⟩
  · rw [upd_ne (Nat.ne_of_lt l)]
    exact (f2 c hc).1
  · show c < (z2.heap.push { cls := .type "dict", data := .dict #[] }).objs.size
    rw [Heap.size_push]
    exact Nat.lt_succ_of_lt l
/-- {k: v for .. in ..}, the keys tuples -/
theorem pe_dcT (hcalm : X.calm = true) (hnd : X.N.Nodup) (hu : X.A.units + 64 < cLine) (hi : PI X tg itr wi) (bo : BlkOk X.N X.env.scope sc ol) (P : DcParts X kx vx tg ifs sc g tt tk tv) (hf : ∀ x, foldedSetIterable itr X.env x = pure x := by intro _; rfl) :
    PE X (.DictComp kx vx [⟨tg, itr, ifs, 0⟩] sc ps) (tDcT wi g tt tk tv (ol.map (·.2))) := by
  refine ⟨fun pl z τ V Q I h => ?_⟩
  rw [arm_eval_DictComp]
  refine dcT_core rfl hcalm hnd hu I hi bo P hf h fun nd lc U z' mm I6 hq hns fo => ?_
  obtain ⟨k0, k1, _, k3, k4, k5⟩ := fo
  exact ⟨mm, hns, fun h' sb => ⟨.ref nd, U, I6.turned (t' := z'.toks) (fun b o hb e => (sb.2 b hb).trans e) k0 k1 k3 k4 k5, rfl, hq⟩⟩
/-- x = {k: v for .. in ..} on a single row: x is set before the block's names go -/
theorem ps_setDcT {i : Nat} {x : Str} {px sps : Pos} (hcalm : X.calm = true) (hnd : X.N.Nodup) (hx : X.N[i]? = some x) (hl : X.env.scope.names.lookup x = some .local) (sw : swapsWith (.DictComp kx vx [⟨tg, itr, ifs, 0⟩] sc ps) (some (.Name x px)) sps.line X.env = pure true)
    (hu : X.A.units + 64 < cLine) (hi : PI X tg itr wi) (bo : BlkOk X.N X.env.scope sc ol) (P : DcParts X kx vx tg ifs sc g tt tk tv) (hf : ∀ x, foldedSetIterable itr X.env x = pure x := by intro _; rfl) :
    PS X (.Assign [.Name x px] (.DictComp kx vx [⟨tg, itr, ifs, 0⟩] sc ps) sps) (tAsg (tDcT wi g tt tk tv (ol.map (·.2))) (gName i)) := by
  refine ⟨fun pl z τ V D I h => ?_⟩
  have h : tDcT wi g tt tk tv (ol.map (·.2)) τ V (fun v V1 => gName i v τ V1 D.nx) := h
  rw [exec_Assign_Name_used _ _ _ _ sw]
  refine wpAny_bind (wpAny_standAt (wpAny_bind ?_))
  rw [arm_evalThenUse_DictComp]
  refine wpAny_bind (thn (dcT_core (use := some (assign (.Name x px) X.env)) (Qf := fun _ z' => SP X pl D .next z') rfl hcalm hnd hu I hi bo P hf h fun nd lc U z' mm I6 hq hns fo => ?_) fun _ _ k => wpAny_pure (wpAny_pure k))
  refine wpAny_assign_Name (store_ok2 (v := .ref nd) I6 hnd hx (.inl hl) rfl (fun z2 I2 far => ?_) (.inr hl))
  obtain ⟨a, sb, ha⟩ := far
  obtain ⟨k0, k1, _, k3, k4, k5⟩ := fo
  have ne : lc ≠ a := ha.elim (fun e => e ▸ k1) fun e q => k4 x a e q.symm
  exact ⟨mm, hns.sameBut sb ne, fun h3 sb3 => ⟨_, U, I2.turned (t' := z2.toks) (fun b o hb e => (sb3.2 b hb).trans e) k0 k1 k3 k4 k5, hq⟩⟩
theorem sw_dc {x : Str} {px : Pos} {env : Env} {l : Nat} (hk : env.scope.kind = .function) (hl : env.scope.names.lookup x = some .local) (row : (px.line == ps.line) = true) (own : (sc.names.any fun (n, k) => n == x && (k == .local || k == .cell)) = false) :
    swapsWith (.DictComp kx vx [⟨tg, itr, ifs, 0⟩] sc ps) (some (.Name x px)) l env = pure true := by
  have b : env.blockKind = .function := by unfold Env.blockKind; rw [hk]; rfl
  have k : env.kindOf x = some .local := hl
  unfold swapsWith
  simp only [b, k, own, Expr.pos, row]
  rfl
end
end EL
namespace EL
open PySem PySem.Spec PyProof.Rows L2
abbrev DKt := Gm → (List (List Nat × Int) → Gm → Prop) → Prop
/-- a dict keyed by tuples that is new and not yet handed on -/
def tDFT (B : Bs) (t : DKt) : TE := fun σ H Q => ∃ G γ R, DstG B G γ σ H ∧ t γ R ∧ ∀ ds γ' G' p H', R ds γ' → Same G G' → DstG B G' γ' σ H' → H' p = some (dtV ds) → B.H0 p = none → G' p = none → NoSlot γ'.sl p → Q (.ref p) H'
def dcT (bd : BdT) (tt : DB) (tk tv : DT) (vs : List Nat) : List D → List (List Nat × Int) → Gm → (List (List Nat × Int) → Gm → Prop) → Prop
  | [], acc, γ, R => R acc (wipeS γ vs)
  | d :: ds, acc, γ, R => bd d γ fun γ2 => tt γ2 fun p γ3 => (p → tk γ3 fun c γ4 => tv γ4 fun e γ5 => ∃ ks m, c = kX ks ∧ e = .int m ∧ dcT bd tt tk tv vs ds (setA ks m acc) (wipeS γ5 vs) R) ∧ (¬p → dcT bd tt tk tv vs ds acc (wipeS γ3 vs) R)
def fDcT (t : DA) (bd : BdT) (tt : DB) (tk tv : DT) (vs : List Nat) : DKt := fun γ R => t γ fun ds γ1 => ds.length ≤ 1000000 ∧ dcT bd tt tk tv vs ds [] (wipeS γ1 vs) R
theorem setA_le {k : List Nat} {c : Int} (L : List (List Nat × Int)) : (setA k c L).length ≤ L.length + 1 := by
  unfold setA
  split
  · rw [List.length_map]; omega
  · rw [List.length_append]; exact Nat.le_refl _
section
variable {X : Cx} {B : Bs} {G G' G1 : Hp} {γ γ' : Gm} {σ σ' : L2.St} {H H' : Hp} {e a b : Expr} {ta tb t : DT} {pos : Pos} {st : Stmt} {p : Addr} {o o' : HO}
theorem dcT_run {t : DA} {bd : BdT} {tt : DB} {tk tv : DT} {vs : List Nat} (h9 : B.W.cl 999 ≠ none) : ∀ σ H Q, tDFT B (fDcT t bd tt tk tv vs) σ H Q → tDcT (tDI B t) (tDGx B vs bd) (tDBx B tt) (tDx B tk) (tDx B tv) vs σ H Q := fun σ H Q ⟨G, γ, R, S, h, k⟩ => by
  refine ⟨G, γ, _, S, h, fun ds γ1 G1 H1 J ⟨lim, q⟩ sm S1 w Dd hD => ?_⟩
  have hg0 : B.G0 Dd = none := S1.sub0.free (S1.sub.free hD)
  have hh0 := S1.free0 hD
  have hdk : ∀ d c, B.W.dk = some (d, c) → B.H0 d ≠ none ∧ B.H0 c ≠ none := fun d c e => ⟨(S1.dkok d c e).2.1, (S1.dkok d c e).2.2.1⟩
  refine ⟨fun i m H => ∃ G γ acc, m = ds.length - i ∧ i ≤ ds.length ∧ acc.length ≤ i ∧ Same G1 G ∧ DstG B G γ (wipe σ vs) H ∧ H Dd = some (dtV acc) ∧ G Dd = none ∧ NoSlot γ.sl Dd ∧ dcT bd tt tk tv vs (ds.drop i) acc γ R,
    ⟨_, G1, wipeS γ1 vs, [], rfl, Nat.zero_le _, Nat.le_refl _, Same.refl _, (S1.laid (o := .dT []) (fun _ z => nomatch z) hD).wiped vs, upd_same, S1.sub.free hD, (S1.noslot hD).wipe vs, q⟩, ?_⟩
  rintro i m H2 ⟨G2, γ2, acc, rfl, hi, hacc, sm2, S2, hu, hg, hn, q2⟩
  have S2h := S2.hide hu hg hh0 hn
  obtain ⟨w1, w2⟩ := w _ G2 γ2 _ H2 sm2 S2h
  by_cases hlt : i < ds.length
  · right
    obtain ⟨go, y⟩ := w2 i _ (List.getElem?_eq_getElem hlt)
    rw [List.drop_eq_getElem_cons hlt] at q2
    refine ⟨go, fun H' => ∃ G γ acc, acc.length ≤ i + 1 ∧ Same G1 G ∧ DstG B G γ (wipe σ vs) H' ∧ H' Dd = some (dtV acc) ∧ G Dd = none ∧ NoSlot γ.sl Dd ∧ dcT bd tt tk tv vs (ds.drop (i + 1)) acc γ R,
      fun H' ⟨G3, γ3, acc, z⟩ => ⟨ds.length - (i + 1), by omega, G3, γ3, acc, rfl, hlt, z⟩, fun x H' yy => ?_⟩
    obtain ⟨G3, s3, S3, r3⟩ := y x H' yy
    refine ⟨upd B.H0 Dd (dtV acc), G3, γ2, _, _, S3, r3, q2, fun γ4 σ4 q4 S4 w4 => ⟨w4.trans (wipe_wipe σ vs), ?_⟩⟩
    have w4' : wipe σ4 vs = wipe σ vs := w4.trans (wipe_wipe σ vs)
    have s13 : Same G1 G3 := sm2.trans s3
    refine ⟨_, G3, γ4, _, S4, q4, fun pp b γ5 G5 H5 ⟨h1, h2⟩ hpb s5 S5 => ?_⟩
    cases b with
    | true =>
      refine iteT ?_
      refine ⟨_, G5, γ5, _, S5, h1 (hpb.mp rfl), fun c γ6 G6 v H6 q6 s6 S6 r6 => ⟨_, G6, γ6, _, S6, q6, fun e7 γ7 G7 v7 H7 ⟨ks, mm, ec, ee, q7⟩ s7 S7 r7 => ?_⟩⟩
      obtain ⟨S7', hu7, hg7, hn7⟩ := S7.unhide hh0 hg0 hdk
      subst ec ee
      cases rpInt r7
      obtain ⟨ka, rfl, hka⟩ := rp_key9 h9 r6
      have hl : acc.length < 1000000 := by omega
      refine ⟨_, embK ks, ka, rfl, hu7, S7'.sub _ _ (s7 _ _ hka), by rw [List.length_map]; exact Nat.lt_of_lt_of_le hl (by decide), G7, wipeS γ7 vs, setA ks mm acc, Nat.le_trans (setA_le acc) (Nat.succ_le_succ hacc), s13.trans (s5.trans (s6.trans s7)), ?_, ?_, hg7, hn7.wipe vs, q7⟩
      · rw [← w4']
        exact (S7'.wiped vs).offed (fun _ z => nomatch z) hg7 hh0 (hn7.wipe vs)
      · rw [upd_same]
        exact congrArg (fun x => some (HO.dT x)) (putK_dt ks mm acc)
    | false =>
      refine iteF ?_
      obtain ⟨S5', hu5, hg5, hn5⟩ := S5.unhide hh0 hg0 hdk
      refine ⟨G5, wipeS γ5 vs, acc, by omega, s13.trans s5, ?_, hu5, hg5, hn5.wipe vs, h2 fun z => nomatch hpb.mpr z⟩
      rw [← w4']
      exact S5'.wiped vs
  · left
    have e : i = ds.length := by omega
    subst e
    rw [List.drop_length] at q2
    exact ⟨w1, k _ _ _ _ _ q2 (sm.trans sm2) S2.unwipe hu hh0 hg (hn.wipe vs)⟩
theorem f_dcT {t : DA} {bd : BdT} {tt : DB} {tk tv : DT} {vs : List Nat} (h9 : B.W.cl 999 ≠ none) (h : PE X e (tDcT (tDI B t) (tDGx B vs bd) (tDBx B tt) (tDx B tk) (tDx B tv) vs)) : PE X e (tDFT B (fDcT t bd tt tk tv vs)) := pe_imp h (dcT_run h9)
theorem a_dcT {i : Nat} {t : DA} {bd : BdT} {tt : DB} {tk tv : DT} {vs : List Nat} (h9 : B.W.cl 999 ≠ none) (h : PS X st (tAsg (tDcT (tDI B t) (tDGx B vs bd) (tDBx B tt) (tDx B tk) (tDx B tv) vs) (gName i))) : PS X st (tAsg (tDFT B (fDcT t bd tt tk tv vs)) (gName i)) := ps_imp h fun D σ H q => dcT_run h9 σ H _ q
/-- x = {k: v for ..} -/
def sOwnTc (i : Nat) (t : DKt) : DS := fun E γ => t γ fun ds γ1 => ∀ p, E.nx (putS γ1 i (.ownT p ds))
theorem s_ownTc {i : Nat} {t : DKt} (h : PS X st (tAsg (tDFT B t) (gName i))) : PS X st (tDS B (sOwnTc i t)) := ps_imp h fun D σ H ⟨G, γ, E, S, h, F⟩ => ⟨G, γ, _, S, h, fun ds γ1 G1 p H1 q sm S1 hp h0 hg hn => by
  have q := q p
  rw [putS_eq] at q
  refine F.nx _ _ _ _ q sm (slot_set S1 (v := .ref p) (s := .ownT p ds) ⟨rfl, hp⟩ fun p' hp' => ?_)
  cases List.mem_singleton.mp hp'
  exact ⟨h0, hg, fun j t _ e => hn j t e⟩⟩
/-- each of a list puts its own -/
theorem dcT_each {α : Type} {bd : BdT} {tt : DB} {tk tv : DT} {vs : List Nat} {γ0 : Gm} (F : α → D) (ky : α → List Nat) (g : α → Int) (L0 : List α) (hw : wipeS γ0 vs = γ0)
    (step : ∀ x ∈ L0, ∀ (Z : List Nat → Int → Gm → Prop) (Z' : Gm → Prop), (∀ γ', wipeS γ' vs = γ0 → Z (ky x) (g x) γ') →
      bd (F x) γ0 fun γ2 => tt γ2 fun p γ3 => (p → tk γ3 fun c γ4 => tv γ4 fun e γ5 => ∃ ks m, c = kX ks ∧ e = .int m ∧ Z ks m γ5) ∧ (¬p → Z' γ3)) :
    ∀ (L : List α) (acc : List (List Nat × Int)) (R : List (List Nat × Int) → Gm → Prop), (∀ x ∈ L, x ∈ L0) → R (L.foldl (fun acc x => setA (ky x) (g x) acc) acc) γ0 → dcT bd tt tk tv vs (L.map F) acc γ0 R
  | [], acc, R, _, h => by
    show R acc (wipeS γ0 vs)
    rw [hw]
    exact h
  | x :: L, acc, R, hL, h => by
    show bd (F x) γ0 _
    refine step x (hL x List.mem_cons_self) (fun key e γ5 => dcT bd tt tk tv vs (L.map F) (setA key e acc) (wipeS γ5 vs) R) (fun γ3 => dcT bd tt tk tv vs (L.map F) acc (wipeS γ3 vs) R) fun γ' e => ?_
    show dcT bd tt tk tv vs (L.map F) _ (wipeS γ' vs) R
    rw [e]
    exact dcT_each F ky g L0 hw step L _ R (fun y hy => hL y (List.mem_cons_of_mem _ hy)) h
end
end EL
namespace EL
open PySem PySem.Spec PyProof.Rows L2
section
variable {X : Cx} {B : Bs} {e a b : Expr} {t ta tb : DT} {pos : Pos}
/-! ### the truth of a tuple, a list -/
def bSeq (ta : DT) : DB := fun γ R => ta γ fun x γ1 => match x with
  | .tup ds => R (ds ≠ []) γ1
  | .lst ds => R (ds ≠ []) γ1
  | _ => False
theorem b_seq (hK : X.K = B.K) (ha : PE X a (tD B ta)) (he : ∀ whole, isTrue a X.env whole = (do let v ← whole; standAt a.pos; holding [v] (truthy v)) := by intro _; rfl) : PT X a (tDB B (bSeq ta)) := pt_imp (pt_truth ha he) fun σ H Q ⟨G, γ, R, S, h, k⟩ =>
  ⟨G, γ, _, S, h, fun d γ1 G1 v H1 h1 s1 S1 r1 => by
    have em : ∀ {us : List V} {ds : List D}, RpAll B.W G1 us ds → ((!us.isEmpty) = true ↔ ds ≠ []) := fun {us ds} r => by cases r <;> simp
    split at h1
    · cases r1 with
      | tup hs ra => exact ⟨_, .inr (.inl ⟨_, by rw [hK]; exact hs.sq S1.sub, rfl⟩), k _ _ _ _ _ h1 (em ra) s1 S1⟩
    · cases r1 with
      | lst hs ra => exact ⟨_, .inl ⟨_, by rw [hK]; exact SqL.of (S1.sub _ _ hs), rfl⟩, k _ _ _ _ _ h1 (em ra) s1 S1⟩
    · exact h1.elim⟩
/-! ### != (), != [], == [] of any data -/
def rNeT0 (K : PySem.W.Frag) : R2 := fun x y H Q => ∃ (p q : Addr) (xs : List V), x = .ref p ∧ y = .ref q ∧ SqT K H p xs ∧ SqT K H q [] ∧ Q (.bl (!xs.isEmpty)) H
theorem op_neT0 {n : Nat} (hr : Room n X.A) : OpR X (compareOp .NotEq) (rNeT0 X.K) := by
  intro pins s σ H x y v u Q I rx ry h
  obtain ⟨p, q, xs, rfl, rfl, h1, h2, k⟩ := h
  cases rx
  cases ry
  obtain ⟨its, rv, p1, _⟩ := I.tuple h1
  obtain ⟨its2, rv2, p2, _⟩ := I.tuple h2
  have hu := hr.units
  cases rv2
  have := SeqAt.RcNeAt.tuples (A := X.A) (e := fun _ => true) (show s.heap.IsTuple p its.toArray from p1) (show s.heap.IsTuple q ([] : List Value).toArray from p2) (by omega) (fun j h1 h2 => absurd h2 (Nat.not_lt_zero j))
  refine this X.prog X.w X.xe (EP X pins σ Q) ?_
  have e : (!((List.range (min its.toArray.size ([] : List Value).toArray.size)).all (fun _ => true) && its.toArray.size == ([] : List Value).toArray.size)) = !xs.isEmpty := by
    have hl := rv.length
    cases xs with
    | nil => cases its with
      | nil => rfl
      | cons _ _ => cases hl
    | cons _ _ => cases its with
      | nil => cases hl
      | cons _ _ => simp
  rw [e]
  exact ⟨.bl _, H, I, rfl, k⟩
def neT0 : FP := fun d e R => match d, e with
  | .tup xs, .tup [] => R (xs ≠ [])
  | _, _ => False
theorem ok_neT0 (hK : X.K = B.K) : OkRP B (rNeT0 X.K) neT0 := by
  intro G γ σ H x y d e R Q S rx ry h k
  rw [hK]
  unfold neT0 at h
  split at h
  · cases rx with
    | tup hs ra =>
      cases ry with
      | tup hs' ra' =>
        cases ra'
        refine ⟨_, _, _, rfl, rfl, hs.sq S.sub, hs'.sq S.sub, k _ _ _ _ h ?_ (Same.refl _) S⟩
        cases ra <;> simp
  · exact h.elim
def rNeL0 (K : PySem.W.Frag) : R2 := fun x y H Q => ∃ (p q : Addr) (xs : List V), x = .ref p ∧ y = .ref q ∧ SqL K H p xs ∧ SqL K H q [] ∧ Q (.bl (!xs.isEmpty)) H
theorem op_neL0 {n : Nat} (hr : Room n X.A) : OpR X (compareOp .NotEq) (rNeL0 X.K) := by
  intro pins s σ H x y v u Q I rx ry h
  obtain ⟨p, q, xs, rfl, rfl, h1, h2, k⟩ := h
  cases rx
  cases ry
  obtain ⟨its, rv, p1, _⟩ := I.list h1
  obtain ⟨its2, rv2, p2, _⟩ := I.list h2
  have hu := hr.units
  cases rv2
  cases rv with
  | nil =>
    have := SeqAt.RcNeAt.lists (A := X.A) (e := fun _ => true) p1.isList p2.isList rfl (by omega) (fun j h1 h2 => absurd h2 (Nat.not_lt_zero j))
    exact this X.prog X.w X.xe (EP X pins σ Q) ⟨.bl _, H, I, rfl, k⟩
  | cons a r =>
    have := SeqAt.RcNeAt.lists_lengths (A := X.A) p1.isList p2.isList (by simp) (by omega)
    exact this X.prog X.w X.xe (EP X pins σ Q) ⟨.bl _, H, I, rfl, k⟩
def neL0 : FP := fun d e R => match d, e with
  | .lst xs, .lst [] => R (xs ≠ [])
  | _, _ => False
theorem ok_neL0 (hK : X.K = B.K) : OkRP B (rNeL0 X.K) neL0 := by
  intro G γ σ H x y d e R Q S rx ry h k
  rw [hK]
  unfold neL0 at h
  split at h
  · cases rx with
    | lst hs ra =>
      cases ry with
      | lst hs' ra' =>
        cases ra'
        refine ⟨_, _, _, rfl, rfl, SqL.of (S.sub _ _ hs), SqL.of (S.sub _ _ hs'), k _ _ _ _ h ?_ (Same.refl _) S⟩
        cases ra <;> simp
  · exact h.elim
/-! ### numbers and truths -/
abbrev bInt (k : Bool) : Int := if k = true then 1 else 0
def addB : F2 := fun d e R => match d, e with
  | .int i, .int j => R (.int (i + j))
  | .bl k, .int j => R (.int (bInt k + j))
  | _, _ => False
def subB : F2 := fun d e R => match d, e with
  | .int i, .int j => R (.int (i - j))
  | .bl k, .int j => R (.int (bInt k - j))
  | .int i, .bl k => R (.int (i - bInt k))
  | _, _ => False
theorem op_addB : OpR X (binaryOp .Add) (fun x y H Q => rI0 (fun i j => .int (i + j)) x y H Q ∨ ∃ k j, x = .bl k ∧ y = .int j ∧ Q (.int (bInt k + j)) H) := OpR.or op_add fun pins s σ H x y v u Q I rx ry h => by
  obtain ⟨k, j, rfl, rfl, q⟩ := h
  cases rx
  obtain ⟨t, rfl⟩ := ry
  exact IntBool.add_bool_int ⟨.int _, H, I.tok _, ⟨_, rfl⟩, q⟩
theorem op_subB : OpR X (binaryOp .Sub) (fun x y H Q => rI0 (fun i j => .int (i - j)) x y H Q ∨ ((∃ k j, x = .bl k ∧ y = .int j ∧ Q (.int (bInt k - j)) H) ∨ ∃ i k, x = .int i ∧ y = .bl k ∧ Q (.int (i - bInt k)) H)) :=
  OpR.or op_sub (OpR.or (fun pins s σ H x y v u Q I rx ry h => by
    obtain ⟨k, j, rfl, rfl, q⟩ := h
    cases rx
    obtain ⟨t, rfl⟩ := ry
    exact IntBool.sub_bool_int ⟨.int _, H, I.tok _, ⟨_, rfl⟩, q⟩) fun pins s σ H x y v u Q I rx ry h => by
    obtain ⟨i, k, rfl, rfl, q⟩ := h
    obtain ⟨t, rfl⟩ := rx
    cases ry
    exact IntBool.sub_int_bool ⟨.int _, H, I.tok _, ⟨_, rfl⟩, q⟩)
theorem d_addB (ha : PE X a (tD B ta)) (hb : PE X b (tD B tb)) : PE X (.BinOp a .Add b pos) (tD B (dOp addB ta tb)) := d_op op_addB (fun G γ σ H x y d e R Q S rx ry h k => by
  unfold addB at h
  split at h
  · cases rpInt rx
    cases rpInt ry
    exact .inl ⟨_, _, rfl, rfl, k _ _ _ _ h (Same.refl _) S (.int _)⟩
  · cases rpBl rx
    cases rpInt ry
    exact .inr ⟨_, _, rfl, rfl, k _ _ _ _ h (Same.refl _) S (.int _)⟩
  · exact h.elim) ha hb
theorem d_subB (ha : PE X a (tD B ta)) (hb : PE X b (tD B tb)) : PE X (.BinOp a .Sub b pos) (tD B (dOp subB ta tb)) := d_op op_subB (fun G γ σ H x y d e R Q S rx ry h k => by
  unfold subB at h
  split at h
  · cases rpInt rx
    cases rpInt ry
    exact .inl ⟨_, _, rfl, rfl, k _ _ _ _ h (Same.refl _) S (.int _)⟩
  · cases rpBl rx
    cases rpInt ry
    exact .inr (.inl ⟨_, _, rfl, rfl, k _ _ _ _ h (Same.refl _) S (.int _)⟩)
  · cases rpInt rx
    cases rpBl ry
    exact .inr (.inr ⟨_, _, rfl, rfl, k _ _ _ _ h (Same.refl _) S (.int _)⟩)
  · exact h.elim) ha hb
end
/-- no class has this number: so no constant tuple is reckoned with -/
abbrev clT : Nat → Option (Addr × List Str) := fun _ => some (0, [])
end EL
namespace K28
open PySem PySem.Spec PyProof.Rows L2 EL PH
def topS (i : Nat) : Stmt := PySem.Challenge.pw_pointhouse_k28_sums.main.body.getD i (.Pass ⟨0, 0, 0, 0⟩)
structure Fns (K : PySem.W.Frag) (mg : Str → Option Value) (f : Addr) (fd : FuncData) (x : Str) (i : Nat) (ps : List Str) : Prop where
  F : Fun K x x (topS i) f fd
  b : Binds K fd ps []
  m : mg x = some (.ref f)
abbrev cl0 : Nat → Option (Addr × List Str) := fun _ => none
abbrev s_is_whole : Stmt := topS 1
abbrev N_sc_is_whole : List Str := ["thing"]
theorem sc_is_whole : FnScope N_sc_is_whole ["thing"] (defScope s_is_whole) := ⟨rfl, rfl, rfl, by decide +kernel, rfl, by decide +kernel, by decide +kernel⟩
abbrev s_is_sum : Stmt := topS 3
abbrev N_sc_is_sum : List Str := ["many", "thing", "one", "other", "part"]
theorem sc_is_sum : FnScope N_sc_is_sum ["many", "thing"] (defScope s_is_sum) := ⟨rfl, rfl, rfl, by decide +kernel, rfl, by decide +kernel, by decide +kernel⟩
abbrev s_added : Stmt := topS 4
abbrev N_sc_added : List Str := ["one", "other", "powers", "many", "found"]
theorem sc_added : FnScope N_sc_added ["one", "other"] (defScope s_added) := ⟨rfl, rfl, rfl, by decide +kernel, rfl, by decide +kernel, by decide +kernel⟩
abbrev s_lessened : Stmt := topS 5
abbrev N_sc_lessened : List Str := ["one", "other", "powers", "many"]
theorem sc_lessened : FnScope N_sc_lessened ["one", "other"] (defScope s_lessened) := ⟨rfl, rfl, rfl, by decide +kernel, rfl, by decide +kernel, by decide +kernel⟩
abbrev s_times : Stmt := topS 6
abbrev N_sc_times : List Str := ["one", "other", "bits", "rows", "found", "key", "many", "more", "factor"]
theorem sc_times : FnScope N_sc_times ["one", "other"] (defScope s_times) := ⟨rfl, rfl, rfl, by decide +kernel, rfl, by decide +kernel, by decide +kernel⟩
abbrev s_worth_at : Stmt := topS 7
abbrev N_sc_worth_at : List Str := ["one", "numbers", "whole", "powers", "many", "worth", "number", "power"]
theorem sc_worth_at : FnScope N_sc_worth_at ["one", "numbers"] (defScope s_worth_at) := ⟨rfl, rfl, rfl, by decide +kernel, rfl, by decide +kernel, by decide +kernel⟩
abbrev s_is_term : Stmt := topS 8
abbrev N_sc_is_term : List Str := ["many", "thing", "powers", "power"]
theorem sc_is_term : FnScope N_sc_is_term ["many", "thing"] (defScope s_is_term) := ⟨rfl, rfl, rfl, by decide +kernel, rfl, by decide +kernel, by decide +kernel⟩
abbrev s_sum_of : Stmt := topS 9
abbrev N_sc_sum_of : List Str := ["found", "powers"]
theorem sc_sum_of : FnScope N_sc_sum_of ["found"] (defScope s_sum_of) := ⟨rfl, rfl, rfl, by decide +kernel, rfl, by decide +kernel, by decide +kernel⟩
abbrev s_greatest_power : Stmt := topS 10
abbrev N_sc_greatest_power : List Str := ["one", "powers", "_"]
theorem sc_greatest_power : FnScope N_sc_greatest_power ["one"] (defScope s_greatest_power) := ⟨rfl, rfl, rfl, by decide +kernel, rfl, by decide +kernel, by decide +kernel⟩
abbrev s_packed : Stmt := topS 11
abbrev N_sc_packed : List Str := ["one", "bits", "rows", "powers", "many", "key", "power"]
theorem sc_packed : FnScope N_sc_packed ["one", "bits"] (defScope s_packed) := ⟨rfl, rfl, rfl, by decide +kernel, rfl, by decide +kernel, by decide +kernel⟩
abbrev s_unpacked : Stmt := topS 12
abbrev N_sc_unpacked : List Str := ["found", "bits", "many", "mask", "shifts", "rows", "at", "key", "worth", "shift"]
theorem sc_unpacked : FnScope N_sc_unpacked ["found", "bits", "many"] (defScope s_unpacked) := ⟨rfl, rfl, rfl, by decide +kernel, rfl, by decide +kernel, by decide +kernel⟩
abbrev s_raised : Stmt := topS 13
abbrev N_sc_raised : List Str := ["number", "power", "worth"]
theorem sc_raised : FnScope N_sc_raised ["number", "power"] (defScope s_raised) := ⟨rfl, rfl, rfl, by decide +kernel, rfl, by decide +kernel, by decide +kernel⟩
abbrev s__law_deck : Stmt := topS 15
abbrev N_sc__law_deck : List Str := ["_law_script", "_law_cells", "_law_total", "_law_cell"]
theorem sc__law_deck : FnScope N_sc__law_deck ["_law_script"] (defScope s__law_deck) := ⟨rfl, rfl, rfl, by decide +kernel, rfl, by decide +kernel, by decide +kernel⟩
abbrev s__law_draw : Stmt := topS 16
abbrev N_sc__law_draw : List Str := ["_law_deck_here", "_law_ways", "_law_at", "_law_seed", "_law_number_here"]
theorem sc__law_draw : FnScope N_sc__law_draw ["_law_deck_here", "_law_ways"] (defScope s__law_draw) := ⟨rfl, rfl, rfl, by decide +kernel, rfl, by decide +kernel, by decide +kernel⟩
abbrev s__law_number : Stmt := topS 17
abbrev N_sc__law_number : List Str := ["_law_deck_here"]
theorem sc__law_number : FnScope N_sc__law_number ["_law_deck_here"] (defScope s__law_number) := ⟨rfl, rfl, rfl, by decide +kernel, rfl, by decide +kernel, by decide +kernel⟩
abbrev s__law_sum : Stmt := topS 18
abbrev N_sc__law_sum : List Str := ["_law_deck_here", "_law_many", "_law_upto", "_law_numbers", "_law_k", "_law_powers", "_law_j"]
theorem sc__law_sum : FnScope N_sc__law_sum ["_law_deck_here", "_law_many", "_law_upto"] (defScope s__law_sum) := ⟨rfl, rfl, rfl, by decide +kernel, rfl, by decide +kernel, by decide +kernel⟩
abbrev s__law_whole : Stmt := topS 19
abbrev N_sc__law_whole : List Str := ["_law_thing"]
theorem sc__law_whole : FnScope N_sc__law_whole ["_law_thing"] (defScope s__law_whole) := ⟨rfl, rfl, rfl, by decide +kernel, rfl, by decide +kernel, by decide +kernel⟩
abbrev s__law_is_sum : Stmt := topS 20
abbrev N_sc__law_is_sum : List Str := ["_law_many", "_law_thing", "_law_one", "_law_other", "_law_power"]
theorem sc__law_is_sum : FnScope N_sc__law_is_sum ["_law_many", "_law_thing"] (defScope s__law_is_sum) := ⟨rfl, rfl, rfl, by decide +kernel, rfl, by decide +kernel, by decide +kernel⟩
abbrev s__law_worth : Stmt := topS 21
abbrev N_sc__law_worth : List Str := ["_law_one", "_law_numbers", "_law_found", "_law_powers", "_law_number_here", "_law_power", "_law_worth_here", "_law_turn"]
theorem sc__law_worth : FnScope N_sc__law_worth ["_law_one", "_law_numbers"] (defScope s__law_worth) := ⟨rfl, rfl, rfl, by decide +kernel, rfl, by decide +kernel, by decide +kernel⟩
abbrev s__law_odd : Stmt := topS 22
abbrev N_sc__law_odd : List Str := ["_law_deck_here", "_law_part", "_law_some"]
theorem sc__law_odd : FnScope N_sc__law_odd ["_law_deck_here", "_law_part"] (defScope s__law_odd) := ⟨rfl, rfl, rfl, by decide +kernel, rfl, by decide +kernel, by decide +kernel⟩
abbrev s__law_bent : Stmt := topS 23
abbrev N_sc__law_bent : List Str := ["_law_deck_here", "_law_thing", "_law_way", "_law_at", "_law_some"]
theorem sc__law_bent : FnScope N_sc__law_bent ["_law_deck_here", "_law_thing"] (defScope s__law_bent) := ⟨rfl, rfl, rfl, by decide +kernel, rfl, by decide +kernel, by decide +kernel⟩
abbrev s__law_both_right : Stmt := topS 24
abbrev N_sc__law_both_right : List Str := ["_law_deck_here", "_law_many", "_law_one", "_law_other", "_law_kept", "_law_turn", "_law_numbers", "_law_a", "_law_b", "_law_told", "_law_again", "_law_k", "_law_thing"]
theorem sc__law_both_right : FnScope N_sc__law_both_right ["_law_deck_here", "_law_many", "_law_one", "_law_other"] (defScope s__law_both_right) := ⟨rfl, rfl, rfl, by decide +kernel, rfl, by decide +kernel, by decide +kernel⟩
abbrev s_law : Stmt := topS 25
abbrev N_sc_law : List Str := ["_law_script", "_law_deck_here", "_law_turn", "_law_many", "_law_one", "_law_other", "_law_things", "_law_k", "_law_twice", "_law_thing", "_law_kept", "_law_found", "_law_powers", "_law_number_here"]
theorem sc_law : FnScope N_sc_law ["_law_script"] (defScope s_law) := ⟨rfl, rfl, rfl, by decide +kernel, rfl, by decide +kernel, by decide +kernel⟩
structure Tops (K : PySem.W.Frag) (w : World) (mg : Str → Option Value) where
  f_is_whole : Addr
  d_is_whole : FuncData
  N_is_whole : Fns K mg f_is_whole d_is_whole "is_whole" 1 ["thing"]
  f_is_sum : Addr
  d_is_sum : FuncData
  N_is_sum : Fns K mg f_is_sum d_is_sum "is_sum" 3 ["many", "thing"]
  f_added : Addr
  d_added : FuncData
  N_added : Fns K mg f_added d_added "added" 4 ["one", "other"]
  f_lessened : Addr
  d_lessened : FuncData
  N_lessened : Fns K mg f_lessened d_lessened "lessened" 5 ["one", "other"]
  f_times : Addr
  d_times : FuncData
  N_times : Fns K mg f_times d_times "times" 6 ["one", "other"]
  f_worth_at : Addr
  d_worth_at : FuncData
  N_worth_at : Fns K mg f_worth_at d_worth_at "worth_at" 7 ["one", "numbers"]
  f_is_term : Addr
  d_is_term : FuncData
  N_is_term : Fns K mg f_is_term d_is_term "is_term" 8 ["many", "thing"]
  f_sum_of : Addr
  d_sum_of : FuncData
  N_sum_of : Fns K mg f_sum_of d_sum_of "sum_of" 9 ["found"]
  f_greatest_power : Addr
  d_greatest_power : FuncData
  N_greatest_power : Fns K mg f_greatest_power d_greatest_power "greatest_power" 10 ["one"]
  f_packed : Addr
  d_packed : FuncData
  N_packed : Fns K mg f_packed d_packed "packed" 11 ["one", "bits"]
  f_unpacked : Addr
  d_unpacked : FuncData
  N_unpacked : Fns K mg f_unpacked d_unpacked "unpacked" 12 ["found", "bits", "many"]
  f_raised : Addr
  d_raised : FuncData
  N_raised : Fns K mg f_raised d_raised "raised" 13 ["number", "power"]
  f__law_deck : Addr
  d__law_deck : FuncData
  N__law_deck : Fns K mg f__law_deck d__law_deck "_law_deck" 15 ["_law_script"]
  f__law_draw : Addr
  d__law_draw : FuncData
  N__law_draw : Fns K mg f__law_draw d__law_draw "_law_draw" 16 ["_law_deck_here", "_law_ways"]
  f__law_number : Addr
  d__law_number : FuncData
  N__law_number : Fns K mg f__law_number d__law_number "_law_number" 17 ["_law_deck_here"]
  f__law_sum : Addr
  d__law_sum : FuncData
  N__law_sum : Fns K mg f__law_sum d__law_sum "_law_sum" 18 ["_law_deck_here", "_law_many", "_law_upto"]
  f__law_whole : Addr
  d__law_whole : FuncData
  N__law_whole : Fns K mg f__law_whole d__law_whole "_law_whole" 19 ["_law_thing"]
  f__law_is_sum : Addr
  d__law_is_sum : FuncData
  N__law_is_sum : Fns K mg f__law_is_sum d__law_is_sum "_law_is_sum" 20 ["_law_many", "_law_thing"]
  f__law_worth : Addr
  d__law_worth : FuncData
  N__law_worth : Fns K mg f__law_worth d__law_worth "_law_worth" 21 ["_law_one", "_law_numbers"]
  f__law_odd : Addr
  d__law_odd : FuncData
  N__law_odd : Fns K mg f__law_odd d__law_odd "_law_odd" 22 ["_law_deck_here", "_law_part"]
  f__law_bent : Addr
  d__law_bent : FuncData
  N__law_bent : Fns K mg f__law_bent d__law_bent "_law_bent" 23 ["_law_deck_here", "_law_thing"]
  f__law_both_right : Addr
  d__law_both_right : FuncData
  N__law_both_right : Fns K mg f__law_both_right d__law_both_right "_law_both_right" 24 ["_law_deck_here", "_law_many", "_law_one", "_law_other"]
  f_law : Addr
  d_law : FuncData
  N_law : Fns K mg f_law d_law "law" 25 ["_law_script"]
  z_all : mg "all" = none
  z_bool : mg "bool" = none
  z_int : mg "int" = none
  z_isinstance : mg "isinstance" = none
  z_len : mg "len" = none
  z_list : mg "list" = none
  z_max : mg "max" = none
  z_range : mg "range" = none
  z_repr : mg "repr" = none
  z_reversed : mg "reversed" = none
  z_sorted : mg "sorted" = none
  z_str : mg "str" = none
  z_sum : mg "sum" = none
  z_tuple : mg "tuple" = none
  z_zip : mg "zip" = none
end K28
namespace K28
open PySem PySem.Spec PyProof.Rows L2 EL PH
theorem if_t {c : Bool} {A B : Prop} (hc : c = true) (h : A) : if c = true then A else B := by rw [if_pos hc]; exact h
theorem if_f {c : Bool} {A B : Prop} (hc : c = false) (h : B) : if c = true then A else B := by rw [hc, if_neg Bool.false_ne_true]; exact h
theorem same_new {H : Hp} {p : Addr} {o : HO} (h : H p = none) : Same H (upd H p o) := fun b u e => by rw [upd_ne (ne_of_none e h)]; exact e
/-- the deck: its dict at d, the cells' list at c; at most m draws were made -/
abbrev dkO (c : Addr) (n1 n2 : Int) : HO := .dK [(.inr "cells", .ref c), (.inr "sum", .int n1), (.inr "at", .int n2)]
theorem kn1 {α : Type} (a b : α) : ¬ ((Sum.inr ("cells" : Str) : Key), a).1 = Sum.inr ("sum" : Str) := (by decide +kernel : ¬ (Sum.inr ("cells" : Str) : Key) = Sum.inr ("sum" : Str))
theorem kn2 {α : Type} (a b : α) : ¬ ((Sum.inr ("cells" : Str) : Key), a).1 = Sum.inr ("at" : Str) := (by decide +kernel : ¬ (Sum.inr ("cells" : Str) : Key) = Sum.inr ("at" : Str))
theorem kn3 {α : Type} (a b : α) : ¬ ((Sum.inr ("sum" : Str) : Key), a).1 = Sum.inr ("at" : Str) := (by decide +kernel : ¬ (Sum.inr ("sum" : Str) : Key) = Sum.inr ("at" : Str))
theorem dk_cells (c : Addr) (n1 n2 : Int) : valV [((.inr "cells" : Key), V.ref c), (.inr "sum", .int n1), (.inr "at", .int n2)] (.inr "cells") = some (.ref c) := valV_pos rfl
theorem dk_sum (c : Addr) (n1 n2 : Int) : valV [((.inr "cells" : Key), V.ref c), (.inr "sum", .int n1), (.inr "at", .int n2)] (.inr "sum") = some (.int n1) := (valV_neg (kn1 (V.ref c) (V.ref c))).trans (valV_pos rfl)
theorem dk_at (c : Addr) (n1 n2 : Int) : valV [((.inr "cells" : Key), V.ref c), (.inr "sum", .int n1), (.inr "at", .int n2)] (.inr "at") = some (.int n2) := (valV_neg (kn2 (V.ref c) (V.ref c))).trans ((valV_neg (kn3 (V.int n1) (V.int n1))).trans (valV_pos rfl))
theorem dk_put (c : Addr) (n1 n2 m : Int) : putK [((.inr "cells" : Key), V.ref c), (.inr "sum", .int n1), (.inr "at", .int n2)] (.inr "at") (.int m) = [(.inr "cells", .ref c), (.inr "sum", .int n1), (.inr "at", .int m)] := by
  have e1 := kn2 (V.ref c) (V.ref c)
  have e2 := kn3 (V.int n1) (V.int n1)
  unfold putK
  rw [if_pos (by simp)]
  rw [List.map_cons, List.map_cons, List.map_cons, if_neg e1, if_neg e2, if_pos rfl]
  rfl
theorem dk_merge (c : Addr) (n1 n2 : Int) : mergeK [] [((.inr "cells" : Key), V.ref c), (.inr "sum", .int n1), (.inr "at", .int n2)] = [(.inr "cells", .ref c), (.inr "sum", .int n1), (.inr "at", .int n2)] := by
  have e1 := kn1 (V.ref c) (V.ref c)
  have e2 := kn2 (V.ref c) (V.ref c)
  have e3 := kn3 (V.int n1) (V.int n1)
  have p1 : putK ([] : List (Key × V)) (.inr "cells") (V.ref c) = [(.inr "cells", V.ref c)] := putK_new _ rfl
  have p2 : putK [((.inr "cells" : Key), V.ref c)] (.inr "sum") (.int n1) = [(.inr "cells", V.ref c), (.inr "sum", .int n1)] := putK_new _ ((valV_neg e1).trans rfl)
  have p3 : putK [((.inr "cells" : Key), V.ref c), (.inr "sum", .int n1)] (.inr "at") (.int n2) = [(.inr "cells", V.ref c), (.inr "sum", .int n1), (.inr "at", .int n2)] := putK_new _ ((valV_neg e2).trans ((valV_neg e3).trans rfl))
  show putK (putK (putK [] (Sum.inr "cells" : Key) (V.ref c)) (Sum.inr "sum" : Key) (.int n1)) (Sum.inr "at" : Key) (.int n2) = _
  rw [p1, p2, p3]
def Deck (m : Nat) (H : Hp) (d c : Addr) : Prop := ∃ (ms : List Int) (n1 n2 : Int), H d = some (dkO c n1 n2) ∧ H c = some (.lst (ms.map V.int)) ∧ d ≠ c ∧ ms.length ≤ 100 ∧ 0 ≤ n1 ∧ n1 < 2 ^ 40 ∧ 0 ≤ n2 ∧ n2 ≤ m
theorem deckLaw : ∀ m, DkLaw (Deck m) := fun m => {
  there := fun H d c ⟨ms, n1, n2, h1, h2, _⟩ => ⟨by rw [h1]; exact (fun z => by cases z), by rw [h2]; exact (fun z => by cases z)⟩
  tup := fun H d c ⟨ms, n1, n2, h1, h2, _⟩ => ⟨(fun xs z => by rw [h1] at z; cases z), (fun xs z => by rw [h2] at z; cases z)⟩
  keep := fun H H' d c ⟨ms, n1, n2, h1, h2, h3⟩ e1 e2 => ⟨ms, n1, n2, by rw [e1]; exact h1, by rw [e2]; exact h2, h3⟩ }
theorem deckUp : ∀ m m' H d c, m ≤ m' → Deck m H d c → Deck m' H d c := fun m m' H d c l ⟨ms, n1, n2, h1, h2, h3, h4, h5, h6, h7, h8⟩ => ⟨ms, n1, n2, h1, h2, h3, h4, h5, h6, h7, by omega⟩
/-- all but the deck is as it was -/
def Kept (d c : Addr) (H H' : Hp) : Prop := ∀ b o, H b = some o → b ≠ d → b ≠ c → H' b = some o
theorem Kept.refl {d c : Addr} {H : Hp} : Kept d c H H := fun _ _ e _ _ => e
theorem Kept.trans {d c : Addr} {H H1 H2 : Hp} (a : Kept d c H H1) (b : Kept d c H1 H2) : Kept d c H H2 := fun x o e h1 h2 => b x o (a x o e h1 h2) h1 h2
theorem Kept.of {d c : Addr} {H H' : Hp} (s : Same H H') : Kept d c H H' := fun b o e _ _ => s b o e
theorem Kept.upd_d {d c : Addr} {H H' : Hp} {o : HO} (k : Kept d c H H') : Kept d c H (upd H' d o) := fun b u e h1 h2 => by rw [upd_ne h1]; exact k b u e h1 h2
theorem Kept.upd_c {d c : Addr} {H H' : Hp} {o : HO} (k : Kept d c H H') : Kept d c H (upd H' c o) := fun b u e h1 h2 => by rw [upd_ne h2]; exact k b u e h1 h2
def FDrw : FD := fun ds R _ => match ds with
  | [.dk, .int n] => (0 < n ∧ n < 2 ^ 60) ∧ ∀ r : Int, 0 ≤ r → r < n → R (.int r)
  | _ => False
def spDraw : Sp := fun vs H Q _ => ∃ (m : Nat) (d c : Addr) (n : Int), vs = [.ref d, .int n] ∧ Deck m H d c ∧ m + 1 ≤ 2 ^ 50 ∧ 0 < n ∧ n < 2 ^ 60 ∧ ∀ H' r, Deck (m + 1) H' d c → Kept d c H H' → 0 ≤ r → r < n → Q (.int r) H'
theorem cv_draw {K : PySem.W.Frag} {cl : Nat → Option (Addr × List Str)} : ∀ vs H Q E, spD K cl Deck 1 2 FDrw vs H Q E → spDraw vs H Q E := fun vs H Q E h => by
  obtain ⟨m, dk, G, ds, R, xc, c, r, hl, hF⟩ := spD_cv h
  unfold FDrw at hF
  split at hF
  · obtain ⟨⟨h0, h1⟩, hF⟩ := hF
    cases r with
    | cons r1 r2 =>
      cases r2 with
      | cons r2 r3 =>
        cases r3
        cases rpInt r2
        cases r1 with
        | @dk d e hd =>
          have hd : dk = some (d, e) := hd
          subst hd
          refine ⟨m, d, e, _, rfl, (c.hd d e rfl).1, c.hm, h0, h1, fun H' r D' k r0 r1 => ?_⟩
          refine c.valD (hF r r0 r1) (.int r) (fun b o hb z => ?_) fun d' e' z => ?_
          · obtain ⟨z1, z2⟩ := z d e rfl
            exact k b o hb z1 z2
          · cases z; exact D'
  · exact hF.elim
theorem cut_map (ns : List Int) (lo hi : Option Int) : ∃ ms : List Int, cutV (ns.map V.int) lo hi = ms.map V.int ∧ ms.length ≤ ns.length := by
  unfold cutV
  rw [← List.map_drop, ← List.map_take]
  refine ⟨_, rfl, ?_⟩
  rw [List.length_take, List.length_drop]
  omega
theorem dp_ints {K : PySem.W.Frag} (H : Hp) : ∀ ms : List Int, DpAll K H (ms.map V.int) (ms.map PyData.int)
  | [] => .nil
  | m :: ms => .cons (.int m) (dp_ints H ms)
theorem can_ints : ∀ ms : List Int, PyData.canLayAll0 (ms.map PyData.int) = true
  | [] => rfl
  | m :: ms => by
    show (PyData.canLay0 (.int m) && PyData.canLayAll0 (ms.map PyData.int)) = true
    rw [can_ints ms]
    rfl
theorem depth_ints : ∀ ms : List Int, PyData.depthAll (ms.map PyData.int) = 0
  | [] => rfl
  | m :: ms => by
    show max (PyData.depth (.int m)) (PyData.depthAll (ms.map PyData.int)) = 0
    rw [depth_ints ms]
    rfl
theorem shaped_ints (ms : List Int) : SeqAt.shaped (.list (ms.map PyData.int)) = true := by
  unfold SeqAt.shaped
  rw [Bool.and_eq_true]
  refine ⟨can_ints ms, decide_eq_true ?_⟩
  show PyData.depthAll (ms.map PyData.int) + 1 ≤ 64
  rw [depth_ints]
  decide
theorem eqv_nil (m : Int) (ms : List Int) : PyData.eqv (.list ((m :: ms).map PyData.int)) (.list []) = false := by
  simp only [PyData.eqv, List.map_cons, PyData.eqvAll]
def spDeck (K : PySem.W.Frag) : Sp := fun vs H Q _ => ∃ (a : Addr) (ns : List Int), vs = [.ref a] ∧ SqL K H a (ns.map V.int) ∧ ns.length ≤ 63 ∧ ∀ H' d c, Same H H' → H d = none → H c = none → Deck 0 H' d c → Q (.ref d) H'
section
variable {P : Program} {w : World} {K : PySem.W.Frag} {mg : Str → Option Value} {base : Heap}
theorem ok_deck {f : Addr} {fd : FuncData} (F : Fun K "_law_deck" "_law_deck" s__law_deck f fd) (mL : mg "list" = none) (mS : mg "sum" = none) (mN : mg "len" = none) :
    FnOk P w K mg base CX0 1 f fd ["_law_script"] (spDeck K) := by
  refine F.ok sc__law_deck ?_ ?_
  · rintro vs H Q E ⟨a, ns, rfl, _⟩
    rfl
  intro cdv A outer s H vs Q E hr h
  obtain ⟨a, ns, rfl, hs, hlen, k⟩ := h
  refine ⟨_, pss_cons (ps_set (i := 1) sc__law_deck.nd rfl (Or.inl rfl) (pe_callTy call_list_of (by rfl) mL (by decide +kernel) (pa_cons (pe_slice sl_list (pv 0) po_none (po_some pe_int)) pa_nil)))
    (pss_cons (ps_set (i := 2) sc__law_deck.nd rfl (Or.inl rfl) (pe_callB (cr_sum rfl) (by rfl) mS (by decide +kernel) (pa_cons (pe_lc (own := [("_law_cell", 3)]) rfl sc__law_deck.nd (pi_list (pv 1)) (blkOk_by (own := [("_law_cell", 3)]) (N := N_sc__law_deck) (sc := defScope s__law_deck) (by decide +kernel))
        (fun _ _ _ _ _ => pg_name (i := 3) sc__law_deck.nd rfl (Or.inl rfl)) (fun _ _ _ _ _ => pts_nil) (fun _ _ _ _ _ => pe_op op_mod (pv 3) pe_int)) pa_nil)))
    (pss_one (ps_ret (pe_disp (pps_cons pe_str (pe_revL (pv 1)) (pps_cons pe_str (pe_op op_add (pe_op op_mod (pv 2) pe_int) (pe_op op_mul pe_int (pe_callB call_len_seq (by rfl) mN (by decide +kernel) (pa_cons (pv 1) pa_nil)))) (pps_cons pe_str pe_int pps_nil))) (by rfl) (by rfl) (fun z => by cases z) (by decide))))), ?_⟩
  refine ⟨_, rfl, _, rfl, a, _, rfl, hs, fun p hp => ?_⟩
  obtain ⟨ms, em, hm⟩ := cut_map ns none (some 63)
  rw [em]
  refine ⟨p, _, rfl, .inl (SqL.of upd_same), fun l hl => ?_⟩
  have s1 := same_new (o := HO.lst (ms.map V.int)) hp
  have s2 := same_new (o := HO.lst (ms.map V.int)) hl
  have hl2 : upd (upd H p (.lst (ms.map V.int))) l (.lst (ms.map V.int)) l = some (.lst (ms.map V.int)) := upd_same
  have s12 := s1.trans s2
  generalize upd (upd H p (.lst (ms.map V.int))) l (.lst (ms.map V.int)) = H2 at *
  refine ⟨_, rfl, l, rfl, ⟨_, SqL.of hl2⟩, fun q hq => ?_⟩
  have lq : l ≠ q := fun e => by rw [e, hq] at hl2; cases hl2
  refine lc_list (K := K) (a := l) (xs := ms.map V.int) (D := q) (fun i H' => H' q = some (.lst (((ms.take i).map fun m => m % 2147483629).map V.int)) ∧ Same H2 H')
    ⟨upd_same, same_new hq⟩ (fun i H' _ ⟨_, s3⟩ => SqL.of (s3 _ _ hl2)) (fun i x H' hx ⟨h1, h2⟩ => ?_) fun H' ⟨h1, h2⟩ => ?_
  · rw [List.getElem?_map] at hx
    obtain ⟨m, hm2, rfl⟩ := Option.map_eq_some_iff.mp hx
    refine ⟨rfl, ?_⟩
    unfold tYes
    dsimp only
    rw [if_pos rfl]
    refine ⟨_, rfl, _, _, rfl, rfl, (by show (0 : Int) < 2147483629; decide), _, h1, ?_, ?_, fun b o e => ?_⟩
    · rw [List.length_map, List.length_map, List.length_take]
      exact Nat.lt_of_le_of_lt (by omega : _ ≤ 100) (by decide)
    · rw [upd_same, List.take_succ, hm2]
      simp
    · rw [upd_ne (fun z => by rw [z, hq] at e; cases e)]
      exact h2 b o e
  rw [List.length_map, List.take_length] at h1
  refine ⟨_, _, rfl, SqL.of h1, fun p2 hp2 => ?_⟩
  have s3 := s12.trans h2
  have hl3 := h2 _ _ hl2
  have s4 := same_new (o := HO.dK []) hp2
  have hp3 : upd H' p2 (.dK []) p2 = some (.dK []) := upd_same
  have hl4 := s4 _ _ hl3
  have s5 := s3.trans s4
  generalize upd H' p2 (.dK []) = H4 at *
  refine ⟨_, rfl, l, _, rfl, SqL.of hl4, fun t ht => ?_⟩
  have s6 := same_new (o := HO.lst (ms.map V.int).reverse) ht
  have hp5 := s6 _ _ hp3
  have ht5 : upd H4 t (.lst (ms.map V.int).reverse) t = some (.lst (ms.map V.int).reverse) := upd_same
  have hl5 := s6 _ _ hl4
  have s7 := s5.trans s6
  have ft : H t = none := s5.free ht
  generalize upd H4 t (.lst (ms.map V.int).reverse) = H5 at *
  have tp : t ≠ p2 := fun e => by rw [e, hp3] at ht; cases ht
  refine ⟨_, rfl, _, _, rfl, rfl, (by show (0 : Int) < 2147483629; decide), _, rfl, l, _, rfl, .inl (SqL.of hl5), _, _, rfl, rfl, Or.inl (by decide), _, _, rfl, rfl, hp5, [((.inr "cells" : Key), V.ref t), (.inr "sum", _), (.inr "at", .int 0)], rfl, by show 3 ≤ 15; decide, ?_⟩
  rw [dk_merge]
  have hl' : (ms.map V.int).length = ms.length := List.length_map _
  have n0 : 0 ≤ (ms.map fun m => m % 2147483629).sum % 2147483629 := Int.emod_nonneg _ (by decide)
  have n1 : (ms.map fun m => m % 2147483629).sum % 2147483629 < 2147483629 := Int.emod_lt_of_pos _ (by decide)
  refine k _ p2 t (fun b o e => ?_) (s3.free hp2) ft ⟨ms.reverse, _, _, upd_same, ?_, tp.symm, by rw [List.length_reverse]; omega, ?_, ?_, by decide, by decide⟩
  · rw [upd_ne (fun z => by rw [z, s3.free hp2] at e; cases e)]
    exact s7 b o e
  · rw [upd_ne tp, ht5, List.map_reverse]
  · rw [hl']
    have : (0 : Int) ≤ 7919 * (ms.length : Int) := by omega
    omega
  · rw [hl']
    have : ms.length ≤ 63 := by omega
    omega
theorem ok_draw {f : Addr} {fd : FuncData} (F : Fun K "_law_draw" "_law_draw" s__law_draw f fd) :
    FnOk P w K mg base CX0 1 f fd ["_law_deck_here", "_law_ways"] spDraw := by
  refine F.ok sc__law_draw ?_ ?_
  · rintro vs H Q E ⟨m, d, c, n, rfl, _⟩
    rfl
  intro cdv A outer s H vs Q E hr h
  obtain ⟨m, d, c, n, rfl, ⟨ms, n1, n2, hd, hc, hdc, hlen, hn0, hn1, hn2, hn3⟩, hm, hp, hp2, k⟩ := h
  have hw2 : ∀ x : Int, CDivW x n := fun x => wide_div (b := 60) hp (by omega) (by decide) (by decide)
  refine ⟨_, pss_cons (ps_dput (hu_of hr) (pv 0) pe_str (pe_op op_add (pe_dget (hu_of hr) (pv 0) pe_str (fun _ _ => rfl)) pe_int) rfl)
    (pss_cons (ps_set (i := 2) sc__law_draw.nd rfl (Or.inl rfl) (pe_dget (hu_of hr) (pv 0) pe_str (fun _ _ => rfl)))
    (pss_cons (ps_set (i := 3) sc__law_draw.nd rfl (Or.inl rfl) (pe_op op_add (pe_dget (hu_of hr) (pv 0) pe_str (fun _ _ => rfl)) (pv 2)))
    (C8.pss_cut (ps_if (pt_cmpR (op_neD hr.units) (pe_dget (hu_of hr) (pv 0) pe_str (fun _ _ => rfl)) (pe_lst pa_nil) (nomark _))
      (pss_cons (ps_set (i := 3) sc__law_draw.nd rfl (Or.inl rfl) (pe_bm0 PySem.F.plainAttrs_list PySem.F.slot_list_pop PySem.F.type_list_pop mt_pop (pe_dget (hu_of hr) (pv 0) pe_str (fun _ _ => rfl))))
      (pss_one (ps_if (pt_cmpR op_ge (pv 3) (pe_op op_pow pe_int pe_int) (nomark _))
        (pss_cons (ps_expr (pe_bm PySem.F.plainAttrs_list PySem.F.slot_list_append PySem.F.type_list_append mt_append (pe_dget (hu_of hr) (pv 0) pe_str (fun _ _ => rfl)) (pa_cons (pe_op op_fdivW (pv 3) (pv 1)) pa_nil)))
        (pss_one (ps_ret (pe_op op_mod (pv 3) (pv 1))))) pss_nil))) pss_nil)
    (pss_cons (ps_set (i := 4) sc__law_draw.nd rfl (Or.inl rfl) (pe_op op_mod (pe_op op_add (pe_op op_add (pe_op op_mul (pe_op op_mod (pv 3) pe_int) pe_int) (pe_op op_mul (pe_op op_mul pe_int (pv 2)) (pv 2))) pe_int) pe_int))
    (pss_cons (ps_set (i := 4) sc__law_draw.nd rfl (Or.inl rfl) (pe_op op_mod (pe_op op_mul (pv 4) (pv 4)) pe_int))
    (pss_one (ps_ret (pe_op op_mod (pe_op op_fdiv (pe_op op_mod (pe_op op_mul (pv 4) (pe_op op_add (pv 4) pe_int)) pe_int) pe_int) (pv 1))))))))), ?_⟩
  have g : ∀ {H : Hp} {n2 : Int}, H d = some (dkO c n1 n2) → DGet H d (V.str "cells") (some (.ref c)) ∧ DGet H d (V.str "sum") (some (.int n1)) ∧ DGet H d (V.str "at") (some (.int n2)) := fun {H n2} h =>
    ⟨by have := DGet.k (k := (.inr "cells" : Key)) h; rw [dk_cells] at this; exact this, by have := DGet.k (k := (.inr "sum" : Key)) h; rw [dk_sum] at this; exact this, by have := DGet.k (k := (.inr "at" : Key)) h; rw [dk_at] at this; exact this⟩
  refine ⟨_, rfl, d, _, rfl, (g hd).2.2, _, _, rfl, rfl, _, rfl, d, _, rfl, DPut.k (k := (.inr "at" : Key)) hd (by show 3 < sizeLine; decide), ?_⟩
  rw [dk_put]
  have hd1 : upd H d (dkO c n1 (n2 + 1)) d = some (dkO c n1 (n2 + 1)) := upd_same
  have hc1 : upd H d (dkO c n1 (n2 + 1)) c = some (.lst (ms.map V.int)) := by rw [upd_ne hdc.symm]; exact hc
  have k1 : Kept d c H (upd H d (dkO c n1 (n2 + 1))) := Kept.refl.upd_d
  generalize upd H d (dkO c n1 (n2 + 1)) = H1 at *
  refine ⟨_, rfl, d, _, rfl, (g hd1).2.2, ?_⟩
  refine ⟨_, rfl, d, _, rfl, (g hd1).2.1, _, rfl, _, _, rfl, rfl, ?_⟩
  refine ⟨fun σ' H' => ∃ (x : Int) (ms' : List Int), σ' = [some (.ref d), some (.int n), some (.int (n2 + 1)), some (.int x), none] ∧ H' d = some (dkO c n1 (n2 + 1)) ∧ H' c = some (.lst (ms'.map V.int)) ∧ ms'.length ≤ 100 ∧ Kept d c H H', ?_, ?_⟩
  · refine ⟨_, rfl, d, _, rfl, (g hd1).1, (by show 0 ≤ sizeLine; decide), fun q hq => ?_⟩
    have s2 := same_new (o := HO.lst []) hq
    refine ⟨_, _, .lst (SqL.of (s2 _ _ hc1)) (dp_ints _ ms), .lst (SqL.of upd_same) .nil, shaped_ints ms, rfl, _, rfl, ?_⟩
    have hd2 := s2 _ _ hd1
    have hc2 := s2 _ _ hc1
    have k2 := k1.trans (Kept.of s2)
    generalize upd H1 q (.lst []) = H2 at *
    rcases List.eq_nil_or_concat ms with rfl | ⟨L, x, em⟩
    · refine if_f (by rfl) ?_
      exact ⟨n1 + (n2 + 1), [], rfl, hd2, hc2, by show 0 ≤ 100; decide, k2⟩
    · rw [List.concat_eq_append] at em
      subst em
      have ne : PyData.eqv (.list ((L ++ [x]).map PyData.int)) (.list []) = false := by
        cases L with
        | nil => exact eqv_nil x []
        | cons a L => exact eqv_nil a (L ++ [x])
      refine if_t (by rw [ne]; rfl) ?_
      rw [List.length_append] at hlen
      have hl2 : L.length + 1 ≤ 100 := hlen
      refine ⟨_, rfl, d, _, rfl, (g hd2).1, .inl ⟨rfl, _, SqL.of hc2⟩, c, _, .int x, rfl, rfl, hc2, by simp, ?_⟩
      have ed : ((L ++ [x]).map V.int).dropLast = L.map V.int := by simp
      rw [ed]
      have hd3 : upd H2 c (.lst (L.map V.int)) d = some (dkO c n1 (n2 + 1)) := by rw [upd_ne hdc]; exact hd2
      have hc3 : upd H2 c (.lst (L.map V.int)) c = some (.lst (L.map V.int)) := upd_same
      have k3 : Kept d c H (upd H2 c (.lst (L.map V.int))) := k2.upd_c
      generalize upd H2 c (.lst (L.map V.int)) = H3 at *
      refine ⟨_, rfl, _, _, rfl, rfl, ⟨by decide, by decide, by decide⟩, _, _, rfl, rfl, _, rfl, ?_⟩
      by_cases z : (10 : Int) ^ (Int.toNat 18) ≤ x
      · refine if_t (decide_eq_true z) ?_
        refine ⟨_, rfl, d, _, rfl, (g hd3).1, .inl ⟨rfl, _, SqL.of hc3⟩, _, rfl, _, rfl, _, _, rfl, rfl, hw2 _, c, _, _, rfl, rfl, hc3, by rw [List.length_map]; exact Nat.lt_of_le_of_lt (by omega : L.length ≤ 100) (by decide), ?_⟩
        refine ⟨_, rfl, _, rfl, x, n, rfl, rfl, hp, ?_⟩
        refine k _ _ ⟨L ++ [x / n], n1, n2 + 1, ?_, ?_, hdc, by rw [List.length_append]; exact hl2, hn0, hn1, by omega, by omega⟩ k3.upd_c (Int.emod_nonneg _ (by omega)) (Int.emod_lt_of_pos _ hp)
        · rw [upd_ne hdc]; exact hd3
        · rw [upd_same, List.map_append]; rfl
      · refine if_f (decide_eq_false z) ?_
        exact ⟨x, L, rfl, hd3, hc3, by omega, k3⟩
  rintro σ2 H2 ⟨x, ms', rfl, hd2, hc2, hl2, k2⟩
  refine ⟨_, rfl, _, _, rfl, rfl, (by show (0 : Int) < 2147483647; decide), _, _, rfl, rfl, Or.inr (by decide), _, rfl, _, _, rfl, rfl, Or.inl (by decide), _, rfl, _, _, rfl, rfl, Or.inr ⟨by omega, by omega⟩, _, _, rfl, rfl, _, _, rfl, rfl, _, _, rfl, rfl, (by show (0 : Int) < 2147483629; decide), ?_⟩
  obtain ⟨v, ev⟩ : ∃ v : Int, v = (x % 2147483647 * 48271 + 69621 * (n2 + 1) * (n2 + 1) + 7919) % 2147483629 := ⟨_, rfl⟩
  have v0 : 0 ≤ v := by rw [ev]; exact Int.emod_nonneg _ (by decide)
  have v1 : v < 2147483629 := by rw [ev]; exact Int.emod_lt_of_pos _ (by decide)
  show gName 4 (V.int ((x % 2147483647 * 48271 + 69621 * (n2 + 1) * (n2 + 1) + 7919) % 2147483629)) _ H2 _
  rw [← ev]
  refine ⟨_, rfl, _, rfl, _, _, rfl, rfl, Or.inl (by omega), _, _, rfl, rfl, (by show (0 : Int) < 2147483587; decide), ?_⟩
  obtain ⟨u, eu⟩ : ∃ u : Int, u = v * v % 2147483587 := ⟨_, rfl⟩
  have u0 : 0 ≤ u := by rw [eu]; exact Int.emod_nonneg _ (by decide)
  have u1 : u < 2147483587 := by rw [eu]; exact Int.emod_lt_of_pos _ (by decide)
  show gName 4 (V.int (v * v % 2147483587)) _ H2 _
  rw [← eu]
  refine ⟨_, rfl, _, rfl, _, _, rfl, rfl, _, _, rfl, rfl, Or.inl (by omega), _, _, rfl, rfl, (by show (0 : Int) < 2147483563; decide), _, _, rfl, rfl, ⟨by decide, by decide⟩, _, rfl, _, _, rfl, rfl, hp, ?_⟩
  exact k _ _ ⟨ms', n1, n2 + 1, hd2, hc2, hdc, hl2, hn0, hn1, by omega, by omega⟩ k2 (Int.emod_nonneg _ (by omega)) (Int.emod_lt_of_pos _ hp)
end
end K28
namespace K28
open PySem PySem.Spec PyProof.Rows L2 EL PH
section
variable {P : Program} {w : World} {K : PySem.W.Frag} {mg : Str → Option Value} {base : Heap}
abbrev GT__law_draw (P : Program) (w : World) (base : Heap) (T : Tops K w mg) : Prop := FnOk P w K mg base CX0 1 T.f__law_draw T.d__law_draw ["_law_deck_here", "_law_ways"] (spD K clT Deck 1 2 FDrw)
end
end K28
namespace K28
open PySem PySem.Spec PyProof.Rows L2 EL PH
section
variable {P : Program} {w : World} {K : PySem.W.Frag} {mg : Str → Option Value} {base : Heap}
theorem ok__law_draw (T : Tops K w mg) : GT__law_draw P w base T := (ok_draw T.N__law_draw.F).imp cv_draw
end
end K28
namespace K28
open PySem PySem.Spec PyProof.Rows L2 EL PH
/-- powers packed into one number, so many bits each -/
def pk (b : Nat) (ks : List Nat) : Nat := ks.foldl (fun key p => key * 2 ^ b + p) 0
def pkR (b : Nat) : List Nat → Nat
  | [] => 0
  | p :: r => p + 2 ^ b * pkR b r
theorem pk_from (b : Nat) : ∀ (ks : List Nat) (a : Nat), ks.foldl (fun key p => key * 2 ^ b + p) a = a * 2 ^ (b * ks.length) + pk b ks
  | [], a => by simp [pk]
  | p :: r, a => by
    have h1 := pk_from b r (a * 2 ^ b + p)
    have h2 := pk_from b r (0 * 2 ^ b + p)
    unfold pk
    rw [List.foldl_cons, List.foldl_cons, h1, h2, List.length_cons, Nat.mul_succ, Nat.pow_add, Nat.add_mul, Nat.zero_mul, Nat.zero_add, Nat.mul_assoc, Nat.mul_comm (2 ^ b), Nat.add_assoc]
theorem pk_cons (b p : Nat) (r : List Nat) : pk b (p :: r) = p * 2 ^ (b * r.length) + pk b r := by
  unfold pk
  rw [List.foldl_cons, pk_from b r (0 * 2 ^ b + p), Nat.zero_mul, Nat.zero_add]
  rfl
theorem pk_bound {b : Nat} : ∀ {ks : List Nat}, (∀ p ∈ ks, p < 2 ^ b) → pk b ks < 2 ^ (b * ks.length)
  | [], _ => by simp [pk]
  | p :: r, h => by
    have h1 := h p List.mem_cons_self
    have h2 := pk_bound (ks := r) fun x hx => h x (List.mem_cons_of_mem _ hx)
    rw [pk_cons, List.length_cons, Nat.mul_succ, Nat.pow_add]
    have h3 : (p + 1) * 2 ^ (b * r.length) ≤ 2 ^ b * 2 ^ (b * r.length) := Nat.mul_le_mul_right _ h1
    rw [Nat.add_mul, Nat.one_mul] at h3
    rw [Nat.mul_comm (2 ^ (b * r.length))]
    omega
/-- its digits again -/
def dg (b n key : Nat) : List Nat := (List.range n).reverse.map fun i => key / 2 ^ (b * i) % 2 ^ b
theorem dg_succ (b n key : Nat) : dg b (n + 1) key = key / 2 ^ (b * n) % 2 ^ b :: dg b n key := by
  unfold dg
  rw [List.range_succ, List.reverse_append]
  rfl
theorem dg_mod (b : Nat) : ∀ (n key m : Nat), n ≤ m → dg b n (key % 2 ^ (b * m)) = dg b n key
  | 0, _, _, _ => rfl
  | n + 1, key, m, h => by
    rw [dg_succ, dg_succ, dg_mod b n key m (by omega)]
    congr 1
    obtain ⟨d, rfl⟩ : ∃ d, m = n + 1 + d := ⟨m - (n + 1), by omega⟩
    have e : 2 ^ (b * (n + 1 + d)) = 2 ^ (b * n) * (2 ^ b * 2 ^ (b * d)) := by rw [← Nat.pow_add, ← Nat.pow_add]; congr 1; rw [Nat.mul_add, Nat.mul_add, Nat.mul_one]; omega
    rw [e, Nat.mod_mul_right_div_self, Nat.mod_mul_right_mod]
theorem dg_pk {b : Nat} : ∀ {ks : List Nat}, (∀ p ∈ ks, p < 2 ^ b) → dg b ks.length (pk b ks) = ks
  | [], _ => rfl
  | p :: r, h => by
    have h1 := h p List.mem_cons_self
    have hr : ∀ x ∈ r, x < 2 ^ b := fun x hx => h x (List.mem_cons_of_mem _ hx)
    have h2 := pk_bound hr
    have h3 := dg_pk hr
    have hp : 0 < 2 ^ (b * r.length) := Nat.two_pow_pos _
    rw [List.length_cons, dg_succ, pk_cons]
    congr 1
    · rw [Nat.mul_comm, Nat.mul_add_div hp, Nat.div_eq_of_lt h2, Nat.add_zero, Nat.mod_eq_of_lt h1]
    · rw [← dg_mod b r.length _ r.length (Nat.le_refl _), Nat.add_comm, Nat.add_mul_mod_self_right, Nat.mod_eq_of_lt h2]
      exact h3
theorem pk_add (b : Nat) : ∀ {ks js : List Nat}, ks.length = js.length → pk b (List.zipWith (· + ·) ks js) = pk b ks + pk b js
  | [], [], _ => rfl
  | p :: r, q :: s, h => by
    have h : r.length = s.length := Nat.succ.inj h
    rw [List.zipWith_cons_cons, pk_cons, pk_cons, pk_cons, pk_add b h, List.length_zipWith, ← h, Nat.min_self, Nat.add_mul]
    omega
  | [], _ :: _, h => by cases h
  | _ :: _, [], h => by cases h
/-- they rise alike -/
theorem pk_lt {b : Nat} : ∀ {ks js : List Nat}, ks.length = js.length → (∀ p ∈ ks, p < 2 ^ b) → (∀ p ∈ js, p < 2 ^ b) → (pk b ks < pk b js ↔ ks < js)
  | [], [], _, _, _ => by simp [pk]
  | p :: r, q :: s, h, h1, h2 => by
    have h : r.length = s.length := Nat.succ.inj h
    have hr : ∀ x ∈ r, x < 2 ^ b := fun x hx => h1 x (List.mem_cons_of_mem _ hx)
    have hs : ∀ x ∈ s, x < 2 ^ b := fun x hx => h2 x (List.mem_cons_of_mem _ hx)
    have br := pk_bound hr
    have bs := pk_bound hs
    have ih := pk_lt h hr hs
    rw [pk_cons, pk_cons, List.cons_lt_cons_iff, ← ih, h]
    rw [h] at br
    generalize 2 ^ (b * s.length) = B at *
    constructor
    · intro k
      by_cases e : p < q
      · exact .inl e
      · by_cases e2 : p = q
        · subst e2; exact .inr ⟨rfl, by omega⟩
        · have : (q + 1) * B ≤ p * B := Nat.mul_le_mul_right _ (by omega)
          rw [Nat.add_mul, Nat.one_mul] at this
          omega
    · rintro (e | ⟨rfl, e⟩)
      · have : (p + 1) * B ≤ q * B := Nat.mul_le_mul_right _ (by omega)
        rw [Nat.add_mul, Nat.one_mul] at this
        omega
      · omega
  | [], _ :: _, h, _, _ => by cases h
  | _ :: _, [], h, _, _ => by cases h
theorem pk_inj {b : Nat} {ks js : List Nat} (h : ks.length = js.length) (h1 : ∀ p ∈ ks, p < 2 ^ b) (h2 : ∀ p ∈ js, p < 2 ^ b) (e : pk b ks = pk b js) : ks = js := by
  rw [← dg_pk h1, ← dg_pk h2, e, h]
/-! what a sum comes to -/
def pw : List Nat → List Int → Int
  | k :: ks, n :: ns => n ^ k * pw ks ns
  | _, _ => 1
def worth (L : List (List Nat × Int)) (ns : List Int) : Int := (L.map fun t => t.2 * pw t.1 ns).foldr (· + ·) 0
theorem worth_cons (t : List Nat × Int) (L : List (List Nat × Int)) (ns : List Int) : worth (t :: L) ns = t.2 * pw t.1 ns + worth L ns := rfl
theorem worth_app (a b : List (List Nat × Int)) (ns : List Int) : worth (a ++ b) ns = worth a ns + worth b ns := by
  induction a with
  | nil => show worth b ns = 0 + _; omega
  | cons t a ih => rw [List.cons_append, worth_cons, worth_cons, ih]; omega
theorem worth_perm {a b : List (List Nat × Int)} (h : a.Perm b) (ns : List Int) : worth a ns = worth b ns := by
  induction h with
  | nil => rfl
  | cons t _ ih => rw [worth_cons, worth_cons, ih]
  | swap s t l => rw [worth_cons, worth_cons, worth_cons, worth_cons]; omega
  | trans _ _ h1 h2 => rw [h1, h2]
theorem worth_filt (L : List (List Nat × Int)) (ns : List Int) : worth (L.filter fun t => decide (t.2 ≠ 0)) ns = worth L ns := by
  induction L with
  | nil => rfl
  | cons t L ih =>
    by_cases h : t.2 = 0
    · rw [List.filter_cons_of_neg (by simp [h]), ih, worth_cons, h]; omega
    · rw [List.filter_cons_of_pos (by simp [h]), worth_cons, worth_cons, ih]
/-- a dict's item raised by so much, put behind where it is new -/
def addK {κ : Type} [DecidableEq κ] (k : κ) (v : Int) : List (κ × Int) → List (κ × Int)
  | [] => [(k, v)]
  | (j, u) :: r => if j = k then (j, u + v) :: r else (j, u) :: addK k v r
theorem worth_addK (k : List Nat) (v : Int) (ns : List Int) : ∀ L : List (List Nat × Int), worth (addK k v L) ns = worth L ns + v * pw k ns
  | [] => by show v * pw k ns + 0 = 0 + _; omega
  | (j, u) :: r => by
    unfold addK
    by_cases h : j = k
    · subst h
      rw [if_pos rfl, worth_cons, worth_cons, Int.add_mul]
      dsimp only
      omega
    · rw [if_neg h, worth_cons, worth_cons, worth_addK k v ns r]
      omega
theorem pw_add : ∀ {ks js : List Nat} (ns : List Int), ks.length = js.length → pw (List.zipWith (· + ·) ks js) ns = pw ks ns * pw js ns
  | [], [], ns, _ => by simp [pw]
  | k :: ks, j :: js, [], h => by simp [pw]
  | k :: ks, j :: js, n :: ns, h => by
    rw [List.zipWith_cons_cons]
    unfold pw
    rw [pw_add ns (Nat.succ.inj h), Int.pow_add]
    ac_rfl
  | [], _ :: _, _, h => by cases h
  | _ :: _, [], _, h => by cases h
/-- the keys of a dict stay unlike -/
theorem addK_keys {κ : Type} [DecidableEq κ] (k : κ) (v : Int) : ∀ L : List (κ × Int), (addK k v L).map (·.1) = if k ∈ L.map (·.1) then L.map (·.1) else L.map (·.1) ++ [k]
  | [] => by simp [addK]
  | (j, u) :: r => by
    unfold addK
    by_cases h : j = k
    · subst h
      rw [if_pos rfl, if_pos (by simp)]
      rfl
    · rw [if_neg h, List.map_cons, List.map_cons, addK_keys k v r]
      have e : (k ∈ (j, u).1 :: r.map (·.1)) ↔ k ∈ r.map (·.1) := by
        rw [List.mem_cons]
        exact ⟨fun x => x.elim (fun e => absurd e.symm h) id, .inr⟩
      by_cases q : k ∈ r.map (·.1)
      · rw [if_pos q, if_pos (e.mpr q)]
      · rw [if_neg q, if_neg (fun x => q (e.mp x))]
        rfl
theorem addK_nodup {κ : Type} [DecidableEq κ] {k : κ} {v : Int} {L : List (κ × Int)} (h : (L.map (·.1)).Nodup) : ((addK k v L).map (·.1)).Nodup := by
  rw [addK_keys]
  by_cases q : k ∈ L.map (·.1)
  · rwa [if_pos q]
  · rw [if_neg q]
    exact List.nodup_append.mpr ⟨h, by simp, fun a ha b hb e => q (by rw [List.mem_singleton] at hb; rw [← hb, ← e]; exact ha)⟩
def addAll (D E : List (List Nat × Int)) : List (List Nat × Int) := E.foldl (fun D t => addK t.1 t.2 D) D
theorem worth_addAll (ns : List Int) : ∀ (E D : List (List Nat × Int)), worth (addAll D E) ns = worth D ns + worth E ns
  | [], D => by show worth D ns = worth D ns + 0; omega
  | t :: E, D => by
    show worth (addAll (addK t.1 t.2 D) E) ns = _
    rw [worth_addAll ns E, worth_addK, worth_cons]
    omega
theorem worth_scale (m : List Nat × Int) (ns : List Int) : ∀ E : List (List Nat × Int), (∀ t ∈ E, t.1.length = m.1.length) → worth (E.map fun t => (List.zipWith (· + ·) m.1 t.1, m.2 * t.2)) ns = m.2 * pw m.1 ns * worth E ns
  | [], _ => by show (0 : Int) = _ * 0; rw [Int.mul_zero]
  | t :: E, h => by
    rw [List.map_cons, worth_cons, worth_cons, worth_scale m ns E fun x hx => h x (List.mem_cons_of_mem _ hx), pw_add ns (h t List.mem_cons_self).symm, Int.mul_add]
    congr 1
    dsimp only
    ac_rfl
/-- all products of two sums' parts -/
def prods (A E : List (List Nat × Int)) : List (List Nat × Int) := A.flatMap fun m => E.map fun t => (List.zipWith (· + ·) m.1 t.1, m.2 * t.2)
theorem worth_prods {n : Nat} (ns : List Int) {E : List (List Nat × Int)} (hE : ∀ t ∈ E, t.1.length = n) : ∀ A : List (List Nat × Int), (∀ t ∈ A, t.1.length = n) → worth (prods A E) ns = worth A ns * worth E ns
  | [], _ => by show (0 : Int) = 0 * _; rw [Int.zero_mul]
  | m :: A, h => by
    show worth ((E.map _) ++ prods A E) ns = _
    rw [worth_app, worth_scale m ns E (fun t ht => by rw [hE t ht, h m List.mem_cons_self]), worth_prods ns hE A fun x hx => h x (List.mem_cons_of_mem _ hx), worth_cons, Int.add_mul]
/-- raised by squares -/
theorem raised_step (w n : Int) (p : Nat) : (if p % 2 = 1 then w * n else w) * (n * n) ^ (p / 2) = w * n ^ p := by
  have h : p = 2 * (p / 2) + p % 2 := (Nat.div_add_mod p 2).symm
  have e : (n * n) ^ (p / 2) = n ^ (2 * (p / 2)) := by rw [Int.pow_mul, Int.pow_succ, Int.pow_succ, Int.pow_zero, Int.one_mul]
  rw [e]
  by_cases q : p % 2 = 1
  · rw [if_pos q]
    conv => rhs; rw [h, q, Int.pow_succ]
    ac_rfl
  · have q : p % 2 = 0 := by omega
    rw [if_neg (by omega)]
    conv => rhs; rw [h, q, Nat.add_zero]
end K28
namespace K28
open PySem PySem.Spec PyProof.Rows L2 EL PH
/-! ### things of any kind, not too great -/
mutual
def kd (m : Nat) : D → Bool
  | .non => true
  | .bl _ => true
  | .int i => decide (i.natAbs ≤ 10 ^ 39 + m)
  | .str z => z.cps.toList.all fun c => decide (c < 128)
  | .tup ds => kds m ds
  | .lst ds => kds m ds
  | .dct kvs => kvs.isEmpty
  | _ => false
def kds (m : Nat) : List D → Bool
  | [] => true
  | d :: ds => kd m d && kds m ds
end
theorem kds_all {m : Nat} : ∀ {ds : List D}, kds m ds = true ↔ ∀ d ∈ ds, kd m d = true
  | [] => ⟨fun _ _ h => (by cases h), fun _ => rfl⟩
  | d :: ds => by
    show (kd m d && kds m ds) = true ↔ _
    rw [Bool.and_eq_true, kds_all (ds := ds)]
    simp
def wx (d : D) : Nat := (pyX d).weight
def wxs (ds : List D) : Nat := PyData.weightAll (pyXs ds)
def dpx (d : D) : Nat := (pyX d).depth
def dpxs (ds : List D) : Nat := PyData.depthAll (pyXs ds)
theorem wxs_cons (d : D) (ds : List D) : wxs (d :: ds) = wx d + 1 + wxs ds := by
  unfold wxs wx
  simp only [pyXs, PyData.weightAll]
theorem dpxs_cons (d : D) (ds : List D) : dpxs (d :: ds) = max (dpx d) (dpxs ds) := by
  unfold dpxs dpx
  simp only [pyXs, PyData.depthAll]
theorem wxs_app : ∀ (a b : List D), wxs (a ++ b) = wxs a + wxs b
  | [], b => by rw [List.nil_append]; show _ = 0 + _; omega
  | d :: a, b => by rw [List.cons_append, wxs_cons, wxs_cons, wxs_app a b]; omega
theorem dpxs_le {n : Nat} : ∀ {ds : List D}, dpxs ds ≤ n ↔ ∀ d ∈ ds, dpx d ≤ n
  | [] => ⟨fun _ _ h => (by cases h), fun _ => Nat.zero_le _⟩
  | d :: ds => by
    rw [dpxs_cons]
    have := dpxs_le (n := n) (ds := ds)
    simp only [List.mem_cons, forall_eq_or_imp]
    rw [← this]
    omega
theorem wx_tup (ds : List D) : wx (.tup ds) = wxs ds := by unfold wx wxs; simp only [pyX, PyData.weight]
theorem wx_lst (ds : List D) : wx (.lst ds) = wxs ds := by unfold wx wxs; simp only [pyX, PyData.weight]
theorem dpx_tup (ds : List D) : dpx (.tup ds) = dpxs ds + 1 := by unfold dpx dpxs; simp only [pyX, PyData.depth]
theorem dpx_lst (ds : List D) : dpx (.lst ds) = dpxs ds + 1 := by unfold dpx dpxs; simp only [pyX, PyData.depth]
theorem wx_str (z : Str) : wx (.str z) = z.length := by unfold wx; simp only [pyX, PyData.weight]; rfl
theorem wxs_len : ∀ ds : List D, ds.length ≤ wxs ds
  | [] => Nat.zero_le _
  | d :: ds => by rw [wxs_cons, List.length_cons]; have := wxs_len ds; omega
theorem wxs_mem : ∀ {ds : List D} {d : D}, d ∈ ds → wx d + 1 ≤ wxs ds
  | c :: ds, d, h => by
    rw [wxs_cons]
    rcases List.mem_cons.mp h with rfl | h
    · omega
    · have := wxs_mem h
      omega
theorem int_small {m : Nat} (hm : m ≤ 100) {i : Int} (h : i.natAbs ≤ 10 ^ 39 + m) : i.natAbs < 10 ^ 45 := by
  have : (10 : Nat) ^ 45 = 10 ^ 39 * 10 ^ 6 := by decide
  have h1 : (1 : Nat) ≤ 10 ^ 39 := by decide
  omega
mutual
theorem kd_ok {m : Nat} (hm : m ≤ 100) : ∀ d : D, kd m d = true → isX d = true ∧ (pyX d).showable = true ∧ PyData.leavesShort 50 (pyX d) = true
  | .non, _ => ⟨rfl, by simp only [pyX, PyData.showable], by simp only [pyX, PyData.leavesShort]⟩
  | .bl b, _ => ⟨rfl, by simp only [pyX, PyData.showable], by simp only [pyX, PyData.leavesShort]⟩
  | .int i, h => by
    have h := int_small hm (of_decide_eq_true (show decide (i.natAbs ≤ 10 ^ 39 + m) = true from h))
    refine ⟨rfl, ?_, ?_⟩
    · simp only [pyX, PyData.showable]
      refine decide_eq_true ?_
      by_cases z : i.natAbs = 0
      · rw [z]; decide
      · have h2 : i.natAbs < 2 ^ 200 := Nat.lt_of_lt_of_le h (by decide)
        have := (Nat.log2_lt z).mpr h2
        omega
    · simp only [pyX, PyData.leavesShort]
      refine decide_eq_true ?_
      simp only [PyData.shown]
      have := PySem.int_text_length_le10 (k := 45) (by decide) h
      rw [PySem.ofString_length]
      omega
  | .str z, h => by
    have h : (z.cps.toList.all fun c => decide (c < 128)) = true := h
    refine ⟨rfl, by simp only [pyX, PyData.showable], ?_⟩
    simp only [pyX, PyData.leavesShort]
    exact List.all_eq_true.mpr fun c hc => decide_eq_true (by have := of_decide_eq_true (List.all_eq_true.mp h c hc); omega)
  | .tup ds, h => by
    obtain ⟨a, b, c⟩ := kds_ok hm ds h
    exact ⟨a, by simp only [pyX, PyData.showable]; exact b, by simp only [pyX, PyData.leavesShort]; exact c⟩
  | .lst ds, h => by
    obtain ⟨a, b, c⟩ := kds_ok hm ds h
    exact ⟨a, by simp only [pyX, PyData.showable]; exact b, by simp only [pyX, PyData.leavesShort]; exact c⟩
  | .dct kvs, h => by
    cases kvs with
    | nil => exact ⟨rfl, by simp [pyX, pyXk, PyData.showable, PyData.showableKv], by simp [pyX, pyXk, PyData.leavesShort, PyData.leavesShortKv]⟩
    | cons _ _ => cases h
  | .obj _ _, h => nomatch h
  | .dcT _, h => nomatch h
  | .dk, h => nomatch h
  | .opq _, h => nomatch h
theorem kds_ok {m : Nat} (hm : m ≤ 100) : ∀ ds : List D, kds m ds = true → isXs ds = true ∧ PyData.showableAll (pyXs ds) = true ∧ PyData.leavesShortAll 50 (pyXs ds) = true
  | [], _ => ⟨rfl, by simp only [pyXs, PyData.showableAll], by simp only [pyXs, PyData.leavesShortAll]⟩
  | d :: ds, h => by
    have h : (kd m d && kds m ds) = true := h
    rw [Bool.and_eq_true] at h
    obtain ⟨a, b, c⟩ := kd_ok hm d h.1
    obtain ⟨a', b', c'⟩ := kds_ok hm ds h.2
    refine ⟨by show (isX d && isXs ds) = true; rw [a, a']; rfl, ?_, ?_⟩
    · simp only [pyXs, PyData.showableAll, b, b']; rfl
    · simp only [pyXs, PyData.leavesShortAll, c, c']; rfl
end
theorem showX_kd {m : Nat} (hm : m ≤ 100) {d : D} (h : kd m d = true) (hw : wx d ≤ 15000) (hd : dpx d ≤ 60) : showX d := by
  obtain ⟨a, b, c⟩ := kd_ok hm d h
  refine ⟨a, b, hd, ?_⟩
  have := PyData.shown_le 50 (by decide) (pyX d) c
  have hw : (pyX d).weight ≤ 15000 := hw
  omega
def tl : D → Nat
  | .tup xs => xs.length
  | _ => 0
mutual
theorem kd_mono {m n : Nat} (h : m ≤ n) : ∀ d : D, kd m d = true → kd n d = true
  | .non, _ => rfl
  | .bl _, _ => rfl
  | .int i, k => by
    have k : decide (i.natAbs ≤ 10 ^ 39 + m) = true := k
    have k := of_decide_eq_true k
    show decide (i.natAbs ≤ 10 ^ 39 + n) = true
    exact decide_eq_true (Nat.le_trans k (Nat.add_le_add_left h _))
  | .str _, k => k
  | .tup ds, k => kds_mono h ds k
  | .lst ds, k => kds_mono h ds k
  | .dct _, k => k
  | .obj _ _, k => nomatch k
  | .dcT _, k => nomatch k
  | .dk, k => nomatch k
  | .opq _, k => nomatch k
theorem kds_mono {m n : Nat} (h : m ≤ n) : ∀ ds : List D, kds m ds = true → kds n ds = true
  | [], _ => rfl
  | d :: ds, k => by
    have k : (kd m d && kds m ds) = true := k
    rw [Bool.and_eq_true] at k
    show (kd n d && kds n ds) = true
    rw [kd_mono h d k.1, kds_mono h ds k.2]
    rfl
end
theorem wx_int {m : Nat} (hm : m ≤ 100) {i : Int} (h : i.natAbs ≤ 10 ^ 39 + m) : wx (.int i) ≤ 201 := by
  have h := int_small hm h
  unfold wx
  simp only [pyX, PyData.weight]
  split
  · omega
  · rename_i z
    have z : i.natAbs ≠ 0 := fun e => z (by have : i = 0 := by omega
                                            subst this; rfl)
    have := (Nat.log2_lt z).mpr (Nat.lt_of_lt_of_le h (by decide : 10 ^ 45 ≤ 2 ^ 200))
    omega
theorem wxs_td (xs : List D) (a : Nat) : wxs (xs.take a) + wxs (xs.drop a) = wxs xs := by rw [← wxs_app, List.take_append_drop]
theorem wxs_take (xs : List D) (a : Nat) : wxs (xs.take a) ≤ wxs xs := by have := wxs_td xs a; omega
theorem wxs_drop (xs : List D) (a : Nat) : wxs (xs.drop a) ≤ wxs xs := by have := wxs_td xs a; omega
theorem wxs_rev : ∀ xs : List D, wxs xs.reverse = wxs xs
  | [] => rfl
  | x :: xs => by
    rw [List.reverse_cons, wxs_app, wxs_rev xs, wxs_cons, wxs_cons]
    show _ + (wx x + 1 + 0) = _
    omega
theorem dpxs_sub {xs ys : List D} (h : ∀ y ∈ ys, y ∈ xs) : dpxs ys ≤ dpxs xs := dpxs_le.mpr fun y hy => dpxs_le.mp (Nat.le_refl _) y (h y hy)
theorem ix_get {xs : List D} {i : Nat} (h : i < xs.length) : ∃ x, xs[i]? = some x ∧ x ∈ xs := ⟨xs[i], List.getElem?_eq_getElem h, List.getElem_mem h⟩
theorem wxs_le {n : Nat} : ∀ {ds : List D}, (∀ d ∈ ds, wx d ≤ n) → wxs ds ≤ (n + 1) * ds.length
  | [], _ => Nat.zero_le _
  | d :: ds, h => by
    have h1 := h d List.mem_cons_self
    have h2 := wxs_le (n := n) fun c hc => h c (List.mem_cons_of_mem _ hc)
    rw [wxs_cons, List.length_cons, Nat.mul_succ]
    omega
end K28
namespace K28
open PySem PySem.Spec PyProof.Rows L2 EL PH
/-! ### sums as data -/
abbrev Sm := List (List Nat × Int)
abbrev smD (L : Sm) : D := .tup (L.map tmD)
def wholeB : D → Bool
  | .int _ => true
  | _ => false
def natB : D → Bool
  | .int i => decide (0 ≤ i)
  | _ => false
def toN : D → Nat
  | .int i => i.toNat
  | _ => 0
/-- a pair of so many powers and a number but 0 -/
def powB (n : Nat) : D → Bool
  | .tup ps => decide (ps.length = n) && ps.all natB
  | _ => false
def nzB : D → Bool
  | .int m => decide (m ≠ 0)
  | _ => false
def termB (n : Nat) : D → Bool
  | .tup xs => match xs with
    | [a, b] => powB n a && nzB b
    | _ => false
  | _ => false
theorem isXs_mem : ∀ {ds : List D}, isXs ds = true → ∀ d ∈ ds, isX d = true
  | [], _, _, h => by cases h
  | d :: ds, h, c, hc => by
    have h : (isX d && isXs ds) = true := h
    rw [Bool.and_eq_true] at h
    rcases List.mem_cons.mp hc with e | hc
    · rw [e]; exact h.1
    · exact isXs_mem h.2 c hc
theorem okd_mem {xs : List D} (h : isX (.tup xs) = true ∧ wx (.tup xs) ≤ 20000) : xs.length ≤ 20000 ∧ ∀ x ∈ xs, isX x = true ∧ wx x ≤ 20000 := by
  obtain ⟨h1, h2⟩ := h
  rw [wx_tup] at h2
  refine ⟨Nat.le_trans (wxs_len xs) h2, fun x hx => ⟨isXs_mem h1 x hx, ?_⟩⟩
  have := wxs_mem hx
  omega
def keyB : D → List Nat
  | .tup (.tup ps :: _) => ps.map toN
  | _ => []
def risesB : List D → Bool
  | a :: b :: r => decide (keyB a < keyB b) && risesB (b :: r)
  | _ => true
def sumB (n : Nat) : D → Bool
  | .tup ts => ts.all (termB n) && risesB ts
  | _ => false
/-- what is asked of -/
def Okd (d : D) : Prop := isX d = true ∧ wx d ≤ 20000
theorem natB_int : ∀ {ps : List D}, ps.all natB = true → ps = (ps.map toN).map fun n : Nat => D.int (n : Nat)
  | [], _ => rfl
  | p :: ps, h => by
    rw [List.all_cons, Bool.and_eq_true] at h
    rw [List.map_cons, List.map_cons, ← natB_int h.2]
    cases p with
    | int i =>
      have h0 : (0 : Int) ≤ i := of_decide_eq_true h.1
      show D.int i :: ps = D.int ((i.toNat : Nat) : Int) :: ps
      rw [Int.toNat_of_nonneg h0]
    | _ => cases h.1
theorem keyB_kX (a : List Nat) (r : D) : keyB (.tup [kX a, r]) = a := by
  show (a.map fun n : Nat => D.int (n : Nat)).map toN = a
  rw [List.map_map]
  exact List.map_id'' (fun n => rfl) a
theorem term_key {n : Nat} {d : D} (h : termB n d = true) : ∃ a r, d = .tup [kX a, r] ∧ keyB (.tup [kX a, r]) = a := by
  cases d with
  | tup xs =>
    rcases xs with _ | ⟨a, _ | ⟨b, _ | ⟨c, xs⟩⟩⟩
    · cases h
    · cases h
    · have h : (powB n a && nzB b) = true := h
      rw [Bool.and_eq_true] at h
      cases a with
      | tup ps =>
        have h1 : (decide (ps.length = n) && ps.all natB) = true := h.1
        rw [Bool.and_eq_true] at h1
        refine ⟨ps.map toN, b, ?_, keyB_kX _ _⟩
        have := natB_int h1.2
        show D.tup [.tup ps, b] = D.tup [.tup ((ps.map toN).map fun n : Nat => D.int (n : Nat)), b]
        rw [← this]
      | _ => cases h.1
    · cases h
  | _ => cases h
theorem rises_zip : ∀ xs : List D, ((xs.zip (xs.drop 1)).map fun p : D × D => decide (keyB p.1 < keyB p.2)).all id = risesB xs
  | [] => rfl
  | [_] => rfl
  | a :: b :: r => by
    have ih := rises_zip (b :: r)
    show (decide (keyB a < keyB b) && (((b :: r).zip ((b :: r).drop 1)).map fun p : D × D => decide (keyB p.1 < keyB p.2)).all id) = (decide (keyB a < keyB b) && risesB (b :: r))
    rw [ih]
def FWhole : FD := fun ds R _ => ∃ d, ds = [d] ∧ isX d = true ∧ R (.bl (wholeB d))
def FTerm : FD := fun ds R _ => ∃ (n : Nat) (d : D), ds = [.int (n : Nat), d] ∧ Okd d ∧ R (.bl (termB n d))
def FIsSum : FD := fun ds R _ => ∃ (n : Nat) (d : D), ds = [.int (n : Nat), d] ∧ Okd d ∧ R (.bl (sumB n d))

/-- so many unknowns, rising, none 0 -/
structure SmOk (n : Nat) (L : Sm) : Prop where
  len : ∀ t ∈ L, t.1.length = n
  rise : (L.map (·.1)).Pairwise (· < ·)
  nz : ∀ t ∈ L, t.2 ≠ 0
/-- not too great -/
structure SmLe (u p b : Nat) (L : Sm) : Prop where
  many : L.length ≤ u
  pow : ∀ t ∈ L, ∀ k ∈ t.1, k ≤ p
  bits : ∀ t ∈ L, t.2.natAbs < 2 ^ b
theorem pow_small {b : Int} (hb : b.natAbs ≤ 4) {j : Nat} (hj : j ≤ 70) : (b ^ j).natAbs < 2 ^ 150 := by
  rw [Int.natAbs_pow]
  have h1 : b.natAbs ^ j ≤ 4 ^ j := Nat.pow_le_pow_left hb j
  have h2 : 4 ^ j ≤ 4 ^ 70 := Nat.pow_le_pow_right (by decide) hj
  have h3 : (4 : Nat) ^ 70 < 2 ^ 150 := by decide
  omega
theorem mul_bits {i j : Int} {a b : Nat} (h1 : i.natAbs < 2 ^ a) (h2 : j.natAbs < 2 ^ b) (h3 : a + b ≤ 100000) : CMulX i j := by
  have e1 := PyProof.Rows.intBits_le h1
  have e2 := PyProof.Rows.intBits_le h2
  show (Builtin.Int.intBits i : Int) + (Builtin.Int.intBits j : Int) ≤ 134217728
  omega
theorem natAbs_mul_lt {i j : Int} {a b : Nat} (h1 : i.natAbs < 2 ^ a) (h2 : j.natAbs < 2 ^ b) : (i * j).natAbs < 2 ^ (a + b) := by
  rw [Int.natAbs_mul, Nat.pow_add]
  exact Nat.mul_lt_mul'' h1 h2
theorem natAbs_add_lt {i j : Int} {a : Nat} (h1 : i.natAbs < 2 ^ a) (h2 : j.natAbs < 2 ^ a) : (i + j).natAbs < 2 ^ (a + 1) := by
  rw [Nat.pow_succ]
  omega
def FRaised : FD := fun ds R _ => ∃ (b : Int) (k : Nat), ds = [.int b, .int (k : Nat)] ∧ b.natAbs ≤ 4 ∧ k ≤ 60 ∧ R (.int (b ^ k))
/-- powers beside what stands for their unknowns -/
def pz : List (Int × Nat) → Int
  | [] => 1
  | p :: r => p.1 ^ p.2 * pz r
theorem pz_zip : ∀ (ns : List Int) (ks : List Nat), pz (ns.zip ks) = pw ks ns
  | [], [] => rfl
  | [], _ :: _ => rfl
  | _ :: _, [] => by simp [pz, pw]
  | n :: ns, k :: ks => by
    rw [List.zip_cons_cons]
    show n ^ k * pz (ns.zip ks) = n ^ k * pw ks ns
    rw [pz_zip ns ks]
theorem zipD_pows (ns : List Int) (ks : List Nat) : EL.zipD (ns.map D.int) (ks.map fun n : Nat => D.int (n : Nat)) = (ns.zip ks).map fun p => D.tup [.int p.1, .int (p.2 : Nat)] := by
  unfold EL.zipD
  rw [List.zip_map, List.map_map]
  rfl
theorem pz_zip' : ∀ (ks : List Nat) (ns : List Int), pz ((ks.zip ns).map fun p => (p.2, p.1)) = pw ks ns
  | [], [] => rfl
  | [], _ :: _ => rfl
  | _ :: _, [] => by simp [pz, pw]
  | k :: ks, n :: ns => by
    rw [List.zip_cons_cons, List.map_cons]
    show n ^ k * pz _ = n ^ k * pw ks ns
    rw [pz_zip' ks ns]
theorem zipD_pows' (ks : List Nat) (ns : List Int) : EL.zipD (ks.map fun n : Nat => D.int (n : Nat)) (ns.map D.int) = ((ks.zip ns).map fun p => (p.2, p.1)).map fun p : Int × Nat => D.tup [.int (p.2 : Nat), .int p.1] := by
  unfold EL.zipD
  rw [List.zip_map, List.map_map, List.map_map]
  rfl
def FWorth : FD := fun ds R _ => ∃ (L : Sm) (ns : List Int), ds = [smD L, .tup (ns.map D.int)] ∧ SmLe 200 60 200 L ∧ ns.length ≤ 4 ∧ (∀ n ∈ ns, n.natAbs ≤ 4) ∧ R (.int (worth L ns))
/-- sorted, the noughts left out -/
def nf (L : Sm) : Sm := (L.mergeSort fun a b => decide (¬ b.1 < a.1)).filter fun t => decide (t.2 ≠ 0)
def FSumOf : FD := fun ds R _ => ∃ (n : Nat) (L : Sm), ds = [.dcT L] ∧ (L.map (·.1)).Nodup ∧ (∀ t ∈ L, t.1.length = n) ∧ L.length ≤ 1000 ∧ R (smD (nf L))
def FGreat : FD := fun ds R _ => ∃ (L : Sm), ds = [smD L] ∧ L ≠ [] ∧ SmLe 200 20 1000 L ∧ ∀ m : Nat, m ≤ 20 → (∀ t ∈ L, ∀ k ∈ t.1, k ≤ m) → R (.int m)
/-- pairs of a packed key and a number -/
abbrev pkD (t : Nat × Int) : D := .tup [.int (t.1 : Nat), .int t.2]
def FPacked : FD := fun ds R _ => ∃ (L : Sm) (b : Nat), ds = [smD L, .int (b : Nat)] ∧ b ≤ 40 ∧ SmLe 200 20 1000 L ∧ (∀ t ∈ L, t.1.length ≤ 4) ∧ (∀ t ∈ L, ∀ k ∈ t.1, k < 2 ^ b) ∧ R (.lst (L.map fun t => pkD (pk b t.1, t.2)))
/-- a dict by packed keys, as it lies -/
abbrev pkV (b : Nat) (L : Sm) : List (Key × D) := L.map fun t => (.inl ((pk b t.1 : Nat) : Int), .int t.2)
def FUnpacked : FD := fun ds R _ => ∃ (n b : Nat) (L : Sm), ds = [.dct (pkV b L), .int (b : Nat), .int (n : Nat)] ∧ b ≤ 40 ∧ n ≤ 4 ∧ (L.map (·.1)).Nodup ∧ (∀ t ∈ L, t.1.length = n) ∧ (∀ t ∈ L, ∀ k ∈ t.1, k < 2 ^ b) ∧ L.length ≤ 1000 ∧ R (smD (nf L))
def negS (L : Sm) : Sm := L.map fun t => (t.1, -t.2)
def FAdded : FD := fun ds R _ => ∃ (n : Nat) (A E : Sm) (x : D), ds = [smD A, x] ∧ (x = smD E ∨ x = .lst (E.map tmD)) ∧ SmOk n A ∧ (∀ t ∈ E, t.1.length = n) ∧ A.length ≤ 200 ∧ E.length ≤ 200 ∧ R (smD (nf (addAll A E)))
def FLess : FD := fun ds R _ => ∃ (n : Nat) (A E : Sm), ds = [smD A, smD E] ∧ SmOk n A ∧ (∀ t ∈ E, t.1.length = n) ∧ A.length ≤ 200 ∧ E.length ≤ 200 ∧ R (smD (nf (addAll A (negS E))))
def FTimes : FD := fun ds R _ => ∃ (n : Nat) (A E : Sm), ds = [smD A, smD E] ∧ n ≤ 4 ∧ SmOk n A ∧ SmOk n E ∧ SmLe 12 20 200 A ∧ SmLe 12 20 200 E ∧ R (smD (nf (addAll [] (prods A E))))

theorem okD_ones {α : Type} (Z : List α) : okD (.lst (Z.map fun _ => D.int 1)) := by
  have h1 : ∀ d ∈ Z.map (fun _ => D.int 1), tm d = true ∧ dep d ≤ 0 := fun d hd => by
    obtain ⟨_, _, rfl⟩ := List.mem_map.mp hd
    exact ⟨rfl, Nat.le_refl _⟩
  have h3 := deps_le fun d hd => (h1 d hd).2
  refine okD_tm (show tms _ = true from tms_all fun d hd => (h1 d hd).1) ?_
  show deps _ + 1 ≤ 60
  omega
end K28
namespace K28
open PySem PySem.Spec PyProof.Rows L2 EL PH
section
variable {P : Program} {w : World} {K : PySem.W.Frag} {mg : Str → Option Value} {base : Heap}
abbrev GT_is_whole (P : Program) (w : World) (base : Heap) (T : Tops K w mg) : Prop := FnOk P w K mg base CX0 1 T.f_is_whole T.d_is_whole ["thing"] (spD K clT Deck 0 1 FWhole)
theorem ok_is_whole (T : Tops K w mg)  : GT_is_whole P w base T := by
  refine Fun.ok T.N_is_whole.F sc_is_whole (spD_len rfl) fun cdv A outer s H vs Q E hr h => bodyD (K := K) h (fun dk G xc DkAt hx hB => (ss_one (s_ret (d_and (d_cb (ok_isi rfl kt_int) (pe_callB (call_isiB (T := "int")) (by rfl) T.z_isinstance (by decide +kernel) (a_cons (d_var 0 (pv 0)) (a_cons (d_opq (pe_bltn (by rfl) T.z_int (by decide +kernel) (show RelV (.ty "int") (.type "int") from rfl))) a_nil)))) (d_one (d_not (d_cb (ok_isi rfl kt_bool) (pe_callB (call_isiB (T := "bool")) (by rfl) T.z_isinstance (by decide +kernel) (a_cons (d_var 0 (pv 0)) (a_cons (d_opq (pe_bltn (by rfl) T.z_bool (by decide +kernel) (show RelV (.ty "bool") (.type "bool") from rfl))) a_nil)))))))))) ?_
  rintro _ R xc - ⟨d, rfl, hd, hR⟩
  cases d with
  | obj _ _ => cases hd
  | dk => cases hd
  | opq _ => cases hd
  | dcT _ => cases hd
  | int i => exact ⟨_, rfl, fun _ => ⟨_, rfl, hR⟩, fun h => absurd h (by decide)⟩
  | bl b => exact ⟨_, rfl, fun _ => ⟨_, rfl, hR⟩, fun h => absurd h (by decide)⟩
  | _ => exact ⟨_, rfl, fun h => absurd h (by decide), fun _ => hR⟩
end
end K28
namespace K28
open PySem PySem.Spec PyProof.Rows L2 EL PH
section
variable {P : Program} {w : World} {K : PySem.W.Frag} {mg : Str → Option Value} {base : Heap}
abbrev GT__law_whole (P : Program) (w : World) (base : Heap) (T : Tops K w mg) : Prop := FnOk P w K mg base CX0 1 T.f__law_whole T.d__law_whole ["_law_thing"] (spD K clT Deck 0 1 FWhole)
theorem ok__law_whole (T : Tops K w mg)  : GT__law_whole P w base T := by
  refine Fun.ok T.N__law_whole.F sc__law_whole (spD_len rfl) fun cdv A outer s H vs Q E hr h => bodyD (K := K) h (fun dk G xc DkAt hx hB => (ss_one (s_ret (d_and (d_cb (ok_isi rfl kt_int) (pe_callB (call_isiB (T := "int")) (by rfl) T.z_isinstance (by decide +kernel) (a_cons (d_var 0 (pv 0)) (a_cons (d_opq (pe_bltn (by rfl) T.z_int (by decide +kernel) (show RelV (.ty "int") (.type "int") from rfl))) a_nil)))) (d_one (d_not (d_cb (ok_isi rfl kt_bool) (pe_callB (call_isiB (T := "bool")) (by rfl) T.z_isinstance (by decide +kernel) (a_cons (d_var 0 (pv 0)) (a_cons (d_opq (pe_bltn (by rfl) T.z_bool (by decide +kernel) (show RelV (.ty "bool") (.type "bool") from rfl))) a_nil)))))))))) ?_
  rintro _ R xc - ⟨d, rfl, hd, hR⟩
  cases d with
  | obj _ _ => cases hd
  | dk => cases hd
  | opq _ => cases hd
  | dcT _ => cases hd
  | int i => exact ⟨_, rfl, fun _ => ⟨_, rfl, hR⟩, fun h => absurd h (by decide)⟩
  | bl b => exact ⟨_, rfl, fun _ => ⟨_, rfl, hR⟩, fun h => absurd h (by decide)⟩
  | _ => exact ⟨_, rfl, fun h => absurd h (by decide), fun _ => hR⟩
end
end K28
namespace K28
open PySem PySem.Spec PyProof.Rows L2 EL PH
section
variable {P : Program} {w : World} {K : PySem.W.Frag} {mg : Str → Option Value} {base : Heap}
abbrev GT_is_term (P : Program) (w : World) (base : Heap) (T : Tops K w mg) : Prop := FnOk P w K mg base CX0 2 T.f_is_term T.d_is_term ["many", "thing"] (spD K clT Deck 0 2 FTerm)
theorem ok_is_term (T : Tops K w mg) (G_is_whole : GT_is_whole P w base T) : GT_is_term P w base T := by
  refine Fun.ok T.N_is_term.F sc_is_term (spD_len rfl) fun cdv A outer s H vs Q E hr h => bodyD (K := K) h (fun dk G xc DkAt hx hB => (ss_cons (s_if (PW.pt (bw_or (b_not (b_val (d_cb (ok_isi rfl kt_tuple) (pe_callB (call_isiB (T := "tuple")) (by rfl) T.z_isinstance (by decide +kernel) (a_cons (d_var 1 (pv 1)) (a_cons (d_opq (pe_bltn (by rfl) T.z_tuple (by decide +kernel) (show RelV (.ty "tuple") (.type "tuple") from rfl))) a_nil)))))) (bw_or (b_cmp (op_nePP hr.units) (ok_neP rfl) (d_cb (ok_len rfl) (pe_callB call_lenD (by rfl) T.z_len (by decide +kernel) (a_cons (d_var 1 (pv 1)) a_nil))) d_int (nomark _)) (bw_or (b_not (b_val (d_call hB (pe_call G_is_whole (hr.mono (by decide)) rfl T.N_is_whole.m T.N_is_whole.F.kp T.N_is_whole.b .nil pass0 (a_cons (d_item rfl (d_var 1 (pv 1)) d_int (fun _ _ => rfl)) a_nil))))) (bw_or1 (b_cmp (op_eqPP hr.units) (ok_eqP rfl) (d_item rfl (d_var 1 (pv 1)) d_int (fun _ _ => rfl)) d_int (nomark _))))))) (ss_one (s_ret d_bl)) ss_nil)
    (ss_cons (s_set (i := 2) (ps_set (i := 2) sc_is_term.nd rfl (Or.inl rfl) (d_item rfl (d_var 1 (pv 1)) d_int (fun _ _ => rfl))))
    (ss_cons (s_if (PW.pt (bw_or (b_not (b_val (d_cb (ok_isi rfl kt_tuple) (pe_callB (call_isiB (T := "tuple")) (by rfl) T.z_isinstance (by decide +kernel) (a_cons (d_var 2 (pv 2)) (a_cons (d_opq (pe_bltn (by rfl) T.z_tuple (by decide +kernel) (show RelV (.ty "tuple") (.type "tuple") from rfl))) a_nil)))))) (bw_or1 (b_cmp (op_nePP hr.units) (ok_neP rfl) (d_cb (ok_len rfl) (pe_callB call_lenD (by rfl) T.z_len (by decide +kernel) (a_cons (d_var 2 (pv 2)) a_nil))) (d_var 0 (pv 0)) (nomark _))))) (ss_one (s_ret d_bl)) ss_nil)
    (ss_one (s_ret (d_cb (ok_all rfl) (pe_callB (cr_all rfl) (by rfl) T.z_all (by decide +kernel) (a_cons (d_f (f_lc (pe_lc (own := [("power", 3)]) rfl sc_is_term.nd (i_seq rfl (d_var 2 (pv 2))) (blkOk_by (own := [("power", 3)]) (N := N_sc_is_term) (sc := defScope s_is_term) (by decide +kernel)) (fun _ _ _ _ _ => gx (vs := [3]) fun _ => (g_name (vs := [3]) (pg_name (i := 3) sc_is_term.nd rfl (Or.inl rfl)))) (fun _ _ _ _ _ => bx_yes) (fun _ _ _ _ _ => dx fun h0 => (d_and (d_call (hB.withH h0) (pe_call G_is_whole (hr.mono (by decide)) rfl T.N_is_whole.m T.N_is_whole.F.kp T.N_is_whole.b .nil pass0 (a_cons (d_var 3 (pv 3)) a_nil))) (d_one (d_cmp op_ge ok_geP (d_var 3 (pv 3)) d_int (nomark _)))))))) a_nil))))))))) ?_
  rintro _ R xc - ⟨n, d, rfl, hd, hR⟩
  have dead : ∀ {P : Prop}, R (.bl false) → (True → R (.bl false)) ∧ (¬True → P) := fun h => ⟨fun _ => h, fun z => absurd trivial z⟩
  cases d with
  | obj _ _ => cases hd.1
  | dk => cases hd.1
  | opq _ => cases hd.1
  | dcT _ => cases hd.1
  | tup xs =>
    obtain ⟨hl, hm⟩ := okd_mem hd
    refine ⟨_, rfl, fun hp => (hp rfl).elim, fun _ => ⟨fun hp => dead ?_, fun hp => ?_⟩⟩
    · rcases xs with _ | ⟨a, _ | ⟨b, _ | ⟨c, xs⟩⟩⟩
      · exact hR
      · exact hR
      · exact (hp rfl).elim
      · exact hR
    · have h2 : xs.length = 2 := by
        have := Classical.not_not.mp hp
        omega
      obtain ⟨a, b, rfl⟩ : ∃ a b, xs = [a, b] := by
        rcases xs with _ | ⟨a, _ | ⟨b, _ | ⟨c, xs⟩⟩⟩
        · cases h2
        · cases h2
        · exact ⟨a, b, rfl⟩
        · cases h2
      have hR : R (.bl (powB n a && nzB b)) := hR
      refine ⟨b, at_1, rfl, b, rfl, (hm b (by simp)).1, fun hp => dead ?_, fun hp => ?_⟩
      · have e : nzB b = false := by
          cases b with
          | int m => exact (hp rfl).elim
          | _ => rfl
        rw [e, Bool.and_false] at hR
        exact hR
      cases b with
      | int m =>
        refine ⟨_, at_1, fun hz => ?_, fun hz => ⟨a, at_0, ?_⟩⟩
        · have hz : m = 0 := hz
          subst hz
          rw [show nzB (.int 0) = false from rfl, Bool.and_false] at hR
          exact hR
        rw [show nzB (.int m) = true from decide_eq_true hz, Bool.and_true] at hR
        have ha := hm a (by simp)
        cases a with
        | obj _ _ => cases ha.1
        | dk => cases ha.1
        | opq _ => cases ha.1
        | dcT _ => cases ha.1
        | tup ps =>
          obtain ⟨hl2, hm2⟩ := okd_mem ha
          refine ⟨_, rfl, fun hp => (hp rfl).elim, fun _ => ⟨fun hp => ?_, fun hp => ?_⟩⟩
          · have e : powB n (.tup ps) = false := by
              show (decide (ps.length = n) && ps.all natB) = false
              rw [decide_eq_false (fun z => hp (by rw [z])), Bool.false_and]
            rw [e] at hR
            exact hR
          · have e : powB n (.tup ps) = ps.all natB := by
              show (decide (ps.length = n) && ps.all natB) = _
              have := Classical.not_not.mp hp
              rw [decide_eq_true (by omega), Bool.true_and]
            rw [e] at hR
            refine ⟨(by omega : ps.length ≤ 1000000), ?_⟩
            show lcD _ _ _ _ ps [] _ _
            suffices hh : lcD _ _ _ _ (ps.map id) [] _ _ by rw [List.map_id] at hh; exact hh
            refine lc_filt id (fun x => .bl (natB x)) (fun _ => true) ps ?_ ps [] _ (fun _ h => h) ?_
            · intro x hx Z Z' k1 k2
              refine ⟨fun _ => ⟨rfl, x, rfl, (hm2 x hx).1, ?_⟩, fun n => absurd trivial n⟩
              cases x with
              | int i =>
                refine ⟨fun _ b hb => ?_, fun h => by cases h⟩
                have e : b = natB (.int i) := by
                  rw [Bool.eq_iff_iff, hb]
                  exact (decide_eq_true_iff (p := (0 : Int) ≤ i)).symm
                rw [e]
                exact k1 rfl _ rfl
              | _ => exact ⟨(fun h => by cases h), fun _ => k1 rfl _ rfl⟩
            rw [List.nil_append, List.filter_eq_self.mpr (fun _ _ => rfl)]
            refine ⟨ps.map natB, by rw [List.map_map]; rfl, ?_⟩
            rw [show (ps.map natB).all id = ps.all natB by rw [List.all_map]; rfl]
            exact hR
        | _ => exact ⟨_, rfl, fun _ => dead hR, fun z => (z (by decide)).elim⟩
      | _ => exact (hp (fun z => by cases z)).elim
  | _ => exact ⟨_, rfl, fun _ => dead hR, fun z => (z (by decide)).elim⟩
end
end K28
namespace K28
open PySem PySem.Spec PyProof.Rows L2 EL PH
section
variable {P : Program} {w : World} {K : PySem.W.Frag} {mg : Str → Option Value} {base : Heap}
abbrev GT_is_sum (P : Program) (w : World) (base : Heap) (T : Tops K w mg) : Prop := FnOk P w K mg base CX0 3 T.f_is_sum T.d_is_sum ["many", "thing"] (spD K clT Deck 0 2 FIsSum)
theorem ok_is_sum (T : Tops K w mg) (G_is_term : GT_is_term P w base T) : GT_is_sum P w base T := by
  refine Fun.ok T.N_is_sum.F sc_is_sum (spD_len rfl) fun cdv A outer s H vs Q E hr h => bodyD (K := K) h (fun dk G xc DkAt hx hB => (ss_cons (s_if (PW.pt (bw_or (b_not (b_val (d_cb (ok_isi rfl kt_tuple) (pe_callB (call_isiB (T := "tuple")) (by rfl) T.z_isinstance (by decide +kernel) (a_cons (d_var 1 (pv 1)) (a_cons (d_opq (pe_bltn (by rfl) T.z_tuple (by decide +kernel) (show RelV (.ty "tuple") (.type "tuple") from rfl))) a_nil)))))) (bw_or1 (b_not (b_val (d_cb (ok_all rfl) (pe_callB (cr_all rfl) (by rfl) T.z_all (by decide +kernel) (a_cons (d_f (f_lc (pe_lc (own := [("part", 4)]) rfl sc_is_sum.nd (i_seq rfl (d_var 1 (pv 1))) (blkOk_by (own := [("part", 4)]) (N := N_sc_is_sum) (sc := defScope s_is_sum) (by decide +kernel)) (fun _ _ _ _ _ => gx (vs := [4]) fun _ => (g_name (vs := [4]) (pg_name (i := 4) sc_is_sum.nd rfl (Or.inl rfl)))) (fun _ _ _ _ _ => bx_yes) (fun _ _ _ _ _ => dx fun h0 => (d_call (hB.withH h0) (pe_call G_is_term (hr.mono (by decide)) rfl T.N_is_term.m T.N_is_term.F.kp T.N_is_term.b .nil pass0 (a_cons (d_var 0 (pv 0)) (a_cons (d_var 4 (pv 4)) a_nil)))))))) a_nil)))))))) (ss_one (s_ret d_bl)) ss_nil)
    (ss_one (s_ret (d_cb (ok_all rfl) (pe_callB (cr_all rfl) (by rfl) T.z_all (by decide +kernel) (a_cons (d_f (f_lc (pe_lc (own := [("one", 2), ("other", 3)]) rfl sc_is_sum.nd (i_zip3 (pi_zip3 rfl T.z_zip (a_cons (d_var 1 (pv 1)) (a_cons (d_sl rfl (pe_slice sl_D (d_var 1 (pv 1)) (o_some d_int) o_none)) a_nil)))) (blkOk_by (own := [("one", 2), ("other", 3)]) (N := N_sc_is_sum) (sc := defScope s_is_sum) (by decide +kernel)) (fun _ _ _ _ _ => gx (vs := [2, 3]) fun _ => (g_tup (bl_cons tame_n (bl_cons tame_n bl_nil)) (pg_tup (n := 2) rfl (gs_cons (g_name (vs := [2, 3]) (pg_name (i := 2) sc_is_sum.nd rfl (Or.inl rfl))) (gs_cons (g_name (vs := [2, 3]) (pg_name (i := 3) sc_is_sum.nd rfl (Or.inl rfl))) (gs_nil (vs := [2, 3])) (pgs_cons (g_name (vs := [2, 3]) (pg_name (i := 3) sc_is_sum.nd rfl (Or.inl rfl))) (gs_nil (vs := [2, 3])))) (pgs_cons (g_name (vs := [2, 3]) (pg_name (i := 2) sc_is_sum.nd rfl (Or.inl rfl))) (gs_cons (g_name (vs := [2, 3]) (pg_name (i := 3) sc_is_sum.nd rfl (Or.inl rfl))) (gs_nil (vs := [2, 3])) (pgs_cons (g_name (vs := [2, 3]) (pg_name (i := 3) sc_is_sum.nd rfl (Or.inl rfl))) (gs_nil (vs := [2, 3]))))))))) (fun _ _ _ _ _ => bx_yes) (fun _ _ _ _ _ => dx fun h0 => (d_cmp (op_ltT hr.units0) (ok_ltT rfl) (d_item rfl (d_var 2 (pv 2)) d_int (fun _ _ => rfl)) (d_item rfl (d_var 3 (pv 3)) d_int (fun _ _ => rfl)) (nomark _)))))) a_nil))))))) ?_
  rintro _ R xc - ⟨n, d, rfl, hd, hR⟩
  have dead : ∀ {P : Prop}, R (.bl false) → (True → R (.bl false)) ∧ (¬True → P) := fun h => ⟨fun _ => h, fun z => absurd trivial z⟩
  cases d with
  | obj _ _ => cases hd.1
  | dk => cases hd.1
  | opq _ => cases hd.1
  | dcT _ => cases hd.1
  | tup xs =>
    obtain ⟨hl, hm⟩ := okd_mem hd
    refine ⟨_, rfl, fun hp => (hp rfl).elim, fun _ => ⟨(by omega : xs.length ≤ 1000000), ?_⟩⟩
    show lcD _ _ _ _ xs [] _ _
    suffices hh : lcD _ _ _ _ (xs.map id) [] _ _ by rw [List.map_id] at hh; exact hh
    refine lc_filt id (fun x => .bl (termB n x)) (fun _ => true) xs ?_ xs [] _ (fun _ h => h) ?_
    · intro x hx Z Z' k1 k2
      exact ⟨fun _ => ⟨rfl, n, x, rfl, hm x hx, k1 rfl _ rfl⟩, fun n => absurd trivial n⟩
    rw [List.nil_append, List.filter_eq_self.mpr (fun _ _ => rfl)]
    refine ⟨xs.map (termB n), by rw [List.map_map]; rfl, ?_⟩
    have ea : (xs.map (termB n)).all id = xs.all (termB n) := by rw [List.all_map]; rfl
    rw [ea]
    have hR : R (.bl (xs.all (termB n) && risesB xs)) := hR
    refine ⟨fun hp => ?_, fun hp => ?_⟩
    · have e : xs.all (termB n) = false := by simpa using hp
      rw [e, Bool.false_and] at hR
      exact hR
    have hall : xs.all (termB n) = true := Classical.not_not.mp hp
    rw [hall, Bool.true_and] at hR
    have c1 : EL.cutD xs (some 1) none = xs.drop 1 := cutD_from 1
    show (EL.zipD xs (EL.cutD xs (some 1) none)).length ≤ 1000000 ∧ lcD _ _ _ _ (EL.zipD xs (EL.cutD xs (some 1) none)) [] _ _
    rw [c1]
    unfold EL.zipD
    refine ⟨by rw [List.length_map, List.length_zip]; omega, ?_⟩
    refine lc_filt (fun p : D × D => .tup [p.1, p.2]) (fun p => .bl (decide (keyB p.1 < keyB p.2))) (fun _ => true) (xs.zip (xs.drop 1)) ?_ (xs.zip (xs.drop 1)) [] _ (fun _ h => h) ?_
    · intro p hp Z Z' k1 k2
      have h1 := List.all_eq_true.mp hall p.1 (List.of_mem_zip hp).1
      have h2 := List.all_eq_true.mp hall p.2 (List.mem_of_mem_drop (List.of_mem_zip hp).2)
      obtain ⟨a, ra, e1, e2⟩ := term_key h1
      obtain ⟨b, rb, e3, e4⟩ := term_key h2
      obtain ⟨p1, p2⟩ := p
      dsimp only at e1 e2 e3 e4
      subst e1 e3
      refine ⟨fun _ => ⟨_, at_0, _, at_0, a, b, rfl, rfl, fun c hc => ?_⟩, fun n => absurd trivial n⟩
      have e : c = decide (keyB (.tup [kX a, ra]) < keyB (.tup [kX b, rb])) := by
        rw [Bool.eq_iff_iff, hc, decide_eq_true_iff, e2, e4]
      rw [e]
      exact k1 rfl _ rfl
    rw [List.nil_append, List.filter_eq_self.mpr (fun _ _ => rfl)]
    refine ⟨(xs.zip (xs.drop 1)).map fun p => decide (keyB p.1 < keyB p.2), by rw [List.map_map]; rfl, ?_⟩
    rw [rises_zip]
    exact hR
  | _ => exact ⟨_, rfl, fun _ => dead hR, fun z => (z (by decide)).elim⟩
end
end K28
namespace K28
open PySem PySem.Spec PyProof.Rows L2 EL PH
section
variable {P : Program} {w : World} {K : PySem.W.Frag} {mg : Str → Option Value} {base : Heap}
abbrev GT_raised (P : Program) (w : World) (base : Heap) (T : Tops K w mg) : Prop := FnOk P w K mg base CX0 1 T.f_raised T.d_raised ["number", "power"] (spD K clT Deck 0 2 FRaised)
theorem ok_raised (T : Tops K w mg)  : GT_raised P w base T := by
  refine Fun.ok T.N_raised.F sc_raised (spD_len rfl) fun cdv A outer s H vs Q E hr h => bodyD (K := K) h (fun dk G xc DkAt hx hB => (ss_cons (s_set (i := 2) (ps_set (i := 2) sc_raised.nd rfl (Or.inl rfl) d_int))
    (ss_cons (s_while (ps_while PassesOwn.never (b_cmp op_gt ok_gtP (d_var 1 (pv 1)) d_int (nomark _)) (ss_cut (s_if (b_cmp (op_eqPP hr.units) (ok_eqP rfl) (d_band (d_var 1 (pv 1)) d_int) d_int (nomark _)) (ss_one (s_set (i := 2) (ps_set (i := 2) sc_raised.nd rfl (Or.inl rfl) (d_mul (d_var 2 (pv 2)) (d_var 0 (pv 0)))))) ss_nil)
    (ss_cons (s_set (i := 0) (ps_set (i := 0) sc_raised.nd rfl (Or.inl rfl) (d_mul (d_var 0 (pv 0)) (d_var 0 (pv 0)))))
    (ss_one (s_set (i := 1) (ps_set (i := 1) sc_raised.nd rfl (Or.inl rfl) (d_shr (d_var 1 (pv 1)) d_int))))))))
    (ss_one (s_ret (d_var 2 (pv 2))))))) ?_
  rintro _ R xc - ⟨b, k, rfl, hb, hk, hR⟩
  refine ⟨fun m γ => ∃ (t : Nat) (n w : Int), m = k / 2 ^ t ∧ γ = ⟨[.fz (.int n), .fz (.int (m : Nat)), .fz (.int w)], 0⟩ ∧ n = b ^ 2 ^ t ∧ w = b ^ (k % 2 ^ t), ⟨k, 0, b, 1, by simp, rfl, by rw [Nat.pow_zero, Int.pow_succ, Int.pow_zero, Int.one_mul], by rw [Nat.pow_zero, Nat.mod_one, Int.pow_zero]⟩, ?_⟩
  rintro m γ ⟨t, n, w, hm, rfl, hn, hw⟩
  refine ⟨fun hp => ?_, fun hp => ?_⟩
  · have hp : (0 : Int) < (m : Int) := hp
    have hp : 0 < m := by omega
    have ht : 2 ^ t ≤ k := by
      rw [hm] at hp
      have := Nat.div_pos_iff.mp hp
      omega
    have b1 : n.natAbs < 2 ^ 150 := by rw [hn]; exact pow_small hb (by omega)
    have b2 : w.natAbs < 2 ^ 150 := by
      rw [hw]
      exact pow_small hb (Nat.le_trans (Nat.mod_le _ _) (by omega))
    have ea : Builtin.bitAnd (m : Int) 1 = (m : Int) % 2 := Bits.bitAnd_mask 1 (by omega)
    refine ⟨fun γ => γ = ⟨[.fz (.int n), .fz (.int (m : Nat)), .fz (.int (if m % 2 = 1 then w * n else w))], 0⟩, ?_, ?_⟩
    · refine ⟨fun h => ?_, fun h => ?_⟩
      · have h : Builtin.bitAnd (m : Int) 1 = 1 := h
        rw [ea] at h
        refine ⟨mul_bits b2 b1 (by decide), ?_⟩
        rw [if_pos (by omega)]
        rfl
      · have h : ¬ Builtin.bitAnd (m : Int) 1 = 1 := h
        rw [ea] at h
        show _ = _
        rw [if_neg (by omega)]
    · rintro γ' rfl
      refine ⟨mul_bits b1 b1 (by decide), (by decide : (0 : Int) ≤ 1), m / 2, by omega, t + 1, n * n, if m % 2 = 1 then w * n else w, ?_, ?_, ?_, ?_⟩
      · rw [hm, Nat.pow_succ, Nat.div_div_eq_div_mul]
      · rfl
      · rw [hn, Nat.pow_succ, ← Int.pow_add]
        congr 1
        omega
      · rw [Nat.mod_pow_succ, hm, hw, hn]
        by_cases h : k / 2 ^ t % 2 = 1
        · rw [if_pos h, h, Nat.mul_one, Int.pow_add]
        · have h : k / 2 ^ t % 2 = 0 := by omega
          rw [if_neg (by omega), h, Nat.mul_zero, Nat.add_zero]
  · have hp : ¬ (0 : Int) < (m : Int) := hp
    have e : k / 2 ^ t = 0 := by omega
    have e2 : k % 2 ^ t = k := by
      have := Nat.div_add_mod k (2 ^ t)
      rw [e] at this
      omega
    rw [e2] at hw
    show R (.int w)
    rw [hw]
    exact hR
end
end K28
namespace K28
open PySem PySem.Spec PyProof.Rows L2 EL PH
section
variable {P : Program} {w : World} {K : PySem.W.Frag} {mg : Str → Option Value} {base : Heap}
abbrev GT_worth_at (P : Program) (w : World) (base : Heap) (T : Tops K w mg) : Prop := FnOk P w K mg base CX0 2 T.f_worth_at T.d_worth_at ["one", "numbers"] (spD K clT Deck 0 2 FWorth)
theorem ok_worth_at (T : Tops K w mg) (G_raised : GT_raised P w base T) : GT_worth_at P w base T := by
  refine Fun.ok T.N_worth_at.F sc_worth_at (spD_len rfl) fun cdv A outer s H vs Q E hr h => bodyD (K := K) h (fun dk G xc DkAt hx hB => (ss_cons (s_set (i := 2) (ps_set (i := 2) sc_worth_at.nd rfl (Or.inl rfl) d_int))
    (ss_cons (s_for (vs := [3, 4]) (ps_for PassesOwn.never rfl (i_seq rfl (d_var 0 (pv 0))) (g_tup (bl_cons tame_n (bl_cons tame_n bl_nil)) (pg_tup (n := 2) rfl (gs_cons (g_name (vs := [3, 4]) (pg_name (i := 3) sc_worth_at.nd rfl (Or.inl rfl))) (gs_cons (g_name (vs := [3, 4]) (pg_name (i := 4) sc_worth_at.nd rfl (Or.inl rfl))) (gs_nil (vs := [3, 4])) (pgs_cons (g_name (vs := [3, 4]) (pg_name (i := 4) sc_worth_at.nd rfl (Or.inl rfl))) (gs_nil (vs := [3, 4])))) (pgs_cons (g_name (vs := [3, 4]) (pg_name (i := 3) sc_worth_at.nd rfl (Or.inl rfl))) (gs_cons (g_name (vs := [3, 4]) (pg_name (i := 4) sc_worth_at.nd rfl (Or.inl rfl))) (gs_nil (vs := [3, 4])) (pgs_cons (g_name (vs := [3, 4]) (pg_name (i := 4) sc_worth_at.nd rfl (Or.inl rfl))) (gs_nil (vs := [3, 4]))))))))
    (ss_cons (s_set (i := 5) (ps_set (i := 5) sc_worth_at.nd rfl (Or.inl rfl) (d_var 4 (pv 4))))
    (ss_cons (s_for (vs := [6, 7]) (ps_for PassesOwn.never rfl (i_zip3 (pi_zip3 rfl T.z_zip (a_cons (d_var 1 (pv 1)) (a_cons (d_var 3 (pv 3)) a_nil)))) (g_tup (bl_cons tame_n (bl_cons tame_n bl_nil)) (pg_tup (n := 2) rfl (gs_cons (g_name (vs := [6, 7]) (pg_name (i := 6) sc_worth_at.nd rfl (Or.inl rfl))) (gs_cons (g_name (vs := [6, 7]) (pg_name (i := 7) sc_worth_at.nd rfl (Or.inl rfl))) (gs_nil (vs := [6, 7])) (pgs_cons (g_name (vs := [6, 7]) (pg_name (i := 7) sc_worth_at.nd rfl (Or.inl rfl))) (gs_nil (vs := [6, 7])))) (pgs_cons (g_name (vs := [6, 7]) (pg_name (i := 6) sc_worth_at.nd rfl (Or.inl rfl))) (gs_cons (g_name (vs := [6, 7]) (pg_name (i := 7) sc_worth_at.nd rfl (Or.inl rfl))) (gs_nil (vs := [6, 7])) (pgs_cons (g_name (vs := [6, 7]) (pg_name (i := 7) sc_worth_at.nd rfl (Or.inl rfl))) (gs_nil (vs := [6, 7]))))))))
    (ss_one (s_set (i := 5) (ps_set (i := 5) sc_worth_at.nd rfl (Or.inl rfl) (d_mul (d_var 5 (pv 5)) (d_call hB (pe_call G_raised (hr.mono (by decide)) rfl T.N_raised.m T.N_raised.F.kp T.N_raised.b .nil pass0 (a_cons (d_var 6 (pv 6)) (a_cons (d_var 7 (pv 7)) a_nil))))))))))
    (ss_one (s_set (i := 2) (ps_set (i := 2) sc_worth_at.nd rfl (Or.inl rfl) (d_add rfl (d_var 2 (pv 2)) (d_var 5 (pv 5))))))))))
    (ss_one (s_ret (d_var 2 (pv 2))))))) ?_
  rintro _ R xc - ⟨L, ns, rfl, hL, hn4, hns, hR⟩
  show forD _ _ _ (L.map tmD) _
  refine for_invL (fun ds γ => ∃ (M : Sm) (acc : Int) (o3 o4 o5 o6 o7 : Sl), ds = M.map tmD ∧ γ = ⟨[.fz (smD L), .fz (.tup (ns.map D.int)), .fz (.int acc), o3, o4, o5, o6, o7], 0⟩ ∧ acc + worth M ns = worth L ns ∧ ∀ t ∈ M, t ∈ L) ?_ ?_ _ _
    ⟨L, 0, _, _, _, _, _, rfl, rfl, by omega, fun _ h => h⟩
  · rintro γ ⟨M, acc, o3, o4, o5, o6, o7, e, rfl, hw, hM⟩
    cases M with
    | nil =>
      have hw : acc + 0 = worth L ns := hw
      show R (.int acc)
      rw [show acc = worth L ns by omega]
      exact hR
    | cons t M => cases e
  · rintro d ds γ ⟨M, acc, o3, o4, o5, o6, o7, e, rfl, hw, hM⟩ next
    cases M with
    | nil => cases e
    | cons t M =>
      rw [List.map_cons] at e
      injection e with e1 e2
      subst e1 e2
      rw [worth_cons] at hw
      have ht := hM t List.mem_cons_self
      show forD _ _ _ (EL.zipD (ns.map D.int) (t.1.map fun n : Nat => D.int (n : Nat))) _
      rw [zipD_pows]
      have hmem : ∀ p ∈ ns.zip t.1, p.1.natAbs ≤ 4 ∧ p.2 ≤ 60 := fun p hp => ⟨hns _ (List.of_mem_zip hp).1, hL.pow t ht _ (List.of_mem_zip hp).2⟩
      have hlen : (ns.zip t.1).length ≤ 4 := by rw [List.length_zip]; omega
      refine for_invL (fun ds γ => ∃ (Z : List (Int × Nat)) (cur : Int) (j : Nat) (o6 o7 : Sl), ds = Z.map (fun p => D.tup [.int p.1, .int (p.2 : Nat)]) ∧ γ = ⟨[.fz (smD L), .fz (.tup (ns.map D.int)), .fz (.int acc), .fz (kX t.1), .fz (.int t.2), .fz (.int cur), o6, o7], 0⟩ ∧
          cur * pz Z = t.2 * pw t.1 ns ∧ cur.natAbs < 2 ^ (200 + 150 * j) ∧ j + Z.length ≤ 4 ∧ ∀ p ∈ Z, p.1.natAbs ≤ 4 ∧ p.2 ≤ 60) ?_ ?_ _ _
        ⟨ns.zip t.1, t.2, 0, _, _, rfl, rfl, by rw [pz_zip], hL.bits t ht, by omega, hmem⟩
      · rintro γ ⟨Z, cur, j, o6, o7, e, rfl, hc, hb, hj, hZ⟩
        cases Z with
        | nil =>
          have hc : cur * 1 = t.2 * pw t.1 ns := hc
          refine next _ ⟨M, acc + cur, _, _, _, _, _, rfl, rfl, ?_, fun x hx => hM x (List.mem_cons_of_mem _ hx)⟩
          rw [Int.mul_one] at hc
          rw [hc]
          omega
        | cons p Z => cases e
      · rintro d ds γ ⟨Z, cur, j, o6, o7, e, rfl, hc, hb, hj, hZ⟩ next2
        cases Z with
        | nil => cases e
        | cons p Z =>
          rw [List.map_cons] at e
          injection e with e1 e2
          subst e1 e2
          obtain ⟨h1, h2⟩ := hZ p List.mem_cons_self
          have hp := pow_small h1 (j := p.2) (by omega)
          rw [List.length_cons] at hj
          refine ⟨rfl, p.1, p.2, rfl, h1, h2, mul_bits hb hp (by omega), next2 _ ⟨Z, cur * p.1 ^ p.2, j + 1, _, _, rfl, rfl, ?_, ?_, by omega, fun x hx => hZ x (List.mem_cons_of_mem _ hx)⟩⟩
          · rw [← hc, Int.mul_assoc]
            rfl
          · have := natAbs_mul_lt hb hp
            rw [show 200 + 150 * (j + 1) = 200 + 150 * j + 150 by omega]
            exact this
end
end K28
namespace K28
open PySem PySem.Spec PyProof.Rows L2 EL PH
section
variable {P : Program} {w : World} {K : PySem.W.Frag} {mg : Str → Option Value} {base : Heap}
abbrev GT__law_worth (P : Program) (w : World) (base : Heap) (T : Tops K w mg) : Prop := FnOk P w K mg base CX0 1 T.f__law_worth T.d__law_worth ["_law_one", "_law_numbers"] (spD K clT Deck 0 2 FWorth)
theorem ok__law_worth (T : Tops K w mg)  : GT__law_worth P w base T := by
  refine Fun.ok T.N__law_worth.F sc__law_worth (spD_len rfl) fun cdv A outer s H vs Q E hr h => bodyD (K := K) h (fun dk G xc DkAt hx hB => (ss_cons (s_set (i := 2) (ps_set (i := 2) sc__law_worth.nd rfl (Or.inl rfl) d_int))
    (ss_cons (s_for (vs := [3, 4]) (ps_for PassesOwn.never rfl (i_seq rfl (d_var 0 (pv 0))) (g_tup (bl_cons tame_n (bl_cons tame_n bl_nil)) (pg_tup (n := 2) rfl (gs_cons (g_name (vs := [3, 4]) (pg_name (i := 3) sc__law_worth.nd rfl (Or.inl rfl))) (gs_cons (g_name (vs := [3, 4]) (pg_name (i := 4) sc__law_worth.nd rfl (Or.inl rfl))) (gs_nil (vs := [3, 4])) (pgs_cons (g_name (vs := [3, 4]) (pg_name (i := 4) sc__law_worth.nd rfl (Or.inl rfl))) (gs_nil (vs := [3, 4])))) (pgs_cons (g_name (vs := [3, 4]) (pg_name (i := 3) sc__law_worth.nd rfl (Or.inl rfl))) (gs_cons (g_name (vs := [3, 4]) (pg_name (i := 4) sc__law_worth.nd rfl (Or.inl rfl))) (gs_nil (vs := [3, 4])) (pgs_cons (g_name (vs := [3, 4]) (pg_name (i := 4) sc__law_worth.nd rfl (Or.inl rfl))) (gs_nil (vs := [3, 4]))))))))
    (ss_cons (s_for (vs := [5, 6]) (ps_for PassesOwn.never rfl (i_zip3 (pi_zip3 rfl T.z_zip (a_cons (d_var 3 (pv 3)) (a_cons (d_var 1 (pv 1)) a_nil)))) (g_tup (bl_cons tame_n (bl_cons tame_n bl_nil)) (pg_tup (n := 2) rfl (gs_cons (g_name (vs := [5, 6]) (pg_name (i := 5) sc__law_worth.nd rfl (Or.inl rfl))) (gs_cons (g_name (vs := [5, 6]) (pg_name (i := 6) sc__law_worth.nd rfl (Or.inl rfl))) (gs_nil (vs := [5, 6])) (pgs_cons (g_name (vs := [5, 6]) (pg_name (i := 6) sc__law_worth.nd rfl (Or.inl rfl))) (gs_nil (vs := [5, 6])))) (pgs_cons (g_name (vs := [5, 6]) (pg_name (i := 5) sc__law_worth.nd rfl (Or.inl rfl))) (gs_cons (g_name (vs := [5, 6]) (pg_name (i := 6) sc__law_worth.nd rfl (Or.inl rfl))) (gs_nil (vs := [5, 6])) (pgs_cons (g_name (vs := [5, 6]) (pg_name (i := 6) sc__law_worth.nd rfl (Or.inl rfl))) (gs_nil (vs := [5, 6]))))))))
    (ss_one (s_for (vs := [7]) (ps_for PassesOwn.never rfl (i_rng1 (pi_range1 rfl T.z_range (a_cons (d_var 5 (pv 5)) a_nil))) (g_name (vs := [7]) (pg_name (i := 7) sc__law_worth.nd rfl (Or.inl rfl)))
    (ss_one (s_set (i := 4) (ps_set (i := 4) sc__law_worth.nd rfl (Or.inl rfl) (d_mul (d_var 4 (pv 4)) (d_var 6 (pv 6)))))))))))
    (ss_one (s_set (i := 2) (ps_set (i := 2) sc__law_worth.nd rfl (Or.inl rfl) (d_add rfl (d_var 2 (pv 2)) (d_var 4 (pv 4)))))))))
    (ss_one (s_ret (d_var 2 (pv 2))))))) ?_
  rintro _ R xc - ⟨L, ns, rfl, hL, hn4, hns, hR⟩
  show forD _ _ _ (L.map tmD) _
  refine for_invL (fun ds γ => ∃ (M : Sm) (acc : Int) (o3 o4 o5 o6 o7 : Sl), ds = M.map tmD ∧ γ = ⟨[.fz (smD L), .fz (.tup (ns.map D.int)), .fz (.int acc), o3, o4, o5, o6, o7], 0⟩ ∧ acc + worth M ns = worth L ns ∧ ∀ t ∈ M, t ∈ L) ?_ ?_ _ _
    ⟨L, 0, _, _, _, _, _, rfl, rfl, by omega, fun _ h => h⟩
  · rintro γ ⟨M, acc, o3, o4, o5, o6, o7, e, rfl, hw, hM⟩
    cases M with
    | nil =>
      have hw : acc + 0 = worth L ns := hw
      show R (.int acc)
      rw [show acc = worth L ns by omega]
      exact hR
    | cons t M => cases e
  · rintro d ds γ ⟨M, acc, o3, o4, o5, o6, o7, e, rfl, hw, hM⟩ next
    cases M with
    | nil => cases e
    | cons t M =>
      rw [List.map_cons] at e
      injection e with e1 e2
      subst e1 e2
      rw [worth_cons] at hw
      have ht := hM t List.mem_cons_self
      show forD _ _ _ (EL.zipD (t.1.map fun n : Nat => D.int (n : Nat)) (ns.map D.int)) _
      rw [zipD_pows']
      have hmem : ∀ p ∈ (t.1.zip ns).map (fun p => (p.2, p.1)), p.1.natAbs ≤ 4 ∧ p.2 ≤ 60 := fun p hp => by
        obtain ⟨q, hq, rfl⟩ := List.mem_map.mp hp
        exact ⟨hns _ (List.of_mem_zip hq).2, hL.pow t ht _ (List.of_mem_zip hq).1⟩
      have hlen : ((t.1.zip ns).map (fun p => (p.2, p.1))).length ≤ 4 := by rw [List.length_map, List.length_zip]; omega
      refine for_invL (fun ds γ => ∃ (Z : List (Int × Nat)) (cur : Int) (j : Nat) (o5 o6 o7 : Sl), ds = Z.map (fun p : Int × Nat => D.tup [.int (p.2 : Nat), .int p.1]) ∧ γ = ⟨[.fz (smD L), .fz (.tup (ns.map D.int)), .fz (.int acc), .fz (kX t.1), .fz (.int cur), o5, o6, o7], 0⟩ ∧
          cur * pz Z = t.2 * pw t.1 ns ∧ cur.natAbs < 2 ^ (200 + 150 * j) ∧ j + Z.length ≤ 4 ∧ ∀ p ∈ Z, p.1.natAbs ≤ 4 ∧ p.2 ≤ 60) ?_ ?_ _ _
        ⟨_, t.2, 0, _, _, _, rfl, rfl, by rw [pz_zip'], hL.bits t ht, by omega, hmem⟩
      · rintro γ ⟨Z, cur, j, o5, o6, o7, e, rfl, hc, hb, hj, hZ⟩
        cases Z with
        | nil =>
          have hc : cur * 1 = t.2 * pw t.1 ns := hc
          refine next _ ⟨M, acc + cur, _, _, _, _, _, rfl, rfl, ?_, fun x hx => hM x (List.mem_cons_of_mem _ hx)⟩
          rw [Int.mul_one] at hc
          rw [hc]
          omega
        | cons p Z => cases e
      · rintro d ds γ ⟨Z, cur, j, o5, o6, o7, e, rfl, hc, hb, hj, hZ⟩ next2
        cases Z with
        | nil => cases e
        | cons p Z =>
          rw [List.map_cons] at e
          injection e with e1 e2
          subst e1 e2
          obtain ⟨h1, h2⟩ := hZ p List.mem_cons_self
          have hp := pow_small h1 (j := p.2) (by omega)
          rw [List.length_cons] at hj
          refine ⟨⟨by omega, by omega⟩, ?_⟩
          show forD _ _ _ (EL.rngD 0 ((p.2 : Nat) : Int).toNat) _
          rw [Int.toNat_natCast]
          refine for_rng (fun i γ => ∃ (x : Int) (o7 : Sl), γ = ⟨[.fz (smD L), .fz (.tup (ns.map D.int)), .fz (.int acc), .fz (kX t.1), .fz (.int x), .fz (.int (p.2 : Nat)), .fz (.int p.1), o7], 0⟩ ∧ x = cur * p.1 ^ i) ?_ ?_ _
            ⟨cur, _, rfl, by rw [Int.pow_zero, Int.mul_one]⟩
          · rintro γ ⟨x, o7, rfl, hx⟩
            refine next2 _ ⟨Z, x, j + 1, _, _, _, rfl, rfl, ?_, ?_, by omega, fun x hx => hZ x (List.mem_cons_of_mem _ hx)⟩
            · rw [hx, ← hc, Int.mul_assoc]
              rfl
            · have := natAbs_mul_lt hb hp
              rw [hx, show 200 + 150 * (j + 1) = 200 + 150 * j + 150 by omega]
              exact this
          · rintro i ds γ hi ⟨x, o7, rfl, hx⟩ next3
            have hb2 : x.natAbs < 2 ^ (200 + 150 * j + 150) := by
              rw [hx]
              exact natAbs_mul_lt hb (pow_small h1 (by omega))
            have hb3 : p.1.natAbs < 2 ^ 150 := by
              have := pow_small h1 (j := 1) (by decide)
              rw [Int.pow_succ, Int.pow_zero, Int.one_mul] at this
              exact this
            refine ⟨mul_bits hb2 hb3 (by omega), next3 _ ⟨x * p.1, _, rfl, ?_⟩⟩
            rw [hx, Int.pow_succ, Int.mul_assoc]
end
end K28
namespace K28
open PySem PySem.Spec PyProof.Rows L2 EL PH
section
variable {P : Program} {w : World} {K : PySem.W.Frag} {mg : Str → Option Value} {base : Heap}
abbrev GT__law_is_sum (P : Program) (w : World) (base : Heap) (T : Tops K w mg) : Prop := FnOk P w K mg base CX0 2 T.f__law_is_sum T.d__law_is_sum ["_law_many", "_law_thing"] (spD K clT Deck 0 2 FIsSum)
theorem ok__law_is_sum (T : Tops K w mg) (G__law_whole : GT__law_whole P w base T) : GT__law_is_sum P w base T := by
  refine Fun.ok T.N__law_is_sum.F sc__law_is_sum (spD_len rfl) fun cdv A outer s H vs Q E hr h => bodyD (K := K) h (fun dk G xc DkAt hx hB => (ss_cons (s_if (b_not (b_val (d_cb (ok_isi rfl kt_tuple) (pe_callB (call_isiB (T := "tuple")) (by rfl) T.z_isinstance (by decide +kernel) (a_cons (d_var 1 (pv 1)) (a_cons (d_opq (pe_bltn (by rfl) T.z_tuple (by decide +kernel) (show RelV (.ty "tuple") (.type "tuple") from rfl))) a_nil)))))) (ss_one (s_ret d_bl)) ss_nil)
    (ss_cons (s_for (vs := [2]) (ps_for PassesOwn.never rfl (i_seq rfl (d_var 1 (pv 1))) (g_name (vs := [2]) (pg_name (i := 2) sc__law_is_sum.nd rfl (Or.inl rfl)))
    (ss_cons (s_if (PW.pt (bw_or (b_not (b_val (d_cb (ok_isi rfl kt_tuple) (pe_callB (call_isiB (T := "tuple")) (by rfl) T.z_isinstance (by decide +kernel) (a_cons (d_var 2 (pv 2)) (a_cons (d_opq (pe_bltn (by rfl) T.z_tuple (by decide +kernel) (show RelV (.ty "tuple") (.type "tuple") from rfl))) a_nil)))))) (bw_or (b_cmp (op_nePP hr.units) (ok_neP rfl) (d_cb (ok_len rfl) (pe_callB call_lenD (by rfl) T.z_len (by decide +kernel) (a_cons (d_var 2 (pv 2)) a_nil))) d_int (nomark _)) (bw_or (b_not (b_val (d_cb (ok_isi rfl kt_tuple) (pe_callB (call_isiB (T := "tuple")) (by rfl) T.z_isinstance (by decide +kernel) (a_cons (d_item rfl (d_var 2 (pv 2)) d_int (fun _ _ => rfl)) (a_cons (d_opq (pe_bltn (by rfl) T.z_tuple (by decide +kernel) (show RelV (.ty "tuple") (.type "tuple") from rfl))) a_nil)))))) (bw_or1 (b_cmp (op_nePP hr.units) (ok_neP rfl) (d_cb (ok_len rfl) (pe_callB call_lenD (by rfl) T.z_len (by decide +kernel) (a_cons (d_item rfl (d_var 2 (pv 2)) d_int (fun _ _ => rfl)) a_nil))) (d_var 0 (pv 0)) (nomark _))))))) (ss_one (s_ret d_bl)) ss_nil)
    (ss_cons (s_if (b_cmp (op_neL0 hr) (ok_neL0 rfl) (d_f (f_lc (pe_lc (own := [("_law_power", 4)]) rfl sc__law_is_sum.nd (i_seq rfl (d_item rfl (d_var 2 (pv 2)) d_int (fun _ _ => rfl))) (blkOk_by (own := [("_law_power", 4)]) (N := N_sc__law_is_sum) (sc := defScope s__law_is_sum) (by decide +kernel)) (fun _ _ _ _ _ => gx (vs := [4]) fun _ => (g_name (vs := [4]) (pg_name (i := 4) sc__law_is_sum.nd rfl (Or.inl rfl)))) (fun _ _ _ _ _ => bx_one fun h0 => (PW.pt (bw_or (b_not (b_val (d_call (hB.withH h0) (pe_call G__law_whole (hr.mono (by decide)) rfl T.N__law_whole.m T.N__law_whole.F.kp T.N__law_whole.b .nil pass0 (a_cons (d_var 4 (pv 4)) a_nil))))) (bw_or1 (b_cmp op_ltP ok_ltP (d_var 4 (pv 4)) d_int (nomark _)))))) (fun _ _ _ _ _ => dx fun h0 => (d_var 4 (pv 4)))))) (d_f (f_lst a_nil)) (nomark _)) (ss_one (s_ret d_bl)) ss_nil)
    (ss_one (s_if (PW.pt (bw_or (b_not (b_val (d_call hB (pe_call G__law_whole (hr.mono (by decide)) rfl T.N__law_whole.m T.N__law_whole.F.kp T.N__law_whole.b .nil pass0 (a_cons (d_item rfl (d_var 2 (pv 2)) d_int (fun _ _ => rfl)) a_nil))))) (bw_or1 (b_cmp (op_eqPP hr.units) (ok_eqP rfl) (d_item rfl (d_var 2 (pv 2)) d_int (fun _ _ => rfl)) d_int (nomark _))))) (ss_one (s_ret d_bl)) ss_nil))))))
    (ss_one (s_ret (d_cmp (op_eqPP hr.units) (ok_eqP rfl) (d_f (f_lc (pe_lc (own := [("_law_one", 2), ("_law_other", 3)]) rfl sc__law_is_sum.nd (i_zip3 (pi_zip3 rfl T.z_zip (a_cons (d_var 1 (pv 1)) (a_cons (d_sl rfl (pe_slice sl_D (d_var 1 (pv 1)) (o_some d_int) o_none)) a_nil)))) (blkOk_by (own := [("_law_one", 2), ("_law_other", 3)]) (N := N_sc__law_is_sum) (sc := defScope s__law_is_sum) (by decide +kernel)) (fun _ _ _ _ _ => gx (vs := [2, 3]) fun _ => (g_tup (bl_cons tame_n (bl_cons tame_n bl_nil)) (pg_tup (n := 2) rfl (gs_cons (g_name (vs := [2, 3]) (pg_name (i := 2) sc__law_is_sum.nd rfl (Or.inl rfl))) (gs_cons (g_name (vs := [2, 3]) (pg_name (i := 3) sc__law_is_sum.nd rfl (Or.inl rfl))) (gs_nil (vs := [2, 3])) (pgs_cons (g_name (vs := [2, 3]) (pg_name (i := 3) sc__law_is_sum.nd rfl (Or.inl rfl))) (gs_nil (vs := [2, 3])))) (pgs_cons (g_name (vs := [2, 3]) (pg_name (i := 2) sc__law_is_sum.nd rfl (Or.inl rfl))) (gs_cons (g_name (vs := [2, 3]) (pg_name (i := 3) sc__law_is_sum.nd rfl (Or.inl rfl))) (gs_nil (vs := [2, 3])) (pgs_cons (g_name (vs := [2, 3]) (pg_name (i := 3) sc__law_is_sum.nd rfl (Or.inl rfl))) (gs_nil (vs := [2, 3]))))))))) (fun _ _ _ _ _ => bx_one fun h0 => (b_not (b_cmp (op_ltT hr.units0) (ok_ltT rfl) (d_item rfl (d_var 2 (pv 2)) d_int (fun _ _ => rfl)) (d_item rfl (d_var 3 (pv 3)) d_int (fun _ _ => rfl)) (nomark _)))) (fun _ _ _ _ _ => dx fun h0 => d_int)))) (d_f (f_lst a_nil)) (nomark _))))))) ?_
  rintro _ R xc - ⟨n, d, rfl, hd, hR⟩
  have dead : ∀ {P : Prop}, R (.bl false) → (True → R (.bl false)) ∧ (¬True → P) := fun h => ⟨fun _ => h, fun z => absurd trivial z⟩
  cases d with
  | obj _ _ => cases hd.1
  | dk => cases hd.1
  | opq _ => cases hd.1
  | dcT _ => cases hd.1
  | tup xs =>
    obtain ⟨hl, hm⟩ := okd_mem hd
    have hR : R (.bl (xs.all (termB n) && risesB xs)) := hR
    refine ⟨_, rfl, fun hp => (hp rfl).elim, fun _ => ?_⟩
    show forD _ _ _ xs _
    refine for_invL (fun ds γ => ∃ (o2 o3 o4 : Sl), γ = ⟨[.fz (.int (n : Nat)), .fz (.tup xs), o2, o3, o4], 0⟩ ∧ xs.all (termB n) = ds.all (termB n) ∧ ∀ x ∈ ds, x ∈ xs) ?_ ?_ _ _ ⟨_, _, _, rfl, rfl, fun _ h => h⟩
    · rintro γ ⟨o2, o3, o4, rfl, hall, -⟩
      have hall : xs.all (termB n) = true := hall
      rw [hall, Bool.true_and] at hR
      have c1 : EL.cutD xs (some 1) none = xs.drop 1 := cutD_from 1
      show (EL.zipD xs (EL.cutD xs (some 1) none)).length ≤ 1000000 ∧ lcD _ _ _ _ (EL.zipD xs (EL.cutD xs (some 1) none)) [] _ _
      rw [c1]
      unfold EL.zipD
      refine ⟨by rw [List.length_map, List.length_zip]; omega, ?_⟩
      refine lc_filt (fun p : D × D => .tup [p.1, p.2]) (fun _ => .int 1) (fun p => !decide (keyB p.1 < keyB p.2)) (xs.zip (xs.drop 1)) ?_ (xs.zip (xs.drop 1)) [] _ (fun _ h => h) ?_
      · intro p hp Z Z' k1 k2
        have h1 := List.all_eq_true.mp hall p.1 (List.of_mem_zip hp).1
        have h2 := List.all_eq_true.mp hall p.2 (List.mem_of_mem_drop (List.of_mem_zip hp).2)
        obtain ⟨a, ra, e1, e2⟩ := term_key h1
        obtain ⟨b, rb, e3, e4⟩ := term_key h2
        obtain ⟨p1, p2⟩ := p
        dsimp only at e1 e2 e3 e4
        subst e1 e3
        dsimp only at k1 k2
        rw [e2, e4] at k1 k2
        exact ⟨_, at_0, _, at_0, a, b, rfl, rfl, fun h => k1 (by rw [decide_eq_false h]; rfl) _ rfl, fun h => k2 (by rw [decide_eq_true (Classical.not_not.mp h)]; rfl) _ rfl⟩
      rw [List.nil_append]
      rw [← rises_zip xs] at hR
      have ez : ∀ Z : List (D × D), (decide ((Z.filter fun p => !decide (keyB p.1 < keyB p.2)) = [])) = (Z.map fun p => decide (keyB p.1 < keyB p.2)).all id := fun Z => by
        induction Z with
        | nil => rfl
        | cons p Z ih =>
          by_cases q : keyB p.1 < keyB p.2
          · rw [List.filter_cons_of_neg (by simp [q]), ih, List.map_cons, List.all_cons, decide_eq_true q]
            rfl
          · rw [List.filter_cons_of_pos (by simp [q]), List.map_cons, List.all_cons, decide_eq_false q]
            rfl
      rw [← ez] at hR
      generalize (xs.zip (xs.drop 1)).filter (fun p => !decide (keyB p.1 < keyB p.2)) = Z at hR ⊢
      refine ⟨by show 0 ≤ 1000000; decide, ⟨okD_ones Z, okD_ones ([] : List Unit)⟩, fun b hb => ?_⟩
      have e : b = decide (Z = []) := by
        rw [Bool.eq_iff_iff, hb, decide_eq_true_iff]
        cases Z with
        | nil => exact ⟨fun _ => rfl, fun _ => rfl⟩
        | cons _ _ => exact ⟨fun h => (by cases h), fun h => (by cases h)⟩
      rw [e]
      exact hR
    · rintro d ds γ ⟨o2, o3, o4, rfl, hall, hsub⟩ next
      rw [List.all_cons] at hall
      have hd := hm d (hsub d List.mem_cons_self)
      have bad : termB n d = false → R (.bl false) := fun e => by
        rw [hall, e, Bool.false_and, Bool.false_and] at hR
        exact hR
      cases d with
      | obj _ _ => cases hd.1
      | dk => cases hd.1
      | opq _ => cases hd.1
      | dcT _ => cases hd.1
      | tup ys =>
        obtain ⟨hl, hm⟩ := okd_mem hd
        refine ⟨_, rfl, fun hp => (hp rfl).elim, fun _ => ⟨fun hp => dead ?_, fun hp => ?_⟩⟩
        · rcases ys with _ | ⟨a, _ | ⟨b, _ | ⟨c, ys⟩⟩⟩
          · exact bad rfl
          · exact bad rfl
          · exact (hp rfl).elim
          · exact bad rfl
        · have h2 : ys.length = 2 := by
            have := Classical.not_not.mp hp
            omega
          obtain ⟨a, b, rfl⟩ : ∃ a b, ys = [a, b] := by
            rcases ys with _ | ⟨a, _ | ⟨b, _ | ⟨c, ys⟩⟩⟩
            · cases h2
            · cases h2
            · exact ⟨a, b, rfl⟩
            · cases h2
          have ha := hm a (by simp)
          have hb := hm b (by simp)
          have hall : xs.all (termB n) = ((powB n a && nzB b) && ds.all (termB n)) := hall
          have bad : (powB n a && nzB b) = false → R (.bl false) := bad
          cases a with
          | obj _ _ => cases ha.1
          | dk => cases ha.1
          | opq _ => cases ha.1
          | dcT _ => cases ha.1
          | tup ps =>
            obtain ⟨hl2, hm2⟩ := okd_mem ha
            refine ⟨_, at_0, _, rfl, fun hp => (hp rfl).elim, fun _ => ⟨_, at_0, fun hp => ?_, fun hp => ?_⟩⟩
            · refine bad ?_
              show ((decide (ps.length = n) && ps.all natB) && nzB b) = false
              rw [decide_eq_false (fun z => hp (by rw [z])), Bool.false_and, Bool.false_and]
            · have hlen : ps.length = n := by
                have := Classical.not_not.mp hp
                omega
              have e : powB n (.tup ps) = ps.all natB := by
                show (decide (ps.length = n) && ps.all natB) = _
                rw [decide_eq_true hlen, Bool.true_and]
              rw [e] at bad hall
              refine ⟨_, at_0, (by omega : ps.length ≤ 1000000), ?_⟩
              show lcD _ _ _ _ ps [] _ _
              suffices hh : lcD _ _ _ _ (ps.map id) [] _ _ by rw [List.map_id] at hh; exact hh
              refine lc_filt id id (fun x => !natB x) ps ?_ ps [] _ (fun _ h => h) ?_
              · intro x hx Z Z' k1 k2
                refine ⟨rfl, x, rfl, (hm2 x hx).1, ?_⟩
                cases x with
                | int i =>
                  refine ⟨fun h => (h rfl).elim, fun _ => ⟨fun h => ?_, fun h => ?_⟩⟩
                  · have h : i < 0 := h
                    exact k1 (by show (!decide (0 ≤ i)) = true; rw [decide_eq_false (by omega)]; rfl) _ rfl
                  · have h : ¬ i < 0 := h
                    exact k2 (by show (!decide (0 ≤ i)) = false; rw [decide_eq_true (by omega)]; rfl) _ rfl
                | _ => exact ⟨fun _ => ⟨fun _ => k1 rfl _ rfl, fun z => absurd trivial z⟩, fun h => (h fun z => by cases z).elim⟩
              rw [List.nil_append, List.map_id]
              refine ⟨by show 0 ≤ 1000000; decide, fun hp => ?_, fun hp => ?_⟩
              · refine bad ?_
                have : ps.all natB = false := by
                  rw [← Bool.not_eq_true]
                  intro z
                  refine hp (List.filter_eq_nil_iff.mpr fun x hx => ?_)
                  rw [List.all_eq_true.mp z x hx]
                  decide
                rw [this, Bool.false_and]
              · have h3 : ps.all natB = true := by
                  refine List.all_eq_true.mpr fun x hx => ?_
                  have := List.filter_eq_nil_iff.mp (Classical.not_not.mp hp) x hx
                  simpa using this
                rw [h3, Bool.true_and] at bad hall
                refine ⟨b, at_1, rfl, b, rfl, hb.1, fun hp => dead (bad ?_), fun hp => ?_⟩
                · cases b with
                  | int m => exact (hp rfl).elim
                  | _ => rfl
                cases b with
                | int m =>
                  refine ⟨_, at_1, fun hz => bad ?_, fun hz => ?_⟩
                  · have hz : m = 0 := hz
                    subst hz
                    rfl
                  · have hz : ¬ m = 0 := hz
                    refine next _ ⟨_, _, _, rfl, ?_, fun x hx => hsub x (List.mem_cons_of_mem _ hx)⟩
                    rw [hall, show nzB (.int m) = true from decide_eq_true hz, Bool.true_and]
                | _ => exact (hp (fun z => by cases z)).elim
          | _ => exact ⟨_, at_0, _, rfl, fun _ => dead (bad rfl), fun z => (z (by decide)).elim⟩
      | _ => exact ⟨_, rfl, fun _ => dead (bad rfl), fun z => (z (by decide)).elim⟩
  | _ => exact ⟨_, rfl, fun _ => hR, fun z => (z (by decide)).elim⟩
end
end K28
namespace K28
open PySem PySem.Spec PyProof.Rows L2 EL PH
/-! ### sums in order -/
theorem tri : ∀ a b : List Nat, a < b ∨ a = b ∨ b < a
  | [], [] => .inr (.inl rfl)
  | [], _ :: _ => .inl (List.nil_lt_cons _ _)
  | _ :: _, [] => .inr (.inr (List.nil_lt_cons _ _))
  | x :: a, y :: b => by
    rcases Nat.lt_trichotomy x y with h | h | h
    · exact .inl (List.cons_lt_cons_iff.mpr (.inl h))
    · subst h
      rcases tri a b with h | h | h
      · exact .inl (List.cons_lt_cons_iff.mpr (.inr ⟨rfl, h⟩))
      · exact .inr (.inl (by rw [h]))
      · exact .inr (.inr (List.cons_lt_cons_iff.mpr (.inr ⟨rfl, h⟩)))
    · exact .inr (.inr (List.cons_lt_cons_iff.mpr (.inl h)))
theorem lt_asym {a b : List Nat} (h : a < b) (k : b < a) : False := List.lt_irrefl a (List.lt_trans h k)
theorem lt_of_not {a b : List Nat} (h : ¬ b < a) (n : a ≠ b) : a < b := by
  rcases tri a b with k | k | k
  · exact k
  · exact absurd k n
  · exact absurd k h
abbrev RiseT (L : Sm) : Prop := L.Pairwise fun a b => a.1 < b.1
theorem rise_uniq : ∀ {l m : Sm}, l.Perm m → RiseT l → RiseT m → l = m
  | [], m, p, _, _ => (List.Perm.eq_nil p.symm).symm
  | x :: l, [], p, _, _ => absurd p.length_eq (by simp)
  | x :: l, y :: m, p, h1, h2 => by
    obtain ⟨a1, a2⟩ := List.pairwise_cons.mp h1
    obtain ⟨b1, b2⟩ := List.pairwise_cons.mp h2
    have e : x = y := by
      rcases List.mem_cons.mp (p.mem_iff.mp (List.mem_cons_self (a := x) (l := l))) with e | hx
      · exact e
      · rcases List.mem_cons.mp (p.mem_iff.mpr (List.mem_cons_self (a := y) (l := m))) with e | hy
        · exact e.symm
        · exact (lt_asym (a1 y hy) (b1 x hx)).elim
    subst e
    rw [rise_uniq p.cons_inv a2 b2]
theorem rise_of {L : Sm} (h : L.Pairwise fun a b => ¬ b.1 < a.1) (nd : (L.map (·.1)).Nodup) : RiseT L := by
  have nd : L.Pairwise fun a b => a.1 ≠ b.1 := List.pairwise_map.mp nd
  exact (h.and nd).imp fun {a b} h => lt_of_not h.1 h.2
theorem rise_keys {L : Sm} (h : RiseT L) : (L.map (·.1)).Nodup := by
  rw [List.Nodup, List.pairwise_map]
  exact h.imp fun {a b} (h : a.1 < b.1) e => List.lt_irrefl b.1 (by rw [e] at h; exact h)
theorem sort_sm (L : Sm) : (L.mergeSort fun a b => decide (¬ b.1 < a.1)).Pairwise fun a b => ¬ b.1 < a.1 := by
  have := List.pairwise_mergeSort (le := fun a b : List Nat × Int => decide (¬ b.1 < a.1)) (fun a b c h1 h2 => by
    have h1 := of_decide_eq_true h1
    have h2 := of_decide_eq_true h2
    refine decide_eq_true fun h3 => ?_
    rcases tri a.1 b.1 with k | k | k
    · exact h2 (List.lt_trans h3 k)
    · rw [k] at h3; exact h2 h3
    · exact h1 k) (fun a b => by
    rcases tri a.1 b.1 with k | k | k
    · rw [decide_eq_true (p := ¬ b.1 < a.1) (fun z => lt_asym k z)]; rfl
    · rw [k, decide_eq_true (p := ¬ b.1 < b.1) (List.lt_irrefl b.1)]; rfl
    · rw [decide_eq_true (p := ¬ a.1 < b.1) (fun z => lt_asym k z)]; exact Bool.or_true _) L
  exact this.imp fun {a b} h => of_decide_eq_true h
abbrev nz (t : List Nat × Int) : Bool := decide (t.2 ≠ 0)
theorem nf_uniq {L M : Sm} (p : M.Perm L) (h : M.Pairwise fun a b => ¬ b.1 < a.1) (nd : (L.map (·.1)).Nodup) : M.filter nz = nf L := by
  have e : M = L.mergeSort fun a b => decide (¬ b.1 < a.1) := rise_uniq (p.trans (List.mergeSort_perm _ _).symm) (rise_of h ((p.map (fun t : List Nat × Int => t.1)).nodup_iff.mpr nd)) (rise_of (sort_sm L) (((List.mergeSort_perm L _).map (fun t : List Nat × Int => t.1)).nodup_iff.mpr nd))
  unfold nf
  rw [← e]
theorem nf_perm (L : Sm) : (nf L).Perm (L.filter nz) := (List.mergeSort_perm L _).filter _
theorem nf_mem {L : Sm} {t : List Nat × Int} : t ∈ nf L ↔ t ∈ L ∧ t.2 ≠ 0 := by
  rw [(nf_perm L).mem_iff, List.mem_filter]
  simp [nz]
theorem nf_rise {L : Sm} (nd : (L.map (·.1)).Nodup) : RiseT (nf L) := by
  have := rise_of (sort_sm L) (((List.mergeSort_perm L _).map (fun t : List Nat × Int => t.1)).nodup_iff.mpr nd)
  exact List.Pairwise.filter _ this
theorem nf_worth (L : Sm) (ns : List Int) : worth (nf L) ns = worth L ns := by
  rw [worth_perm (nf_perm L) ns, worth_filt]
theorem nf_ok {n : Nat} {L : Sm} (nd : (L.map (·.1)).Nodup) (hl : ∀ t ∈ L, t.1.length = n) : SmOk n (nf L) :=
  ⟨fun t ht => hl t (nf_mem.mp ht).1, List.pairwise_map.mpr (nf_rise nd), fun t ht => (nf_mem.mp ht).2⟩
theorem nf_id {n : Nat} {L : Sm} (h : SmOk n L) : nf L = L := by
  have r : RiseT L := List.pairwise_map.mp h.rise
  rw [← nf_uniq (List.Perm.refl L) (r.imp fun {a b} k z => lt_asym k z) (rise_keys r)]
  exact List.filter_eq_self.mpr fun t ht => decide_eq_true (h.nz t ht)
/-! ### put together -/
theorem addAll_nodup : ∀ (E D : Sm), (D.map (·.1)).Nodup → ((addAll D E).map (·.1)).Nodup
  | [], D, h => h
  | t :: E, D, h => addAll_nodup E (addK t.1 t.2 D) (addK_nodup h)
theorem addK_mem {k : List Nat} {v : Int} : ∀ {L : Sm} {p : List Nat × Int}, p ∈ addK k v L → p.1 = k ∨ p ∈ L
  | [], p, h => by
    cases List.mem_singleton.mp h
    exact .inl rfl
  | (j, u) :: r, p, h => by
    unfold addK at h
    by_cases e : j = k
    · rw [if_pos e] at h
      rcases List.mem_cons.mp h with h | h
      · exact .inl (by rw [h]; exact e)
      · exact .inr (List.mem_cons_of_mem _ h)
    · rw [if_neg e] at h
      rcases List.mem_cons.mp h with h | h
      · exact .inr (by rw [h]; exact List.mem_cons_self)
      · rcases addK_mem h with h | h
        · exact .inl h
        · exact .inr (List.mem_cons_of_mem _ h)
theorem addK_len (k : List Nat) (v : Int) : ∀ L : Sm, (addK k v L).length ≤ L.length + 1
  | [] => Nat.le_refl _
  | (j, u) :: r => by
    unfold addK
    by_cases e : j = k
    · rw [if_pos e, List.length_cons, List.length_cons]; omega
    · rw [if_neg e, List.length_cons, List.length_cons]
      have := addK_len k v r
      omega
theorem addAll_len : ∀ (E D : Sm), (addAll D E).length ≤ D.length + E.length
  | [], D => Nat.le_refl _
  | t :: E, D => by
    have h1 := addAll_len E (addK t.1 t.2 D)
    have h2 := addK_len t.1 t.2 D
    show (addAll (addK t.1 t.2 D) E).length ≤ _
    rw [List.length_cons]
    omega
theorem addAll_keys {Pk : List Nat → Prop} : ∀ (E D : Sm), (∀ t ∈ D, Pk t.1) → (∀ t ∈ E, Pk t.1) → ∀ t ∈ addAll D E, Pk t.1
  | [], D, h, _ => h
  | t :: E, D, h, k => addAll_keys E (addK t.1 t.2 D) (fun p hp => by
      rcases addK_mem hp with e | hp
      · rw [e]; exact k t List.mem_cons_self
      · exact h p hp) fun x hx => k x (List.mem_cons_of_mem _ hx)
/-- a dict's get and set is that -/
theorem setA_add {k : List Nat} {v : Int} : ∀ {L : Sm}, (L.map (·.1)).Nodup → setA k ((getA k L).getD 0 + v) L = addK k v L
  | [], _ => by
    unfold setA
    rw [if_neg (by simp)]
    show [(k, 0 + v)] = [(k, v)]
    rw [Int.zero_add]
  | (j, u) :: r, nd => by
    have nd := List.nodup_cons.mp (show (j :: r.map (·.1)).Nodup from nd)
    unfold addK
    by_cases e : j = k
    · subst e
      have h1 : getA j ((j, u) :: r) = some u := by unfold getA; rw [if_pos rfl]
      rw [h1, if_pos rfl]
      unfold setA
      rw [if_pos (by simp), List.map_cons, if_pos rfl]
      congr 1
      refine (List.map_congr_left fun p hp => ?_).trans (List.map_id r)
      have : p.1 ≠ j := fun z => nd.1 (List.mem_map.mpr ⟨p, hp, z⟩)
      rw [if_neg this]
      rfl
    · have h1 : getA k ((j, u) :: r) = getA k r := by show (if j = k then some u else getA k r) = _; rw [if_neg e]
      rw [h1, if_neg e, ← setA_add (v := v) nd.2]
      unfold setA
      have h2 : (((j, u) :: r).any fun p => decide (p.1 = k)) = r.any fun p => decide (p.1 = k) := by
        rw [List.any_cons, decide_eq_false e, Bool.false_or]
      rw [h2]
      by_cases h : (r.any fun p => decide (p.1 = k)) = true
      · rw [if_pos h, if_pos h, List.map_cons, if_neg e]
      · rw [if_neg h, if_neg h]
        rfl
theorem getA_mem {k : List Nat} {L : Sm} {c : Int} (nd : (L.map (·.1)).Nodup) (h : (k, c) ∈ L) : getA k L = some c := by
  induction L with
  | nil => cases h
  | cons p r ih =>
    obtain ⟨j, u⟩ := p
    have nd := List.nodup_cons.mp (show (j :: r.map (·.1)).Nodup from nd)
    unfold getA
    rcases List.mem_cons.mp h with e | h
    · cases e
      rw [if_pos rfl]
    · rw [if_neg fun z => nd.1 (by rw [z]; exact List.mem_map.mpr ⟨(k, c), h, rfl⟩), ih nd.2 h]
/-- a comprehension's dict -/
theorem fold_setA : ∀ (L acc : Sm), (L.map (·.1)).Nodup → (∀ t ∈ L, ∀ p ∈ acc, p.1 ≠ t.1) → L.foldl (fun acc t => setA t.1 t.2 acc) acc = acc ++ L
  | [], acc, _, _ => (List.append_nil acc).symm
  | t :: L, acc, nd, h => by
    have nd := List.nodup_cons.mp (show (t.1 :: L.map (·.1)).Nodup from nd)
    have e : setA t.1 t.2 acc = acc ++ [t] := by
      unfold setA
      rw [if_neg]
      rw [List.any_eq_true]
      rintro ⟨p, hp, e⟩
      exact h t List.mem_cons_self p hp (of_decide_eq_true e)
    rw [List.foldl_cons, e, fold_setA L _ nd.2 fun x hx p hp => ?_, List.append_assoc]
    · rfl
    · rcases List.mem_append.mp hp with hp | hp
      · exact h x (List.mem_cons_of_mem _ hx) p hp
      · cases List.mem_singleton.mp hp
        exact fun e => nd.1 (by rw [e]; exact List.mem_map.mpr ⟨x, hx, rfl⟩)
/-- keys in order are the dict in order -/
theorem by_keys {L : Sm} (nd : (L.map (·.1)).Nodup) {ks : List (List Nat)} (p : ks.Perm (L.map (·.1))) : (ks.map fun k => (k, (getA k L).getD 0)).Perm L := by
  refine (p.map _).trans ?_
  rw [List.map_map]
  have : L.map ((fun k => (k, (getA k L).getD 0)) ∘ (·.1)) = L := by
    refine (List.map_congr_left fun t ht => ?_).trans (List.map_id L)
    show (t.1, (getA t.1 L).getD 0) = t
    rw [getA_mem nd (c := t.2) ht]
    rfl
  rw [this]
/-! ### a dict by packed keys -/
theorem getK_pk {n b : Nat} {k : List Nat} (hk : k.length = n) (hk2 : ∀ p ∈ k, p < 2 ^ b) : ∀ {L : Sm}, (∀ t ∈ L, t.1.length = n) → (∀ t ∈ L, ∀ p ∈ t.1, p < 2 ^ b) → getK (.inl ((pk b k : Nat) : Int)) (pkV b L) = (getA k L).map D.int
  | [], _, _ => rfl
  | (j, u) :: r, h1, h2 => by
    have ih := getK_pk hk hk2 (L := r) (fun t ht => h1 t (List.mem_cons_of_mem _ ht)) (fun t ht => h2 t (List.mem_cons_of_mem _ ht))
    show (if keyEq (.inl ((pk b j : Nat) : Int)) (.inl ((pk b k : Nat) : Int)) = true then some (D.int u) else getK (.inl ((pk b k : Nat) : Int)) (pkV b r)) = _
    by_cases e : j = k
    · subst e
      rw [if_pos (keyEq_iff.mpr rfl)]
      unfold getA
      rw [if_pos rfl]
      rfl
    · rw [if_neg, ih]
      · show _ = (if j = k then some u else getA k r).map D.int
        rw [if_neg e]
      · intro z
        have z := keyEq_iff.mp z
        injection z with z
        have z : pk b j = pk b k := by omega
        exact e (pk_inj ((h1 (j, u) List.mem_cons_self).trans hk.symm) (h2 (j, u) List.mem_cons_self) hk2 z)
theorem setK_far {key : Key} {v : D} : ∀ {L : List (Key × D)}, (∀ t ∈ L, t.1 ≠ key) → setK.setA key v L = L
  | [], _ => rfl
  | p :: r, h => by
    show (if keyEq p.1 key = true then (p.1, v) else p) :: setK.setA key v r = p :: r
    rw [if_neg (fun z => h p List.mem_cons_self (keyEq_iff.mp z)), setK_far fun t ht => h t (List.mem_cons_of_mem _ ht)]
theorem setK_pk {n b : Nat} {k : List Nat} {v : Int} (hk : k.length = n) (hk2 : ∀ p ∈ k, p < 2 ^ b) : ∀ {L : Sm}, (L.map (·.1)).Nodup → (∀ t ∈ L, t.1.length = n) → (∀ t ∈ L, ∀ p ∈ t.1, p < 2 ^ b) →
    setK (.inl ((pk b k : Nat) : Int)) (D.int ((getA k L).getD 0 + v)) (pkV b L) = pkV b (addK k v L)
  | [], _, _, _ => by
    show [(Sum.inl ((pk b k : Nat) : Int), D.int (0 + v))] = [(Sum.inl ((pk b k : Nat) : Int), D.int v)]
    rw [Int.zero_add]
  | (j, u) :: r, nd, h1, h2 => by
    have nd := List.nodup_cons.mp (show (j :: r.map (·.1)).Nodup from nd)
    have ih := setK_pk (v := v) hk hk2 (L := r) nd.2 (fun t ht => h1 t (List.mem_cons_of_mem _ ht)) (fun t ht => h2 t (List.mem_cons_of_mem _ ht))
    have far : ∀ i : List Nat, i.length = n → (∀ p ∈ i, p < 2 ^ b) → i ≠ k → ¬ keyEq (.inl ((pk b i : Nat) : Int)) (.inl ((pk b k : Nat) : Int)) = true := fun i a1 a2 e z => by
      have z := keyEq_iff.mp z
      injection z with z
      have z : pk b i = pk b k := by omega
      exact e (pk_inj (a1.trans hk.symm) a2 hk2 z)
    show (if keyEq (.inl ((pk b j : Nat) : Int)) (.inl ((pk b k : Nat) : Int)) = true then (Sum.inl ((pk b j : Nat) : Int), D.int ((getA k ((j, u) :: r)).getD 0 + v)) :: setK.setA (.inl ((pk b k : Nat) : Int)) (D.int ((getA k ((j, u) :: r)).getD 0 + v)) (pkV b r) else (Sum.inl ((pk b j : Nat) : Int), D.int u) :: setK (.inl ((pk b k : Nat) : Int)) (D.int ((getA k ((j, u) :: r)).getD 0 + v)) (pkV b r)) = pkV b (addK k v ((j, u) :: r))
    by_cases e : j = k
    · subst e
      rw [if_pos (keyEq_iff.mpr rfl), setK_far]
      · have h1 : getA j ((j, u) :: r) = some u := by unfold getA; rw [if_pos rfl]
        rw [h1]
        unfold addK
        rw [if_pos rfl]
        rfl
      · intro t ht z
        obtain ⟨s, hs, rfl⟩ := List.mem_map.mp ht
        have hs2 := List.mem_cons_of_mem (j, u) hs
        refine far s.1 (h1 s hs2) (h2 s hs2) (fun z => nd.1 ?_) (keyEq_iff.mpr z)
        rw [← z]
        exact List.mem_map.mpr ⟨s, hs, rfl⟩
    · have e1 : getA k ((j, u) :: r) = getA k r := by show (if j = k then some u else getA k r) = _; rw [if_neg e]
      rw [if_neg (far j (h1 (j, u) List.mem_cons_self) (h2 (j, u) List.mem_cons_self) e), e1, ih]
      show _ = pkV b (if j = k then (j, u + v) :: r else (j, u) :: addK k v r)
      rw [if_neg e]
      rfl
theorem addAll_app (D E F : Sm) : addAll D (E ++ F) = addAll (addAll D E) F := List.foldl_append
theorem rngC_rev (n : Nat) : rngC ((n : Nat) - 1 : Int) (-1) n = (List.range n).reverse.map fun i : Nat => D.int (i : Nat) := by
  unfold rngC
  refine List.ext_getElem (by simp) fun i h1 h2 => ?_
  simp only [List.length_map, List.length_range] at h1
  simp only [List.getElem_map, List.getElem_range, List.getElem_reverse, List.length_range]
  congr 1
  omega
/-- what is read out of it -/
def valI (kvs : List (Key × D)) (y : Int) : Int := match getK (.inl y) kvs with
  | some (.int v) => v
  | _ => 0
def backI (n b : Nat) (L : Sm) (y : Int) : List Nat × Int := (dg b n y.toNat, valI (pkV b L) y)
theorem back_pk {n b : Nat} {L : Sm} (nd : (L.map (·.1)).Nodup) (h1 : ∀ t ∈ L, t.1.length = n) (h2 : ∀ t ∈ L, ∀ p ∈ t.1, p < 2 ^ b) {t : List Nat × Int} (ht : t ∈ L) : backI n b L ((pk b t.1 : Nat) : Int) = t ∧ getK (.inl ((pk b t.1 : Nat) : Int)) (pkV b L) = some (.int t.2) := by
  have g : getK (.inl ((pk b t.1 : Nat) : Int)) (pkV b L) = some (.int t.2) := by
    rw [getK_pk (h1 t ht) (h2 t ht) h1 h2, getA_mem nd (c := t.2) ht]
    rfl
  refine ⟨?_, g⟩
  unfold backI valI
  rw [g, Int.toNat_natCast]
  have := dg_pk (h2 t ht)
  rw [h1 t ht] at this
  rw [this]
theorem back_sort {n b : Nat} {L : Sm} (nd : (L.map (·.1)).Nodup) (h1 : ∀ t ∈ L, t.1.length = n) (h2 : ∀ t ∈ L, ∀ p ∈ t.1, p < 2 ^ b) {ys : List Int} (p : ys.Perm (L.map fun t => ((pk b t.1 : Nat) : Int))) (hs : ys.Pairwise (fun a b => a ≤ b)) :
    (ys.map (backI n b L)).filter nz = nf L := by
  have mem : ∀ y ∈ ys, ∃ t ∈ L, y = ((pk b t.1 : Nat) : Int) := fun y hy => by
    obtain ⟨t, ht, e⟩ := List.mem_map.mp (p.mem_iff.mp hy)
    exact ⟨t, ht, e.symm⟩
  refine nf_uniq ?_ ?_ nd
  · refine (p.map _).trans ?_
    rw [List.map_map]
    have : L.map (backI n b L ∘ fun t => ((pk b t.1 : Nat) : Int)) = L := (List.map_congr_left fun t ht => (back_pk nd h1 h2 ht).1).trans (List.map_id L)
    rw [this]
  · rw [List.pairwise_map]
    refine hs.imp_of_mem fun {x y} hx hy h z => ?_
    obtain ⟨t, ht, rfl⟩ := mem x hx
    obtain ⟨s, hs, rfl⟩ := mem y hy
    rw [(back_pk nd h1 h2 ht).1, (back_pk nd h1 h2 hs).1] at z
    have := (pk_lt ((h1 s hs).trans (h1 t ht).symm) (h2 s hs) (h2 t ht)).mpr z
    omega
theorem nf_nil : nf [] = [] := by
  unfold nf
  rw [List.mergeSort_nil]
  rfl
theorem zipW_le {g h : Nat} : ∀ {ks js : List Nat}, (∀ x ∈ ks, x ≤ g) → (∀ y ∈ js, y ≤ h) → ∀ p ∈ List.zipWith (· + ·) ks js, p ≤ g + h
  | [], _, _, _, p, hp => by simp at hp
  | _ :: _, [], _, _, p, hp => by simp at hp
  | k :: ks, j :: js, h1, h2, p, hp => by
    rw [List.zipWith_cons_cons] at hp
    rcases List.mem_cons.mp hp with e | hp
    · have a := h1 k List.mem_cons_self
      have b := h2 j List.mem_cons_self
      rw [e]
      omega
    · exact zipW_le (fun x hx => h1 x (List.mem_cons_of_mem _ hx)) (fun x hx => h2 x (List.mem_cons_of_mem _ hx)) p hp
theorem bits_mono {L : Sm} {u p : Nat} (h : SmLe u p 200 L) : ∀ t ∈ L, t.2.natAbs < 2 ^ 1000 := fun t ht => Nat.lt_of_lt_of_le (h.bits t ht) (Nat.pow_le_pow_right (by decide) (by decide))
end K28
namespace K28
open PySem PySem.Spec PyProof.Rows L2 EL PH
section
variable {P : Program} {w : World} {K : PySem.W.Frag} {mg : Str → Option Value} {base : Heap}
abbrev GT_sum_of (P : Program) (w : World) (base : Heap) (T : Tops K w mg) : Prop := FnOk P w K mg base CX0 1 T.f_sum_of T.d_sum_of ["found"] (spD K clT Deck 0 1 FSumOf)
theorem ok_sum_of (T : Tops K w mg)  : GT_sum_of P w base T := by
  refine Fun.ok T.N_sum_of.F sc_sum_of (spD_len rfl) fun cdv A outer s H vs Q E hr h => bodyD (K := K) h (fun dk G xc DkAt hx hB => (ss_one (s_ret (d_cb (ok_tupOf rfl) (pe_callTy call_tuple_of (by rfl) T.z_tuple (by decide +kernel) (a_cons (d_f (f_lc (pe_lc (own := [("powers", 1)]) rfl sc_sum_of.nd (i_seq rfl (d_f (f_sortT (pe_callB (cr_sortT rfl hr.units) (by rfl) T.z_sorted (by decide +kernel) (a_cons (d_var 0 (pv 0)) a_nil))))) (blkOk_by (own := [("powers", 1)]) (N := N_sc_sum_of) (sc := defScope s_sum_of) (by decide +kernel)) (fun _ _ _ _ _ => gx (vs := [1]) fun _ => (g_name (vs := [1]) (pg_name (i := 1) sc_sum_of.nd rfl (Or.inl rfl)))) (fun _ _ _ _ _ => bx_one fun h0 => (b_cmp (op_nePP hr.units) (ok_neP rfl) (d_dgetT (by intro z; cases z) (pe_dget (hu_of hr) (d_var 0 (pv 0)) (d_var 1 (pv 1)) (fun _ _ => rfl))) d_int (nomark _))) (fun _ _ _ _ _ => dx fun h0 => (d_tup (a_cons (d_var 1 (pv 1)) (a_cons (d_dgetT (by intro z; cases z) (pe_dget (hu_of hr) (d_var 0 (pv 0)) (d_var 1 (pv 1)) (fun _ _ => rfl))) a_nil))))))) a_nil)))))) ?_
  rintro _ R xc - ⟨n, L, rfl, nd, hl, hlen, hR⟩
  have h0 : (∀ t ∈ L, t.1 ≠ []) ∨ L.length ≤ 1 := by
    by_cases h : n = 0
    · right
      rcases L with _ | ⟨a, _ | ⟨b, r⟩⟩
      · exact Nat.zero_le _
      · exact Nat.le_refl _
      · exfalso
        have e1 := List.eq_nil_of_length_eq_zero ((hl a (by simp)).trans h)
        have e2 := List.eq_nil_of_length_eq_zero ((hl b (by simp)).trans h)
        rw [List.map_cons, List.map_cons, e1, e2] at nd
        exact (List.nodup_cons.mp nd).1 List.mem_cons_self
    · left
      intro t ht e
      have := hl t ht
      rw [e] at this
      exact h this.symm
  refine ⟨h0, fun ks p hw => ?_⟩
  have hkl : ks.length = L.length := by rw [p.length_eq, List.length_map]
  have hget : ∀ k ∈ ks, getA k L = some ((getA k L).getD 0) := fun k hk => by
    obtain ⟨t, ht, rfl⟩ := List.mem_map.mp (p.mem_iff.mp hk)
    rw [getA_mem nd (c := t.2) ht]
    rfl
  show (ks.map kX).length ≤ 1000000 ∧ lcD _ _ _ _ (ks.map kX) [] _ _
  refine ⟨by rw [List.length_map]; omega, ?_⟩
  refine lc_filt kX (fun k => tmD (k, (getA k L).getD 0)) (fun k => nz (k, (getA k L).getD 0)) ks ?_ ks [] _ (fun _ h => h) ?_
  · intro k hk Z Z' k1 k2
    have hg := hget k hk
    refine ⟨k, _, rfl, hg, fun h => ?_, fun h => ?_⟩
    · exact ⟨k, _, rfl, hg, by show 2 ≤ 1000000; decide, k1 (decide_eq_true h) _ rfl⟩
    · exact k2 (decide_eq_false fun z => h z) _ rfl
  rw [List.nil_append]
  have pm := by_keys nd p
  have e := nf_uniq pm (by
    rw [List.pairwise_map]
    exact hw) nd
  rw [List.filter_map] at e
  have e2 : (ks.filter fun k => nz (k, (getA k L).getD 0)).map (fun k => tmD (k, (getA k L).getD 0)) = (nf L).map tmD := by
    rw [← e, List.map_map]
    rfl
  rw [e2]
  exact hR
end
end K28
namespace K28
open PySem PySem.Spec PyProof.Rows L2 EL PH
section
variable {P : Program} {w : World} {K : PySem.W.Frag} {mg : Str → Option Value} {base : Heap}
abbrev GT_greatest_power (P : Program) (w : World) (base : Heap) (T : Tops K w mg) : Prop := FnOk P w K mg base CX0 1 T.f_greatest_power T.d_greatest_power ["one"] (spD K clT Deck 0 1 FGreat)
theorem ok_greatest_power (T : Tops K w mg)  : GT_greatest_power P w base T := by
  refine Fun.ok T.N_greatest_power.F sc_greatest_power (spD_len rfl) fun cdv A outer s H vs Q E hr h => bodyD (K := K) h (fun dk G xc DkAt hx hB => (ss_one (s_ret (d_cb (ok_max rfl) (pe_callB (cr_max rfl) (by rfl) T.z_max (by decide +kernel) (a_cons (d_f (f_lc (pe_lc (own := [("powers", 1), ("_", 2)]) rfl sc_greatest_power.nd (i_seq rfl (d_var 0 (pv 0))) (blkOk_by (own := [("powers", 1), ("_", 2)]) (N := N_sc_greatest_power) (sc := defScope s_greatest_power) (by decide +kernel)) (fun _ _ _ _ _ => gx (vs := [1, 2]) fun _ => (g_tup (bl_cons tame_n (bl_cons tame_n bl_nil)) (pg_tup (n := 2) rfl (gs_cons (g_name (vs := [1, 2]) (pg_name (i := 1) sc_greatest_power.nd rfl (Or.inl rfl))) (gs_cons (g_name (vs := [1, 2]) (pg_name (i := 2) sc_greatest_power.nd rfl (Or.inl rfl))) (gs_nil (vs := [1, 2])) (pgs_cons (g_name (vs := [1, 2]) (pg_name (i := 2) sc_greatest_power.nd rfl (Or.inl rfl))) (gs_nil (vs := [1, 2])))) (pgs_cons (g_name (vs := [1, 2]) (pg_name (i := 1) sc_greatest_power.nd rfl (Or.inl rfl))) (gs_cons (g_name (vs := [1, 2]) (pg_name (i := 2) sc_greatest_power.nd rfl (Or.inl rfl))) (gs_nil (vs := [1, 2])) (pgs_cons (g_name (vs := [1, 2]) (pg_name (i := 2) sc_greatest_power.nd rfl (Or.inl rfl))) (gs_nil (vs := [1, 2]))))))))) (fun _ _ _ _ _ => bx_yes) (fun _ _ _ _ _ => dx fun h0 => (d_maxT0 rfl (pe_callBK (cr_maxT0 rfl hr.units) (by rfl) T.z_max (by decide +kernel) (a_cons (d_var 1 (pv 1)) a_nil) (k_cons d_int k_nil))))))) a_nil)))))) ?_
  rintro _ R xc - ⟨L, rfl, hne, hL, hR⟩
  show (L.map tmD).length ≤ 1000000 ∧ lcD _ _ _ _ (L.map tmD) [] _ _
  have := hL.many
  refine ⟨by rw [List.length_map]; omega, ?_⟩
  refine lc_inv (fun ds acc γ => ∃ (M : Sm) (a : List Nat), ds = M.map tmD ∧ acc = a.map (fun n : Nat => D.int (n : Nat)) ∧ (∃ o1 o2, γ = ⟨[.fz (smD L), o1, o2], 0⟩) ∧ a.length + M.length = L.length ∧ (∀ t ∈ M, t ∈ L) ∧ (∀ x ∈ a, x ≤ 20) ∧ ∀ t ∈ L, t ∈ M ∨ ∃ x ∈ a, ∀ k ∈ t.1, k ≤ x) ?_ ?_ _ _ _
    ⟨L, [], rfl, rfl, ⟨_, _, rfl⟩, by simp, fun _ h => h, (fun _ h => by cases h), fun t ht => .inl ht⟩
  · rintro acc γ ⟨M, a, e, rfl, ⟨o1, o2, rfl⟩, hlen, hM, ha, hall⟩
    cases M with
    | cons t M => cases e
    | nil =>
      refine ⟨a.map fun n : Nat => (n : Int), by rw [List.map_map]; rfl, ?_, fun m hm hmax => ?_⟩
      · rw [List.length_map]
        have : L.length ≠ 0 := fun z => hne (List.eq_nil_of_length_eq_zero z)
        rw [List.length_nil] at hlen
        omega
      · obtain ⟨k, hk, rfl⟩ := List.mem_map.mp hm
        refine hR k (ha k hk) fun t ht j hj => ?_
        rcases hall t ht with h | ⟨x, hx, h⟩
        · cases h
        · have h1 := h j hj
          have h2 := hmax (x : Int) (List.mem_map.mpr ⟨x, hx, rfl⟩)
          omega
  · rintro d ds acc γ ⟨M, a, e, rfl, ⟨o1, o2, rfl⟩, hlen, hM, ha, hall⟩ next
    cases M with
    | nil => cases e
    | cons t M =>
      rw [List.map_cons] at e
      injection e with e1 e2
      subst e1 e2
      have ht := hM t List.mem_cons_self
      refine ⟨fun _ => ⟨t.1, rfl, rfl, fun m h1 h2 h3 => ?_⟩, fun n => absurd trivial n⟩
      refine next _ _ ⟨M, a ++ [m], rfl, by rw [List.map_append]; rfl, ⟨_, _, rfl⟩, by rw [List.length_append]; rw [List.length_cons] at hlen; show a.length + 1 + _ = _; omega, fun x hx => hM x (List.mem_cons_of_mem _ hx), fun x hx => ?_, fun x hx => ?_⟩
      · rcases List.mem_append.mp hx with hx | hx
        · exact ha x hx
        · cases List.mem_singleton.mp hx
          by_cases e : t.1 = []
          · rw [h1 e]; exact Nat.zero_le _
          · exact hL.pow t ht m (h2 e)
      · rcases hall x hx with h | ⟨y, hy, h⟩
        · rcases List.mem_cons.mp h with h | h
          · subst h
            exact .inr ⟨m, by simp, h3⟩
          · exact .inl h
        · exact .inr ⟨y, List.mem_append_left _ hy, h⟩
end
end K28
namespace K28
open PySem PySem.Spec PyProof.Rows L2 EL PH
section
variable {P : Program} {w : World} {K : PySem.W.Frag} {mg : Str → Option Value} {base : Heap}
abbrev GT_packed (P : Program) (w : World) (base : Heap) (T : Tops K w mg) : Prop := FnOk P w K mg base CX0 1 T.f_packed T.d_packed ["one", "bits"] (spD K clT Deck 0 2 FPacked)
theorem ok_packed (T : Tops K w mg)  : GT_packed P w base T := by
  refine Fun.ok T.N_packed.F sc_packed (spD_len rfl) fun cdv A outer s H vs Q E hr h => bodyD (K := K) h (fun dk G xc DkAt hx hB => (ss_cons (s_own (i := 2) (ps_set (i := 2) sc_packed.nd rfl (Or.inl rfl) (f_lst a_nil)))
    (ss_cons (s_for (vs := [3, 4]) (ps_for PassesOwn.never rfl (i_seq rfl (d_var 0 (pv 0))) (g_tup (bl_cons tame_n (bl_cons tame_n bl_nil)) (pg_tup (n := 2) rfl (gs_cons (g_name (vs := [3, 4]) (pg_name (i := 3) sc_packed.nd rfl (Or.inl rfl))) (gs_cons (g_name (vs := [3, 4]) (pg_name (i := 4) sc_packed.nd rfl (Or.inl rfl))) (gs_nil (vs := [3, 4])) (pgs_cons (g_name (vs := [3, 4]) (pg_name (i := 4) sc_packed.nd rfl (Or.inl rfl))) (gs_nil (vs := [3, 4])))) (pgs_cons (g_name (vs := [3, 4]) (pg_name (i := 3) sc_packed.nd rfl (Or.inl rfl))) (gs_cons (g_name (vs := [3, 4]) (pg_name (i := 4) sc_packed.nd rfl (Or.inl rfl))) (gs_nil (vs := [3, 4])) (pgs_cons (g_name (vs := [3, 4]) (pg_name (i := 4) sc_packed.nd rfl (Or.inl rfl))) (gs_nil (vs := [3, 4]))))))))
    (ss_cons (s_set (i := 5) (ps_set (i := 5) sc_packed.nd rfl (Or.inl rfl) d_int))
    (ss_cons (s_for (vs := [6]) (ps_for PassesOwn.never rfl (i_seq rfl (d_var 3 (pv 3))) (g_name (vs := [6]) (pg_name (i := 6) sc_packed.nd rfl (Or.inl rfl)))
    (ss_one (s_set (i := 5) (ps_set (i := 5) sc_packed.nd rfl (Or.inl rfl) (d_add rfl (d_shl (d_var 5 (pv 5)) (d_var 1 (pv 1))) (d_var 6 (pv 6))))))))
    (ss_one (s_expr (ps_expr (d_mut ok_appM (pe_bm PySem.F.plainAttrs_list PySem.F.slot_list_append PySem.F.type_list_append mt_append (pv 2) (a_cons (d_tup (a_cons (d_var 5 (pv 5)) (a_cons (d_var 4 (pv 4)) a_nil))) a_nil))))))))))
    (ss_one (s_ret (d_var 2 (pv 2))))))) ?_
  rintro _ R xc - ⟨L, b, rfl, hb, hL, hl4, hk, hR⟩
  refine ⟨by show 0 ≤ 1000000; decide, fun p => ?_⟩
  show forD _ _ _ (L.map tmD) _
  refine for_invL (fun ds γ => ∃ (M N : Sm) (o3 o4 o5 o6 : Sl), ds = M.map tmD ∧ γ = ⟨[.fz (smD L), .fz (.int (b : Nat)), .own p (N.map fun t => pkD (pk b t.1, t.2)), o3, o4, o5, o6], 0⟩ ∧ N ++ M = L) ?_ ?_ _ _
    ⟨L, [], _, _, _, _, rfl, rfl, rfl⟩
  · rintro γ ⟨M, N, o3, o4, o5, o6, e, rfl, hL2⟩
    cases M with
    | nil =>
      rw [List.append_nil] at hL2
      subst hL2
      exact hR
    | cons t M => cases e
  · rintro d ds γ ⟨M, N, o3, o4, o5, o6, e, rfl, hL2⟩ next
    cases M with
    | nil => cases e
    | cons t M =>
      rw [List.map_cons] at e
      injection e with e1 e2
      subst e1 e2
      have ht : t ∈ L := by rw [← hL2]; exact List.mem_append_right _ List.mem_cons_self
      have hl := hl4 t ht
      show forD _ _ _ (t.1.map fun n : Nat => D.int (n : Nat)) _
      refine for_invL (fun ds γ => ∃ (ps : List Nat) (a j : Nat) (o6 : Sl), ds = ps.map (fun n : Nat => D.int (n : Nat)) ∧ γ = ⟨[.fz (smD L), .fz (.int (b : Nat)), .own p (N.map fun t => pkD (pk b t.1, t.2)), .fz (kX t.1), .fz (.int t.2), .fz (.int (a : Nat)), o6], 0⟩ ∧
          a * 2 ^ (b * ps.length) + pk b ps = pk b t.1 ∧ a < 2 ^ (b * j) ∧ j + ps.length ≤ 4 ∧ ∀ k ∈ ps, k < 2 ^ b) ?_ ?_ _ _
        ⟨t.1, 0, 0, _, rfl, rfl, by rw [Nat.zero_mul, Nat.zero_add], by simp, by omega, hk t ht⟩
      · rintro γ ⟨ps, a, j, o6, e, rfl, hw, ha, hj, hps⟩
        cases ps with
        | cons _ _ => cases e
        | nil =>
          have hw : a = pk b t.1 := by
            rw [← hw]
            simp [pk]
          subst hw
          have hlen : (N.map fun t => pkD (pk b t.1, t.2)).length < 1000000 := by
            rw [List.length_map]
            have := congrArg List.length hL2
            rw [List.length_append] at this
            have := hL.many
            omega
          refine ⟨⟨_, _, rfl⟩, by show 2 ≤ 1000000; decide, hlen, next _ ⟨M, N ++ [t], .fz (kX t.1), .fz (.int t.2), .fz (.int (pk b t.1 : Nat)), o6, rfl, ?_, by rw [List.append_assoc]; exact hL2⟩⟩
          rw [List.map_append]
          rfl
      · rintro d ds γ ⟨ps, a, j, o6, e, rfl, hw, ha, hj, hps⟩ next2
        cases ps with
        | nil => cases e
        | cons k ps =>
          rw [List.map_cons] at e
          injection e with e1 e2
          subst e1 e2
          rw [List.length_cons] at hj hw
          have hk1 := hps k List.mem_cons_self
          have hs : CShl ((a : Nat) : Int) ((b : Nat) : Int) := shl_ok (n := b * j) (by simpa using ha) (by
            have : b * j ≤ 40 * 4 := Nat.mul_le_mul hb (by omega)
            omega)
          have e3 : ((a : Nat) : Int) * 2 ^ ((b : Nat) : Int).toNat + ((k : Nat) : Int) = ((a * 2 ^ b + k : Nat) : Int) := by
            rw [Int.toNat_natCast]
            push_cast
            rfl
          refine ⟨hs, ?_⟩
          show forD _ _ _ _ ⟨[.fz (smD L), .fz (.int (b : Nat)), .own p (N.map fun t => pkD (pk b t.1, t.2)), .fz (kX t.1), .fz (.int t.2), .fz (.int (((a : Nat) : Int) * 2 ^ ((b : Nat) : Int).toNat + ((k : Nat) : Int))), _], 0⟩
          rw [e3]
          refine next2 _ ⟨ps, a * 2 ^ b + k, j + 1, _, rfl, rfl, ?_, ?_, by omega, fun x hx => hps x (List.mem_cons_of_mem _ hx)⟩
          · rw [← hw, pk_cons, Nat.mul_succ, Nat.pow_add, Nat.add_mul, Nat.mul_assoc, Nat.mul_comm (2 ^ b)]
            omega
          · rw [Nat.mul_succ, Nat.pow_add]
            have : (a + 1) * 2 ^ b ≤ 2 ^ (b * j) * 2 ^ b := Nat.mul_le_mul_right _ ha
            rw [Nat.add_mul, Nat.one_mul] at this
            omega
end
end K28
namespace K28
open PySem PySem.Spec PyProof.Rows L2 EL PH
section
variable {P : Program} {w : World} {K : PySem.W.Frag} {mg : Str → Option Value} {base : Heap}
abbrev GT_unpacked (P : Program) (w : World) (base : Heap) (T : Tops K w mg) : Prop := FnOk P w K mg base CX0 1 T.f_unpacked T.d_unpacked ["found", "bits", "many"] (spD K clT Deck 0 3 FUnpacked)
theorem ok_unpacked (T : Tops K w mg)  : GT_unpacked P w base T := by
  refine Fun.ok T.N_unpacked.F sc_unpacked (spD_len rfl) fun cdv A outer s H vs Q E hr h => bodyD (K := K) h (fun dk G xc DkAt hx hB => (ss_cons (s_set (i := 3) (ps_set (i := 3) sc_unpacked.nd rfl (Or.inr rfl) (d_sub (d_shl d_int (d_var 1 (pv 1))) d_int)))
    (ss_cons (s_set (i := 4) (ps_set (i := 4) sc_unpacked.nd rfl (Or.inr rfl) (d_f (f_lc (pe_lc (own := [("at", 6)]) rfl sc_unpacked.nd (i_revR1 (pi_revR rfl T.z_reversed (prg_1 rfl T.z_range (d_var 2 (pv 2))))) (blkOk_by (own := [("at", 6)]) (N := N_sc_unpacked) (sc := defScope s_unpacked) (by decide +kernel)) (fun _ _ _ _ _ => gx (vs := [6]) fun _ => (g_name (vs := [6]) (pg_name (i := 6) sc_unpacked.nd rfl (Or.inl rfl)))) (fun _ _ _ _ _ => bx_yes) (fun _ _ _ _ _ => dx fun h0 => (d_mul (d_var 1 (pv 1)) (d_var 6 (pv 6)))))))))
    (ss_cons (s_set (i := 5) (a_f (a_lc (ps_setLc (i := 5) (own := [("key", 7)]) rfl sc_unpacked.nd rfl rfl (sw_true rfl rfl rfl (by decide +kernel)) (i_seq rfl (d_f (f_sortI (pe_callB (cr_sortI rfl hr.units) (by rfl) T.z_sorted (by decide +kernel) (a_cons (d_var 0 (pv 0)) a_nil))))) (blkOk_by (own := [("key", 7)]) (N := N_sc_unpacked) (sc := defScope s_unpacked) (by decide +kernel)) (fun _ _ _ _ _ => gx (vs := [7]) fun _ => (g_name (vs := [7]) (pg_name (i := 7) sc_unpacked.nd rfl (Or.inl rfl)))) (fun _ _ _ _ _ => bx_one fun h0 => (b_cmp (op_nePP hr.units) (ok_neP rfl) (d_dget (pe_dget (hu_of hr) (d_var 0 (pv 0)) (d_var 7 (pv 7)) (fun _ _ => rfl))) d_int (nomark _))) (fun _ _ _ _ _ => dx fun h0 => (d_tup (a_cons (d_var 7 (pv 7)) (a_cons (d_dget (pe_dget (hu_of hr) (d_var 0 (pv 0)) (d_var 7 (pv 7)) (fun _ _ => rfl))) a_nil))))))))
    (ss_one (s_ret (d_cb (ok_tupOf rfl) (pe_callTy call_tuple_of (by rfl) T.z_tuple (by decide +kernel) (a_cons (d_f (f_lc (pe_lc (own := [("key", 7), ("worth", 8)]) rfl sc_unpacked.nd (i_seq rfl (d_var 5 (pv 5))) (blkOk_by (own := [("key", 7), ("worth", 8)]) (N := N_sc_unpacked) (sc := defScope s_unpacked) (by decide +kernel)) (fun _ _ _ _ _ => gx (vs := [7, 8]) fun _ => (g_tup (bl_cons tame_n (bl_cons tame_n bl_nil)) (pg_tup (n := 2) rfl (gs_cons (g_name (vs := [7, 8]) (pg_name (i := 7) sc_unpacked.nd rfl (Or.inr rfl))) (gs_cons (g_name (vs := [7, 8]) (pg_name (i := 8) sc_unpacked.nd rfl (Or.inl rfl))) (gs_nil (vs := [7, 8])) (pgs_cons (g_name (vs := [7, 8]) (pg_name (i := 8) sc_unpacked.nd rfl (Or.inl rfl))) (gs_nil (vs := [7, 8])))) (pgs_cons (g_name (vs := [7, 8]) (pg_name (i := 7) sc_unpacked.nd rfl (Or.inr rfl))) (gs_cons (g_name (vs := [7, 8]) (pg_name (i := 8) sc_unpacked.nd rfl (Or.inl rfl))) (gs_nil (vs := [7, 8])) (pgs_cons (g_name (vs := [7, 8]) (pg_name (i := 8) sc_unpacked.nd rfl (Or.inl rfl))) (gs_nil (vs := [7, 8]))))))))) (fun _ _ _ _ _ => bx_yes) (fun _ _ _ _ _ => dx fun h0 => (d_tup (a_cons (d_cb (ok_tupOf rfl) (pe_callTy call_tuple_of (by rfl) T.z_tuple (by decide +kernel) (a_cons (d_f (f_lc (pe_lc (own := [("shift", 9)]) rfl sc_unpacked.nd (i_seq rfl (d_var 4 (pv 4))) (blkOk_by (own := [("shift", 9)]) (N := N_sc_unpacked) (sc := (relS { kind := .function, names := [(".0", .local), ("key", .cell), ("worth", .local), ("tuple", .globalImplicit), ("mask", .free), ("shifts", .free)], isGenerator := false, isCoroutine := false } (defScope s_unpacked))) (by decide +kernel)) (fun _ _ _ _ _ => gx (vs := [9]) fun _ => (g_name (vs := [9]) (pg_name (i := 9) sc_unpacked.nd rfl (Or.inl rfl)))) (fun _ _ _ _ _ => bx_yes) (fun _ _ _ _ _ => dx fun h1 => (d_band (d_shr (d_var 7 (pv 7)) (d_var 9 (pv 9))) (d_var 3 (pv 3))))))) a_nil))) (a_cons (d_var 8 (pv 8)) a_nil))))))) a_nil))))))))) ?_
  rintro _ R xc - ⟨n, b, L, rfl, hb, hn, nd, h1, h2, hlen, hR⟩
  have hs1 : CShl 1 ((b : Nat) : Int) := shl_ok (n := 1) (by decide) (by omega)
  refine ⟨hs1, ⟨by omega, by omega⟩, ?_⟩
  have erev : EL.rngC (((n : Nat) : Int) - 1) (-1) ((n : Nat) : Int).toNat = (List.range n).reverse.map fun i : Nat => D.int (i : Nat) := by
    rw [Int.toNat_natCast]
    exact rngC_rev n
  show (EL.rngC (((n : Nat) : Int) - 1) (-1) ((n : Nat) : Int).toNat).length ≤ 1000000 ∧ lcD _ _ _ _ (EL.rngC (((n : Nat) : Int) - 1) (-1) ((n : Nat) : Int).toNat) [] _ _
  rw [erev]
  refine ⟨by simp; omega, ?_⟩
  refine lc_filt (fun i : Nat => D.int (i : Nat)) (fun i : Nat => D.int ((b * i : Nat) : Int)) (fun _ => true) (List.range n).reverse ?_ _ [] _ (fun _ h => h) ?_
  · intro i hi R' R'' k1 k2
    have hi : i < n := by simpa using hi
    refine ⟨fun _ => ⟨mul_bits (a := 40) (b := 40) ?_ ?_ (by decide), ?_⟩, fun q => absurd trivial q⟩
    · have : b < 2 ^ 40 := Nat.lt_of_le_of_lt hb (by decide)
      simpa using this
    · have : i < 2 ^ 40 := Nat.lt_of_lt_of_le hi (Nat.le_trans hn (by decide))
      simpa using this
    · have := k1 rfl
      rw [show ((b * i : Nat) : Int) = ((b : Nat) : Int) * ((i : Nat) : Int) from Int.natCast_mul _ _] at this
      exact this _ rfl
  rw [List.nil_append, List.filter_eq_self.mpr (fun _ _ => rfl)]
  -- the keys in order
  refine ⟨L.map fun t => ((pk b t.1 : Nat) : Int), by rw [List.map_map, List.map_map]; rfl, fun ys p hs => ?_⟩
  have mem : ∀ y ∈ ys, ∃ t ∈ L, y = ((pk b t.1 : Nat) : Int) := fun y hy => by
    obtain ⟨t, ht, e⟩ := List.mem_map.mp (p.mem_iff.mp hy)
    exact ⟨t, ht, e.symm⟩
  have hyl : ys.length = L.length := by rw [p.length_eq, List.length_map]
  have e3 := back_sort nd h1 h2 p hs
  show (ys.map D.int).length ≤ 1000000 ∧ lcD _ _ _ _ (ys.map D.int) [] _ _
  refine ⟨by rw [List.length_map]; omega, ?_⟩
  refine lc_filt D.int (fun y => D.tup [.int y, .int (backI n b L y).2]) (fun y => nz (backI n b L y)) ys ?_ ys [] _ (fun _ h => h) ?_
  · intro y hy R' R'' k1 k2
    obtain ⟨t, ht, rfl⟩ := mem y hy
    obtain ⟨g1, g2⟩ := back_pk nd h1 h2 ht
    rw [g1] at k1 k2
    refine ⟨_, g2, fun h => ⟨_, g2, by show 2 ≤ 1000000; decide, k1 (decide_eq_true h) _ rfl⟩, fun h => k2 (decide_eq_false fun z => h z) _ rfl⟩
  rw [List.nil_append]
  have e4 : (ys.filter fun y => nz (backI n b L y)).map (backI n b L) = nf L := by
    rw [← e3, List.filter_map]
    rfl
  have mem2 : ∀ y ∈ ys.filter fun y => nz (backI n b L y), ∃ t ∈ L, y = ((pk b t.1 : Nat) : Int) := fun y hy => mem y (List.mem_filter.mp hy).1
  have hl2 : (ys.filter fun y => nz (backI n b L y)).length ≤ 1000 := Nat.le_trans (List.length_filter_le _ _) (by omega)
  generalize (ys.filter fun y => nz (backI n b L y)) = zs at e4 mem2 hl2
  show (zs.map fun y => D.tup [.int y, .int (backI n b L y).2]).length ≤ 1000000 ∧ lcD _ _ _ _ (zs.map fun y => D.tup [.int y, .int (backI n b L y).2]) [] _ _
  refine ⟨by rw [List.length_map]; omega, ?_⟩
  refine lc_filt (fun y => D.tup [.int y, .int (backI n b L y).2]) (fun y => tmD (backI n b L y)) (fun _ => true) zs ?_ zs [] _ (fun _ h => h) ?_
  · intro y hy R' R'' k1 k2
    obtain ⟨t, ht, rfl⟩ := mem2 y hy
    obtain ⟨g1, g2⟩ := back_pk nd h1 h2 ht
    refine ⟨fun _ => ?_, fun q => absurd trivial q⟩
    show ((List.range n).reverse.map fun i : Nat => D.int ((b * i : Nat) : Int)).length ≤ 1000000 ∧ lcD _ _ _ _ ((List.range n).reverse.map fun i : Nat => D.int ((b * i : Nat) : Int)) [] _ _
    refine ⟨by simp; omega, ?_⟩
    refine lc_filt (fun i : Nat => D.int ((b * i : Nat) : Int)) (fun i : Nat => D.int ((pk b t.1 / 2 ^ (b * i) % 2 ^ b : Nat) : Int)) (fun _ => true) (List.range n).reverse ?_ _ [] _ (fun _ h => h) ?_
    · intro i hi R3 R4 k3 k4
      refine ⟨fun _ => ⟨Int.natCast_nonneg _, ?_⟩, fun q => absurd trivial q⟩
      have ev : Builtin.bitAnd (((pk b t.1 : Nat) : Int) / 2 ^ ((b * i : Nat) : Int).toNat) (1 * 2 ^ ((b : Nat) : Int).toNat - 1) = ((pk b t.1 / 2 ^ (b * i) % 2 ^ b : Nat) : Int) := by
        rw [Int.toNat_natCast, Int.toNat_natCast, Int.one_mul]
        have e0 : ((pk b t.1 : Nat) : Int) / 2 ^ (b * i) = ((pk b t.1 / 2 ^ (b * i) : Nat) : Int) := by push_cast; rfl
        rw [e0, Bits.bitAnd_mask b (Int.natCast_nonneg _)]
        push_cast
        rfl
      have := k3 rfl
      rw [← ev] at this
      exact this _ rfl
    rw [List.nil_append, List.filter_eq_self.mpr (fun _ _ => rfl)]
    have ek : (List.range n).reverse.map (fun i : Nat => D.int ((pk b t.1 / 2 ^ (b * i) % 2 ^ b : Nat) : Int)) = (dg b n (pk b t.1)).map fun k : Nat => D.int (k : Nat) := by
      unfold dg
      rw [List.map_map]
      rfl
    rw [ek]
    have ed : dg b n (pk b t.1) = t.1 := by
      have := dg_pk (h2 t ht)
      rwa [h1 t ht] at this
    rw [ed]
    refine ⟨by show 2 ≤ 1000000; decide, ?_⟩
    have := k1 rfl
    rw [g1] at this ⊢
    exact this _ rfl
  rw [List.nil_append, List.filter_eq_self.mpr (fun _ _ => rfl)]
  have e5 : zs.map (fun y => tmD (backI n b L y)) = (nf L).map tmD := by
    rw [← e4, List.map_map]
    rfl
  rw [e5]
  exact hR
end
end K28
namespace K28
open PySem PySem.Spec PyProof.Rows L2 EL PH
section
variable {P : Program} {w : World} {K : PySem.W.Frag} {mg : Str → Option Value} {base : Heap}
abbrev GT_added (P : Program) (w : World) (base : Heap) (T : Tops K w mg) : Prop := FnOk P w K mg base CX0 2 T.f_added T.d_added ["one", "other"] (spD K clT Deck 0 2 FAdded)
theorem ok_added (T : Tops K w mg) (G_sum_of : GT_sum_of P w base T) : GT_added P w base T := by
  refine Fun.ok T.N_added.F sc_added (spD_len rfl) fun cdv A outer s H vs Q E hr h => bodyD (K := K) h (fun dk G xc DkAt hx hB => (ss_cons (s_ownTc (i := 4) (a_dcT (by intro z; cases z) (ps_setDcT (i := 4) (ol := [("powers", 2), ("many", 3)]) rfl sc_added.nd rfl rfl (sw_dc rfl rfl rfl (by decide +kernel)) hr.units (i_seq rfl (d_var 0 (pv 0))) (blkOk_by (own := [("powers", 2), ("many", 3)]) (N := N_sc_added) (sc := defScope s_added) (by decide +kernel)) ⟨fun _ _ _ _ _ => gx (vs := [2, 3]) fun _ => (g_tup (bl_cons tame_n (bl_cons tame_n bl_nil)) (pg_tup (n := 2) rfl (gs_cons (g_name (vs := [2, 3]) (pg_name (i := 2) sc_added.nd rfl (Or.inl rfl))) (gs_cons (g_name (vs := [2, 3]) (pg_name (i := 3) sc_added.nd rfl (Or.inl rfl))) (gs_nil (vs := [2, 3])) (pgs_cons (g_name (vs := [2, 3]) (pg_name (i := 3) sc_added.nd rfl (Or.inl rfl))) (gs_nil (vs := [2, 3])))) (pgs_cons (g_name (vs := [2, 3]) (pg_name (i := 2) sc_added.nd rfl (Or.inl rfl))) (gs_cons (g_name (vs := [2, 3]) (pg_name (i := 3) sc_added.nd rfl (Or.inl rfl))) (gs_nil (vs := [2, 3])) (pgs_cons (g_name (vs := [2, 3]) (pg_name (i := 3) sc_added.nd rfl (Or.inl rfl))) (gs_nil (vs := [2, 3])))))))), fun _ _ _ _ _ => bx_yes, fun _ _ _ _ _ => dx (fun h0 => (d_var 2 (pv 2))), fun _ _ _ _ _ => dx (fun h0 => (d_var 3 (pv 3)))⟩)))
    (ss_cons (s_for (vs := [2, 3]) (ps_for PassesOwn.never rfl (i_seq rfl (d_var 1 (pv 1))) (g_tup (bl_cons tame_n (bl_cons tame_n bl_nil)) (pg_tup (n := 2) rfl (gs_cons (g_name (vs := [2, 3]) (pg_name (i := 2) sc_added.nd rfl (Or.inl rfl))) (gs_cons (g_name (vs := [2, 3]) (pg_name (i := 3) sc_added.nd rfl (Or.inl rfl))) (gs_nil (vs := [2, 3])) (pgs_cons (g_name (vs := [2, 3]) (pg_name (i := 3) sc_added.nd rfl (Or.inl rfl))) (gs_nil (vs := [2, 3])))) (pgs_cons (g_name (vs := [2, 3]) (pg_name (i := 2) sc_added.nd rfl (Or.inl rfl))) (gs_cons (g_name (vs := [2, 3]) (pg_name (i := 3) sc_added.nd rfl (Or.inl rfl))) (gs_nil (vs := [2, 3])) (pgs_cons (g_name (vs := [2, 3]) (pg_name (i := 3) sc_added.nd rfl (Or.inl rfl))) (gs_nil (vs := [2, 3]))))))))
    (ss_one (s_dsetT (i := 4) (by intro z; cases z) (ps_dput (hu_of hr) (pv 4) (d_var 2 (pv 2)) (d_lend (d_add rfl (d_dget2T (by intro z; cases z) (pe_dget2 (hu_of hr) (d_var 4 (pv 4)) (d_var 2 (pv 2)) d_int ⟨rfl, rfl, rfl, rfl⟩)) (d_var 3 (pv 3)))) rfl)))))
    (ss_one (s_ret (d_call hB (pe_call G_sum_of (hr.mono (by decide)) rfl T.N_sum_of.m T.N_sum_of.F.kp T.N_sum_of.b .nil pass0 (a_cons (d_var 4 (pv 4)) a_nil)))))))) ?_
  rintro _ R xc - ⟨n, A, Z, x, rfl, hx, hA, hZ, hA2, hZ2, hR⟩
  have r : RiseT A := List.pairwise_map.mp hA.rise
  have nd := rise_keys r
  refine ⟨by show (A.map tmD).length ≤ 1000000; rw [List.length_map]; omega, ?_⟩
  show dcT _ _ _ _ _ (A.map tmD) [] _ _
  refine dcT_each tmD (·.1) (·.2) A rfl (fun t ht Zz Z' k => ⟨fun _ => ⟨t.1, t.2, rfl, rfl, k _ rfl⟩, fun q => absurd trivial q⟩) A [] _ (fun _ h => h) ?_
  rw [fold_setA A [] nd (fun _ _ _ h => by cases h), List.nil_append]
  intro p
  suffices h : ∀ E2 : DEnds, (∀ (o2 o3 : Sl), E2.nx ⟨[.fz (smD A), .fz x, o2, o3, .ownT p (addAll A Z)], 0⟩) → ∀ o2 o3 : Sl, forD (bT (bsCons (bN 2) (bsCons (bN 3) bsNil))) (sDSetT 4 (dVar 2) (dLend (dOp addF (dDget2T (dVar 4) (dVar 2) (dC (D.int 0))) (dVar 3)))) E2 (Z.map tmD) ⟨[.fz (smD A), .fz x, o2, o3, .ownT p A], 0⟩ by
    have fin : ∀ (o2 o3 : Sl), dCall 1 FSumOf noX (aCons (dVar 4) aNil) ⟨[.fz (smD A), .fz x, o2, o3, .ownT p (addAll A Z)], 0⟩ fun d _ => R d := fun o2 o3 =>
      ⟨rfl, n, addAll A Z, rfl, addAll_nodup Z A nd, addAll_keys (Pk := fun k => k.length = n) Z A hA.len hZ, Nat.le_trans (addAll_len Z A) (by omega), hR⟩
    rcases hx with rfl | rfl
    · exact h _ fin _ _
    · exact h _ fin _ _
  intro E2 hE o2 o3
  refine for_invL (fun ds γ => ∃ (M D0 : Sm) (o2 o3 : Sl), ds = M.map tmD ∧ γ = ⟨[.fz (smD A), .fz x, o2, o3, .ownT p D0], 0⟩ ∧ addAll D0 M = addAll A Z ∧ (D0.map (·.1)).Nodup ∧ D0.length + M.length ≤ 400) ?_ ?_ _ _
    ⟨Z, A, _, _, rfl, rfl, rfl, nd, by omega⟩
  · rintro γ ⟨M, D0, o2, o3, e, rfl, h1, _, _⟩
    cases M with
    | nil =>
      have h1 : D0 = addAll A Z := h1
      rw [h1]
      exact hE _ _
    | cons t M => cases e
  · rintro d ds γ ⟨M, D0, o2, o3, e, rfl, h1, h2, h3⟩ next
    cases M with
    | nil => cases e
    | cons t M =>
      rw [List.map_cons] at e
      injection e with e1 e2
      subst e1 e2
      rw [List.length_cons] at h3
      refine ⟨⟨_, rfl⟩, t.1, 0, rfl, rfl, rfl, [], rfl, ⟨p, D0, rfl⟩, t.1, _, rfl, rfl, by omega, next _ ⟨M, addK t.1 t.2 D0, .fz (kX t.1), .fz (.int t.2), rfl, ?_, h1, addK_nodup h2, ?_⟩⟩
      · rw [← setA_add (v := t.2) h2]
        rfl
      · have := addK_len t.1 t.2 D0
        omega
end
end K28
namespace K28
open PySem PySem.Spec PyProof.Rows L2 EL PH
section
variable {P : Program} {w : World} {K : PySem.W.Frag} {mg : Str → Option Value} {base : Heap}
abbrev GT_lessened (P : Program) (w : World) (base : Heap) (T : Tops K w mg) : Prop := FnOk P w K mg base CX0 3 T.f_lessened T.d_lessened ["one", "other"] (spD K clT Deck 0 2 FLess)
theorem ok_lessened (T : Tops K w mg) (G_added : GT_added P w base T) : GT_lessened P w base T := by
  refine Fun.ok T.N_lessened.F sc_lessened (spD_len rfl) fun cdv A outer s H vs Q E hr h => bodyD (K := K) h (fun dk G xc DkAt hx hB => (ss_one (s_ret (d_call hB (pe_call G_added (hr.mono (by decide)) rfl T.N_added.m T.N_added.F.kp T.N_added.b .nil pass0 (a_cons (d_var 0 (pv 0)) (a_cons (d_f (f_lc (pe_lc (own := [("powers", 2), ("many", 3)]) rfl sc_lessened.nd (i_seq rfl (d_var 1 (pv 1))) (blkOk_by (own := [("powers", 2), ("many", 3)]) (N := N_sc_lessened) (sc := defScope s_lessened) (by decide +kernel)) (fun _ _ _ _ _ => gx (vs := [2, 3]) fun _ => (g_tup (bl_cons tame_n (bl_cons tame_n bl_nil)) (pg_tup (n := 2) rfl (gs_cons (g_name (vs := [2, 3]) (pg_name (i := 2) sc_lessened.nd rfl (Or.inl rfl))) (gs_cons (g_name (vs := [2, 3]) (pg_name (i := 3) sc_lessened.nd rfl (Or.inl rfl))) (gs_nil (vs := [2, 3])) (pgs_cons (g_name (vs := [2, 3]) (pg_name (i := 3) sc_lessened.nd rfl (Or.inl rfl))) (gs_nil (vs := [2, 3])))) (pgs_cons (g_name (vs := [2, 3]) (pg_name (i := 2) sc_lessened.nd rfl (Or.inl rfl))) (gs_cons (g_name (vs := [2, 3]) (pg_name (i := 3) sc_lessened.nd rfl (Or.inl rfl))) (gs_nil (vs := [2, 3])) (pgs_cons (g_name (vs := [2, 3]) (pg_name (i := 3) sc_lessened.nd rfl (Or.inl rfl))) (gs_nil (vs := [2, 3]))))))))) (fun _ _ _ _ _ => bx_yes) (fun _ _ _ _ _ => dx fun h0 => (d_tup (a_cons (d_var 2 (pv 2)) (a_cons (d_neg (d_var 3 (pv 3))) a_nil))))))) a_nil))))))) ?_
  rintro _ R xc - ⟨n, A, Z, rfl, hA, hZ, hA2, hZ2, hR⟩
  refine ⟨by show (Z.map tmD).length ≤ 1000000; rw [List.length_map]; omega, ?_⟩
  show lcD _ _ _ _ (Z.map tmD) [] _ _
  refine lc_filt tmD (fun t => tmD (t.1, -t.2)) (fun _ => true) Z (fun t ht R' R'' k1 k2 => ⟨fun _ => ⟨by show 2 ≤ 1000000; decide, k1 rfl _ rfl⟩, fun q => absurd trivial q⟩) Z [] _ (fun _ h => h) ?_
  rw [List.nil_append, List.filter_eq_self.mpr (fun _ _ => rfl)]
  refine ⟨rfl, n, A, negS Z, _, rfl, .inr ?_, hA, ?_, hA2, ?_, hR⟩
  · unfold negS
    rw [List.map_map]
    rfl
  · intro t ht
    obtain ⟨u, hu, rfl⟩ := List.mem_map.mp ht
    exact hZ u hu
  · unfold negS
    rw [List.length_map]
    exact hZ2
end
end K28
namespace K28
open PySem PySem.Spec PyProof.Rows L2 EL PH
section
variable {P : Program} {w : World} {K : PySem.W.Frag} {mg : Str → Option Value} {base : Heap}
abbrev GT_times (P : Program) (w : World) (base : Heap) (T : Tops K w mg) : Prop := FnOk P w K mg base CX0 2 T.f_times T.d_times ["one", "other"] (spD K clT Deck 0 2 FTimes)
theorem ok_times (T : Tops K w mg) (G_greatest_power : GT_greatest_power P w base T) (G_packed : GT_packed P w base T) (G_unpacked : GT_unpacked P w base T) : GT_times P w base T := by
  refine Fun.ok T.N_times.F sc_times (spD_len rfl) fun cdv A outer s H vs Q E hr h => bodyD (K := K) h (fun dk G xc DkAt hx hB => (ss_cons (s_if (PW.pt (bw_or (b_not (b_seq rfl (d_var 0 (pv 0)))) (bw_or1 (b_not (b_seq rfl (d_var 1 (pv 1))))))) (ss_one (s_ret (d_tup a_nil))) ss_nil)
    (ss_cons (s_set (i := 2) (ps_set (i := 2) sc_times.nd rfl (Or.inl rfl) (d_bits (pe_bits (d_add rfl (d_call hB (pe_call G_greatest_power (hr.mono (by decide)) rfl T.N_greatest_power.m T.N_greatest_power.F.kp T.N_greatest_power.b .nil pass0 (a_cons (d_var 0 (pv 0)) a_nil))) (d_call hB (pe_call G_greatest_power (hr.mono (by decide)) rfl T.N_greatest_power.m T.N_greatest_power.F.kp T.N_greatest_power.b .nil pass0 (a_cons (d_var 1 (pv 1)) a_nil))))))))
    (ss_cons (s_set (i := 3) (ps_set (i := 3) sc_times.nd rfl (Or.inl rfl) (d_call hB (pe_call G_packed (hr.mono (by decide)) rfl T.N_packed.m T.N_packed.F.kp T.N_packed.b .nil pass0 (a_cons (d_var 1 (pv 1)) (a_cons (d_var 2 (pv 2)) a_nil))))))
    (ss_cons (s_ownD (i := 4) (ps_set (i := 4) sc_times.nd rfl (Or.inl rfl) (f_dnew pe_dnewK)))
    (ss_cons (s_for (vs := [5, 6]) (ps_for PassesOwn.never rfl (i_seq rfl (d_call hB (pe_call G_packed (hr.mono (by decide)) rfl T.N_packed.m T.N_packed.F.kp T.N_packed.b .nil pass0 (a_cons (d_var 0 (pv 0)) (a_cons (d_var 2 (pv 2)) a_nil))))) (g_tup (bl_cons tame_n (bl_cons tame_n bl_nil)) (pg_tup (n := 2) rfl (gs_cons (g_name (vs := [5, 6]) (pg_name (i := 5) sc_times.nd rfl (Or.inl rfl))) (gs_cons (g_name (vs := [5, 6]) (pg_name (i := 6) sc_times.nd rfl (Or.inl rfl))) (gs_nil (vs := [5, 6])) (pgs_cons (g_name (vs := [5, 6]) (pg_name (i := 6) sc_times.nd rfl (Or.inl rfl))) (gs_nil (vs := [5, 6])))) (pgs_cons (g_name (vs := [5, 6]) (pg_name (i := 5) sc_times.nd rfl (Or.inl rfl))) (gs_cons (g_name (vs := [5, 6]) (pg_name (i := 6) sc_times.nd rfl (Or.inl rfl))) (gs_nil (vs := [5, 6])) (pgs_cons (g_name (vs := [5, 6]) (pg_name (i := 6) sc_times.nd rfl (Or.inl rfl))) (gs_nil (vs := [5, 6]))))))))
    (ss_one (s_for (vs := [7, 8]) (ps_for PassesOwn.never rfl (i_seq rfl (d_var 3 (pv 3))) (g_tup (bl_cons tame_n (bl_cons tame_n bl_nil)) (pg_tup (n := 2) rfl (gs_cons (g_name (vs := [7, 8]) (pg_name (i := 7) sc_times.nd rfl (Or.inl rfl))) (gs_cons (g_name (vs := [7, 8]) (pg_name (i := 8) sc_times.nd rfl (Or.inl rfl))) (gs_nil (vs := [7, 8])) (pgs_cons (g_name (vs := [7, 8]) (pg_name (i := 8) sc_times.nd rfl (Or.inl rfl))) (gs_nil (vs := [7, 8])))) (pgs_cons (g_name (vs := [7, 8]) (pg_name (i := 7) sc_times.nd rfl (Or.inl rfl))) (gs_cons (g_name (vs := [7, 8]) (pg_name (i := 8) sc_times.nd rfl (Or.inl rfl))) (gs_nil (vs := [7, 8])) (pgs_cons (g_name (vs := [7, 8]) (pg_name (i := 8) sc_times.nd rfl (Or.inl rfl))) (gs_nil (vs := [7, 8]))))))))
    (ss_one (s_dset (i := 4) (ps_dput (hu_of hr) (pv 4) (d_add rfl (d_var 5 (pv 5)) (d_var 7 (pv 7))) (d_lend (d_add rfl (d_dget2 (pe_dget2 (hu_of hr) (d_var 4 (pv 4)) (d_add rfl (d_var 5 (pv 5)) (d_var 7 (pv 7))) d_int ⟨rfl, rfl, rfl, rfl⟩)) (d_mul (d_var 6 (pv 6)) (d_var 8 (pv 8))))) rfl))))))))
    (ss_one (s_ret (d_call hB (pe_call G_unpacked (hr.mono (by decide)) rfl T.N_unpacked.m T.N_unpacked.F.kp T.N_unpacked.b .nil pass0 (a_cons (d_var 4 (pv 4)) (a_cons (d_var 2 (pv 2)) (a_cons (d_cb (ok_len rfl) (pe_callB call_lenD (by rfl) T.z_len (by decide +kernel) (a_cons (d_item rfl (d_item rfl (d_var 0 (pv 0)) d_int (fun _ _ => rfl)) d_int (fun _ _ => rfl)) a_nil))) a_nil))))))))))))) ?_
  rintro _ R xc - ⟨n, A, Z, rfl, hn, hA, hZ, lA, lZ, hR⟩
  have none : (A = [] ∨ Z = []) → R (.tup []) := fun h => by
    have e : prods A Z = [] := by
      rcases h with rfl | rfl
      · rfl
      · exact List.flatMap_eq_nil_iff.mpr fun _ _ => rfl
    rw [e, show addAll [] [] = ([] : Sm) from rfl, nf_nil] at hR
    exact hR
  refine ⟨fun h => ⟨fun _ => ⟨by show 0 ≤ 1000000; decide, none (.inl ?_)⟩, fun z => absurd trivial z⟩, fun h => ⟨fun h2 => ⟨by show 0 ≤ 1000000; decide, none (.inr ?_)⟩, fun h2 => ?_⟩⟩
  · exact List.map_eq_nil_iff.mp (Classical.not_not.mp h)
  · exact List.map_eq_nil_iff.mp (Classical.not_not.mp h2)
  have hA0 : A ≠ [] := fun e => h (fun z => z (by rw [e]; rfl))
  have hZ0 : Z ≠ [] := fun e => h2 (fun z => z (by rw [e]; rfl))
  clear h h2 none
  have mA := lA.many
  have mZ := lZ.many
  have lA2 : SmLe 200 20 1000 A := ⟨by omega, lA.pow, bits_mono lA⟩
  have lZ2 : SmLe 200 20 1000 Z := ⟨by omega, lZ.pow, bits_mono lZ⟩
  refine ⟨rfl, A, rfl, hA0, lA2, fun g1 hg1 hp1 => ⟨rfl, Z, rfl, hZ0, lZ2, fun g2 hg2 hp2 => ⟨g1 + g2, rfl, fun b hb hb2 => ?_⟩⟩⟩
  have hb40 : b ≤ 40 := by omega
  have pA : ∀ t ∈ A, ∀ k ∈ t.1, k < 2 ^ b := fun t ht k hk => by have := hp1 t ht k hk; omega
  have pZ : ∀ t ∈ Z, ∀ k ∈ t.1, k < 2 ^ b := fun t ht k hk => by have := hp2 t ht k hk; omega
  refine ⟨rfl, Z, b, rfl, hb40, lZ2, fun t ht => by rw [hZ.len t ht]; exact hn, pZ, fun p => ⟨rfl, A, b, rfl, hb40, lA2, fun t ht => by rw [hA.len t ht]; exact hn, pA, ?_⟩⟩
  show forD _ _ _ (A.map fun t => pkD (pk b t.1, t.2)) _
  refine for_invL (fun ds γ => ∃ (M D0 : Sm) (o5 o6 o7 o8 : Sl), ds = M.map (fun t => pkD (pk b t.1, t.2)) ∧ γ = ⟨[.fz (smD A), .fz (smD Z), .fz (.int (b : Nat)), .fz (.lst (Z.map fun t => pkD (pk b t.1, t.2))), .ownD p (pkV b D0), o5, o6, o7, o8], 0⟩ ∧
      addAll D0 (prods M Z) = addAll [] (prods A Z) ∧ (D0.map (·.1)).Nodup ∧ (∀ t ∈ D0, t.1.length = n) ∧ (∀ t ∈ D0, ∀ k ∈ t.1, k < 2 ^ b) ∧ D0.length + M.length * Z.length ≤ 144 ∧ ∀ x ∈ M, x ∈ A) ?_ ?_ _ _
    ⟨A, [], _, _, _, _, rfl, rfl, rfl, List.nodup_nil, (fun _ h => by cases h), (fun _ h => by cases h), by have : A.length * Z.length ≤ 12 * 12 := Nat.mul_le_mul mA mZ; simpa using this, fun _ h => h⟩
  · rintro γ ⟨M, D0, o5, o6, o7, o8, e, rfl, h1, nd, hl, hp, hcnt, -⟩
    cases M with
    | cons _ _ => cases e
    | nil =>
      have h1 : D0 = addAll [] (prods A Z) := h1
      rw [← h1] at hR
      cases A with
      | nil => exact absurd rfl hA0
      | cons a A =>
        have el : (a.1.map fun n : Nat => D.int (n : Nat)).length = n := by rw [List.length_map]; exact hA.len a List.mem_cons_self
        refine ⟨tmD a, at_0, kX a.1, at_0, rfl, (a.1.map fun n : Nat => D.int (n : Nat)).length, b, D0, rfl, hb40, by rw [el]; exact hn, nd, by rw [el]; exact hl, hp, by omega, hR⟩
  · rintro d ds γ ⟨M, D0, o5, o6, o7, o8, e, rfl, h1, nd, hl, hp, hcnt, hM⟩ next
    cases M with
    | nil => cases e
    | cons m M =>
      rw [List.map_cons] at e
      injection e with e1 e2
      subst e1 e2
      have hm := hM m List.mem_cons_self
      rw [List.length_cons, Nat.add_mul, Nat.one_mul] at hcnt
      show forD _ _ _ (Z.map fun t => pkD (pk b t.1, t.2)) _
      refine for_invL (fun ds γ => ∃ (N D0 : Sm) (o7 o8 : Sl), ds = N.map (fun t => pkD (pk b t.1, t.2)) ∧ γ = ⟨[.fz (smD A), .fz (smD Z), .fz (.int (b : Nat)), .fz (.lst (Z.map fun t => pkD (pk b t.1, t.2))), .ownD p (pkV b D0), .fz (.int (pk b m.1 : Nat)), .fz (.int m.2), o7, o8], 0⟩ ∧
          addAll D0 (N.map (fun t => (List.zipWith (· + ·) m.1 t.1, m.2 * t.2)) ++ prods M Z) = addAll [] (prods A Z) ∧ (D0.map (·.1)).Nodup ∧ (∀ t ∈ D0, t.1.length = n) ∧ (∀ t ∈ D0, ∀ k ∈ t.1, k < 2 ^ b) ∧ D0.length + N.length + M.length * Z.length ≤ 144 ∧ ∀ x ∈ N, x ∈ Z) ?_ ?_ _ _
        ⟨Z, D0, _, _, rfl, rfl, h1, nd, hl, hp, by omega, fun _ h => h⟩
      · rintro γ ⟨N, D0, o7, o8, e, rfl, h1, nd, hl, hp, hcnt, -⟩
        cases N with
        | cons _ _ => cases e
        | nil =>
          rw [List.length_nil] at hcnt
          exact next _ ⟨M, D0, _, _, _, _, rfl, rfl, h1, nd, hl, hp, by omega, fun x hx => hM x (List.mem_cons_of_mem _ hx)⟩
      · rintro d ds γ ⟨N, D0, o7, o8, e, rfl, h1, nd, hl, hp, hcnt, hN⟩ next2
        cases N with
        | nil => cases e
        | cons t N =>
          rw [List.map_cons] at e
          injection e with e1 e2
          subst e1 e2
          have ht := hN t List.mem_cons_self
          rw [List.length_cons] at hcnt
          have em := hA.len m hm
          have et := hZ.len t ht
          have kl : (List.zipWith (· + ·) m.1 t.1).length = n := by rw [List.length_zipWith, em, et, Nat.min_self]
          have kp : ∀ x ∈ List.zipWith (· + ·) m.1 t.1, x < 2 ^ b := fun x hx => by have := zipW_le (hp1 m hm) (hp2 t ht) x hx; omega
          have ek : ((pk b m.1 : Nat) : Int) + ((pk b t.1 : Nat) : Int) = ((pk b (List.zipWith (· + ·) m.1 t.1) : Nat) : Int) := by
            rw [pk_add b (em.trans et.symm)]
            push_cast
            rfl
          have g : getK (.inl (((pk b m.1 : Nat) : Int) + ((pk b t.1 : Nat) : Int))) (pkV b D0) = (getA (List.zipWith (· + ·) m.1 t.1) D0).map D.int := by
            rw [ek]
            exact getK_pk kl kp hl hp
          have st : ∀ u : Int, u = (getA (List.zipWith (· + ·) m.1 t.1) D0).getD 0 → setK (.inl (((pk b m.1 : Nat) : Int) + ((pk b t.1 : Nat) : Int))) (D.int (u + m.2 * t.2)) (pkV b D0) = pkV b (addK (List.zipWith (· + ·) m.1 t.1) (m.2 * t.2) D0) := fun u hu => by
            rw [hu, ek]
            exact setK_pk kl kp nd hl hp
          have hlen : (pkV b D0).length < 1000000 := by rw [List.length_map]; omega
          have hmul : CMulX m.2 t.2 := mul_bits (lA.bits m hm) (lZ.bits t ht) (by decide)
          have fin : ∃ (N' D1 : Sm) (o7 o8 : Sl), N.map (fun t => pkD (pk b t.1, t.2)) = N'.map (fun t => pkD (pk b t.1, t.2)) ∧ (⟨[.fz (smD A), .fz (smD Z), .fz (.int (b : Nat)), .fz (.lst (Z.map fun t => pkD (pk b t.1, t.2))), .ownD p (pkV b (addK (List.zipWith (· + ·) m.1 t.1) (m.2 * t.2) D0)), .fz (.int (pk b m.1 : Nat)), .fz (.int m.2), .fz (.int (pk b t.1 : Nat)), .fz (.int t.2)], 0⟩ : Gm) = ⟨[.fz (smD A), .fz (smD Z), .fz (.int (b : Nat)), .fz (.lst (Z.map fun t => pkD (pk b t.1, t.2))), .ownD p (pkV b D1), .fz (.int (pk b m.1 : Nat)), .fz (.int m.2), o7, o8], 0⟩ ∧
              addAll D1 (N'.map (fun t => (List.zipWith (· + ·) m.1 t.1, m.2 * t.2)) ++ prods M Z) = addAll [] (prods A Z) ∧ (D1.map (·.1)).Nodup ∧ (∀ t ∈ D1, t.1.length = n) ∧ (∀ t ∈ D1, ∀ k ∈ t.1, k < 2 ^ b) ∧ D1.length + N'.length + M.length * Z.length ≤ 144 ∧ ∀ x ∈ N', x ∈ Z := by
            refine ⟨N, addK (List.zipWith (· + ·) m.1 t.1) (m.2 * t.2) D0, _, _, rfl, rfl, h1, addK_nodup nd, fun x hx => ?_, fun x hx => ?_, ?_, fun x hx => hN x (List.mem_cons_of_mem _ hx)⟩
            · rcases addK_mem hx with e | h
              · rw [e]; exact kl
              · exact hl x h
            · rcases addK_mem hx with e | h
              · rw [e]; exact kp
              · exact hp x h
            · have := addK_len (List.zipWith (· + ·) m.1 t.1) (m.2 * t.2) D0
              omega
          refine ⟨⟨_, rfl⟩, fun c hc => ?_, fun hc => ?_⟩
          · cases hg : getA (List.zipWith (· + ·) m.1 t.1) D0 with
            | none =>
              rw [g, hg] at hc
              cases hc
            | some u =>
              rw [g, hg] at hc
              cases hc
              have nx := next2 _ fin
              rw [← st u (by rw [hg]; rfl)] at nx
              exact ⟨hmul, rfl, [], rfl, ⟨p, _, rfl⟩, hlen, nx⟩
          · have hg : getA (List.zipWith (· + ·) m.1 t.1) D0 = Option.none := by
              cases h : getA (List.zipWith (· + ·) m.1 t.1) D0 with
              | none => rfl
              | some u => rw [g, h] at hc; cases hc
            have nx := next2 _ fin
            rw [← st 0 (by rw [hg]; rfl)] at nx
            exact ⟨hmul, rfl, [], rfl, ⟨p, _, rfl⟩, hlen, nx⟩
end
end K28
namespace K28
open PySem PySem.Spec PyProof.Rows L2 EL PH
def FNumber : FD := fun ds R _ => ds = [.dk] ∧ ∀ i : Int, i ≠ 0 → i.natAbs < 2 ^ 38 → R (.int i)
def FSum : FD := fun ds R _ => ∃ (n u : Nat), ds = [.dk, .int (n : Nat), .int (u : Nat)] ∧ n ≤ 4 ∧ u ≤ 12 ∧ ∀ L : Sm, SmOk n L → SmLe u 10 38 L → R (smD L)
def FOdd : FD := fun ds R _ => ∃ (d : D) (m : Nat), ds = [.dk, d] ∧ kd m d = true ∧ ∀ d', kd m d' = true → wx d' ≤ wx d + 300 → dpx d' ≤ dpx d + 2 → R d'
def FBent : Nat → FD
  | 0 => fun _ _ _ => False
  | n + 1 => fun ds R _ => ∃ (d : D) (m : Nat), ds = [.dk, d] ∧ m ≤ 50 ∧ kd m d = true ∧ wx d ≤ 5000 ∧ dpx d ≤ n ∧ ∀ d', kd (m + 1) d' = true → wx d' ≤ 2 * wx d + 400 → dpx d' ≤ dpx d + 2 → R d'
def FBoth : FD := fun ds R _ => ∃ (n : Nat) (A E : Sm), ds = [.dk, .int (n : Nat), smD A, smD E] ∧ n ≤ 4 ∧ SmOk n A ∧ SmOk n E ∧ SmLe 8 10 38 A ∧ SmLe 12 10 38 E ∧ R (.bl true)
theorem setA_mem {k : List Nat} {c : Int} {L : Sm} {p : List Nat × Int} (h : p ∈ setA k c L) : p = (k, c) ∨ p ∈ L := by
  unfold setA at h
  split at h
  · obtain ⟨q, hq, rfl⟩ := List.mem_map.mp h
    by_cases e : q.1 = k
    · rw [if_pos e, e]; exact .inl rfl
    · rw [if_neg e]; exact .inr hq
  · rcases List.mem_append.mp h with h | h
    · exact .inr h
    · exact .inl (List.mem_singleton.mp h)
theorem setA_nodup {k : List Nat} {c : Int} {L : Sm} (h : (L.map (·.1)).Nodup) : ((setA k c L).map (·.1)).Nodup := by
  unfold setA
  split
  · have e : (L.map fun p => if p.1 = k then (p.1, c) else p).map (·.1) = L.map (·.1) := by
      rw [List.map_map]
      refine List.map_congr_left fun p _ => ?_
      show (if p.1 = k then (p.1, c) else p).1 = p.1
      split <;> rfl
    rw [e]
    exact h
  · rename_i q
    rw [List.map_append]
    refine List.nodup_append.mpr ⟨h, by simp, fun a ha b hb e => q ?_⟩
    have hb : b = k := by simpa using hb
    obtain ⟨t, ht, rfl⟩ := List.mem_map.mp ha
    exact List.any_eq_true.mpr ⟨t, ht, decide_eq_true (e.trans hb)⟩
end K28
namespace K28
open PySem PySem.Spec PyProof.Rows L2 EL PH
section
variable {P : Program} {w : World} {K : PySem.W.Frag} {mg : Str → Option Value} {base : Heap}
abbrev GT__law_number (P : Program) (w : World) (base : Heap) (T : Tops K w mg) : Prop := FnOk P w K mg base CX0 2 T.f__law_number T.d__law_number ["_law_deck_here"] (spD K clT Deck 2 1 FNumber)
theorem ok__law_number (T : Tops K w mg) (G__law_draw : GT__law_draw P w base T) : GT__law_number P w base T := by
  refine Fun.ok T.N__law_number.F sc__law_number (spD_len rfl) fun cdv A outer s H vs Q E hr h => bodyD (K := K) h (fun dk G xc DkAt hx hB => (ss_one (s_ret (d_item rfl (d_f (f_lst (a_cons d_int (a_cons (d_neg d_int) (a_cons d_int (a_cons d_int (a_cons d_int (a_cons (d_neg d_int) (a_cons d_int (a_cons d_int (a_cons (d_add rfl (d_pow d_int d_int) (d_callCc (cc := 2) rfl hB (pe_call G__law_draw (hr.mono (by decide)) rfl T.N__law_draw.m T.N__law_draw.F.kp T.N__law_draw.b .nil pass0 (a_cons (d_var 0 (pv 0)) (a_cons (d_pow d_int d_int) a_nil))))) a_nil))))))))))) (d_callCc (cc := 2) rfl hB (pe_call G__law_draw (hr.mono (by decide)) rfl T.N__law_draw.m T.N__law_draw.F.kp T.N__law_draw.b .nil pass0 (a_cons (d_var 0 (pv 0)) (a_cons d_int a_nil)))) (fun _ _ => rfl))))) ?_
  rintro _ R xc - ⟨rfl, hR⟩
  refine ⟨⟨by decide, by decide, by decide⟩, ⟨by decide, by decide, by decide⟩, rfl, by show 0 + 1 ≤ 2; decide, ⟨by decide, by decide⟩, fun u u0 u1 => ⟨by show 9 ≤ 1000000; decide, rfl, by show 0 + 1 + 1 ≤ 2; decide, ⟨by decide, by decide⟩, fun j j0 j1 => ?_⟩⟩
  have u1 : u < 1000000 := u1
  have e11 : (10 : Int) ^ (11 : Int).toNat = 100000000000 := by decide
  obtain ⟨k, rfl⟩ := Int.eq_ofNat_of_zero_le j0
  have : k = 0 ∨ k = 1 ∨ k = 2 ∨ k = 3 ∨ k = 4 ∨ k = 5 ∨ k = 6 ∨ k = 7 ∨ k = 8 := by omega
  rcases this with rfl | rfl | rfl | rfl | rfl | rfl | rfl | rfl | rfl
  · exact ⟨_, at_nat _ 0 _ rfl, hR _ (by decide) (by decide)⟩
  · exact ⟨_, at_nat _ 1 _ rfl, hR _ (by decide) (by decide)⟩
  · exact ⟨_, at_nat _ 2 _ rfl, hR _ (by decide) (by decide)⟩
  · exact ⟨_, at_nat _ 3 _ rfl, hR _ (by decide) (by decide)⟩
  · exact ⟨_, at_nat _ 4 _ rfl, hR _ (by decide) (by decide)⟩
  · exact ⟨_, at_nat _ 5 _ rfl, hR _ (by decide) (by decide)⟩
  · exact ⟨_, at_nat _ 6 _ rfl, hR _ (by decide) (by decide)⟩
  · exact ⟨_, at_nat _ 7 _ rfl, hR _ (by decide) (by decide)⟩
  · refine ⟨_, at_nat _ 8 _ rfl, hR _ (by rw [e11]; omega) ?_⟩
    rw [e11]
    have : (2 : Nat) ^ 38 = 274877906944 := by decide
    omega
end
end K28
namespace K28
open PySem PySem.Spec PyProof.Rows L2 EL PH
section
variable {P : Program} {w : World} {K : PySem.W.Frag} {mg : Str → Option Value} {base : Heap}
abbrev GT__law_sum (P : Program) (w : World) (base : Heap) (T : Tops K w mg) : Prop := FnOk P w K mg base CX0 3 T.f__law_sum T.d__law_sum ["_law_deck_here", "_law_many", "_law_upto"] (spD K clT Deck 121 3 FSum)
theorem ok__law_sum (T : Tops K w mg) (G__law_draw : GT__law_draw P w base T) (G__law_number : GT__law_number P w base T) : GT__law_sum P w base T := by
  refine Fun.ok T.N__law_sum.F sc__law_sum (spD_len rfl) fun cdv A outer s H vs Q E hr h => bodyD (K := K) h (fun dk G xc DkAt hx hB => (ss_cons (s_ownT (i := 3) (ps_set (i := 3) sc__law_sum.nd rfl (Or.inl rfl) pe_dnewT))
    (ss_cons (s_for (vs := [4]) (ps_for PassesOwn.never rfl (i_rng1 (pi_range1 rfl T.z_range (a_cons (d_callCc (cc := 121) rfl hB (pe_call G__law_draw (hr.mono (by decide)) rfl T.N__law_draw.m T.N__law_draw.F.kp T.N__law_draw.b .nil pass0 (a_cons (d_var 0 (pv 0)) (a_cons (d_add rfl (d_var 2 (pv 2)) d_int) a_nil)))) a_nil))) (g_name (vs := [4]) (pg_name (i := 4) sc__law_sum.nd rfl (Or.inl rfl)))
    (ss_cons (s_set (i := 5) (ps_set (i := 5) sc__law_sum.nd rfl (Or.inl rfl) (d_cb (ok_tupOf rfl) (pe_callTy call_tuple_of (by rfl) T.z_tuple (by decide +kernel) (a_cons (d_f (f_lc (pe_lc (own := [("_law_j", 6)]) rfl sc__law_sum.nd (i_rng1 (pi_range1 rfl T.z_range (a_cons (d_var 1 (pv 1)) a_nil))) (blkOk_by (own := [("_law_j", 6)]) (N := N_sc__law_sum) (sc := defScope s__law_sum) (by decide +kernel)) (fun _ _ _ _ _ => gx (vs := [6]) fun _ => (g_name (vs := [6]) (pg_name (i := 6) sc__law_sum.nd rfl (Or.inl rfl)))) (fun _ _ _ _ _ => bx_yes) (fun _ _ _ _ _ => dx fun h0 => (d_callCc (cc := 121) rfl (hB.withH h0) (pe_call G__law_draw (hr.mono (by decide)) rfl T.N__law_draw.m T.N__law_draw.F.kp T.N__law_draw.b .nil pass0 (a_cons (d_var 0 (pv 0)) (a_cons (d_item rfl (d_f (f_lst (a_cons d_int (a_cons d_int a_nil)))) (d_callCc (cc := 121) rfl (hB.withH h0) (pe_call G__law_draw (hr.mono (by decide)) rfl T.N__law_draw.m T.N__law_draw.F.kp T.N__law_draw.b .nil pass0 (a_cons (d_var 0 (pv 0)) (a_cons d_int a_nil)))) (fun _ _ => rfl)) a_nil)))))))) a_nil)))))
    (ss_one (s_dsetT (i := 3) (by intro z; cases z) (ps_dput (hu_of hr) (pv 3) (d_var 5 (pv 5)) (d_callCc (cc := 121) rfl hB (pe_call G__law_number (hr.mono (by decide)) rfl T.N__law_number.m T.N__law_number.F.kp T.N__law_number.b .nil pass0 (a_cons (d_var 0 (pv 0)) a_nil))) rfl))))))
    (ss_one (s_ret (d_cb (ok_tupOf rfl) (pe_callTy call_tuple_of (by rfl) T.z_tuple (by decide +kernel) (a_cons (d_f (f_sortIt (pe_callB (cr_sortIt rfl hr.units) (by rfl) T.z_sorted (by decide +kernel) (pa_cons (pe_bm0 PySem.F.plainAttrs_dict PySem.F.slot_dict_items PySem.F.type_dict_items DX.mt_itemsT (d_var 3 (pv 3))) pa_nil)))) a_nil)))))))) ?_
  rintro _ R xc - ⟨n, u, rfl, hn, hu, hR⟩
  intro p
  refine ⟨rfl, by show 0 + 1 ≤ 121; decide, ⟨by omega, by omega⟩, fun c c0 c1 => ⟨⟨by omega, by omega⟩, ?_⟩⟩
  obtain ⟨c, rfl⟩ := Int.eq_ofNat_of_zero_le c0
  have c1 : c ≤ u := by omega
  show forD _ _ _ (rngD 0 ((c : Nat) : Int).toNat) _
  rw [Int.toNat_natCast]
  refine for_rng (fun k γ => ∃ (D0 : Sm) (o4 o5 o6 : Sl) (ct : Nat), ct ≤ 1 + 10 * k ∧ D0.length ≤ k ∧ (D0.map (·.1)).Nodup ∧ (∀ t ∈ D0, t.1.length = n ∧ (∀ k ∈ t.1, k ≤ 10) ∧ t.2 ≠ 0 ∧ t.2.natAbs < 2 ^ 38) ∧
      γ = ⟨[.fz .dk, .fz (.int (n : Nat)), .fz (.int (u : Nat)), .ownT p D0, o4, o5, o6], ct⟩) ?_ ?_ _ ⟨[], _, _, _, _, Nat.le_refl _, Nat.le_refl _, List.nodup_nil, (fun _ h => by cases h), rfl⟩
  · rintro γ ⟨D0, o4, o5, o6, ct, -, hl, nd, hall, rfl⟩
    intro ts pm hs
    have nt : (ts.map (·.1)).Nodup := (pm.map (fun t : List Nat × Int => t.1)).nodup_iff.mpr nd
    refine hR ts ⟨fun t ht => (hall t (pm.mem_iff.mp ht)).1, List.pairwise_map.mpr (rise_of (hs.imp fun {a b} h z => h (.inl z)) nt), fun t ht => (hall t (pm.mem_iff.mp ht)).2.2.1⟩ ⟨by rw [pm.length_eq]; omega, fun t ht => (hall t (pm.mem_iff.mp ht)).2.1, fun t ht => (hall t (pm.mem_iff.mp ht)).2.2.2⟩
  · rintro k ds γ hk ⟨D0, o4, o5, o6, ct, hct, hl, nd, hall, rfl⟩ next
    refine ⟨⟨by omega, by omega⟩, ?_⟩
    show (rngD 0 ((n : Nat) : Int).toNat).length ≤ 1000000 ∧ lcD _ _ _ _ (rngD 0 ((n : Nat) : Int).toNat) [] _ _
    rw [Int.toNat_natCast]
    have hrl : (rngD 0 n).length = n := by unfold rngD; rw [List.length_map, List.length_range]
    refine ⟨by rw [hrl]; omega, ?_⟩
    refine lc_inv (fun ds acc γ => ∃ (ks : List Nat) (x6 : Sl), acc = ks.map (fun k : Nat => D.int (k : Nat)) ∧ (∀ k ∈ ks, k ≤ 10) ∧ ds.length + ks.length = n ∧ γ = ⟨[.fz .dk, .fz (.int (n : Nat)), .fz (.int (u : Nat)), .ownT p D0, .fz (.int (0 + (k : Nat))), o5, x6], ct + 2 * ks.length⟩) ?_ ?_ _ _ _
      ⟨[], _, rfl, (fun _ h => by cases h), by rw [hrl]; rfl, rfl⟩
    · rintro acc γ ⟨ks, x6, rfl, hks, hkl, rfl⟩
      have hkl : ks.length = n := by rw [List.length_nil] at hkl; omega
      refine ⟨rfl, by show ct + 2 * ks.length + 2 ≤ 121; omega, rfl, fun i i0 ib => ⟨⟨p, D0, rfl⟩, ks, i, rfl, rfl, by omega, next _ ⟨setA ks i D0, _, _, _, ct + 2 * ks.length + 2, by omega, ?_, setA_nodup nd, fun t ht => ?_, rfl⟩⟩⟩
      · have := setA_le (k := ks) (c := i) D0
        omega
      · rcases setA_mem ht with rfl | ht
        · exact ⟨hkl, hks, i0, ib⟩
        · exact hall t ht
    · rintro d ds acc γ ⟨ks, x6, rfl, hks, hkl, rfl⟩ next1
      rw [List.length_cons] at hkl
      refine ⟨fun _ => ⟨by show 2 ≤ 1000000; decide, rfl, by show ct + 2 * ks.length + 1 ≤ 121; omega, ⟨by decide, by decide⟩, fun j j0 j1 => ?_⟩, fun z => absurd trivial z⟩
      have j1 : j < 2 := j1
      have j01 : j = 0 ∨ j = 1 := by omega
      rcases j01 with rfl | rfl
      · refine ⟨_, at_0, rfl, by show ct + 2 * ks.length + 1 + 1 ≤ 121; omega, ⟨by decide, by decide⟩, fun v v0 v1 => ?_⟩
        have v1 : v < 3 := v1
        obtain ⟨v, rfl⟩ := Int.eq_ofNat_of_zero_le v0
        refine next1 _ _ ⟨ks ++ [v], _, by rw [List.map_append]; rfl, fun x hx => ?_, by rw [List.length_append]; show ds.length + (ks.length + 1) = n; omega, by rw [List.length_append]; rfl⟩
        rcases List.mem_append.mp hx with hx | hx
        · exact hks x hx
        · cases List.mem_singleton.mp hx
          omega
      · refine ⟨_, at_1, rfl, by show ct + 2 * ks.length + 1 + 1 ≤ 121; omega, ⟨by decide, by decide⟩, fun v v0 v1 => ?_⟩
        have v1 : v < 11 := v1
        obtain ⟨v, rfl⟩ := Int.eq_ofNat_of_zero_le v0
        refine next1 _ _ ⟨ks ++ [v], _, by rw [List.map_append]; rfl, fun x hx => ?_, by rw [List.length_append]; show ds.length + (ks.length + 1) = n; omega, by rw [List.length_append]; rfl⟩
        rcases List.mem_append.mp hx with hx | hx
        · exact hks x hx
        · cases List.mem_singleton.mp hx
          omega
end
end K28
namespace K28
open PySem PySem.Spec PyProof.Rows L2 EL PH
section
variable {P : Program} {w : World} {K : PySem.W.Frag} {mg : Str → Option Value} {base : Heap}
abbrev GT__law_odd (P : Program) (w : World) (base : Heap) (T : Tops K w mg) : Prop := FnOk P w K mg base CX0 2 T.f__law_odd T.d__law_odd ["_law_deck_here", "_law_part"] (spD K clT Deck 1 2 FOdd)
theorem ok__law_odd (T : Tops K w mg) (G__law_draw : GT__law_draw P w base T) : GT__law_odd P w base T := by
  refine Fun.ok T.N__law_odd.F sc__law_odd (spD_len rfl) fun cdv A outer s H vs Q E hr h => bodyD (K := K) h (fun dk G xc DkAt hx hB => (ss_cons (s_set (i := 2) (ps_set (i := 2) sc__law_odd.nd rfl (Or.inl rfl) (d_f (f_lst (a_cons d_non (a_cons d_bl (a_cons d_bl (a_cons d_int (a_cons (d_neg d_int) (a_cons d_int (a_cons (d_pow d_int d_int) (a_cons d_str (a_cons d_str (a_cons (d_tup a_nil) (a_cons (d_f (f_lst a_nil)) (a_cons (d_fd (f_dnew pe_dnewK)) (a_cons (d_f (f_lst (a_cons (d_var 1 (pv 1)) a_nil))) (a_cons (d_tup (a_cons (d_var 1 (pv 1)) a_nil)) (a_cons (d_tup (a_cons (d_tup (a_cons d_int a_nil)) (a_cons d_int a_nil))) (a_cons (d_tup (a_cons d_int (a_cons d_int a_nil))) a_nil))))))))))))))))))))
    (ss_one (s_ret (d_item rfl (d_var 2 (pv 2)) (d_callCc (cc := 1) rfl hB (pe_call G__law_draw (hr.mono (by decide)) rfl T.N__law_draw.m T.N__law_draw.F.kp T.N__law_draw.b .nil pass0 (a_cons (d_var 0 (pv 0)) (a_cons d_int a_nil)))) (fun _ _ => rfl)))))) ?_
  rintro _ R xc - ⟨d, m, rfl, hk, hR⟩
  refine ⟨⟨by decide, by decide, by decide⟩, by show 0 ≤ 1000000; decide, by show 0 ≤ 1000000; decide, by show 1 ≤ 1000000; decide, by show 1 ≤ 1000000; decide, by show 1 ≤ 1000000; decide, by show 2 ≤ 1000000; decide, by show 2 ≤ 1000000; decide, by show 16 ≤ 1000000; decide, rfl, by show 0 + 1 ≤ 1; decide, ⟨by decide, by decide⟩, fun j j0 j1 => ?_⟩
  have e39 : (10 : Int) ^ (39 : Int).toNat = 10 ^ 39 := rfl
  have ki : ∀ i : Int, i.natAbs ≤ 10 ^ 39 → R (.int i) := fun i hi => hR _ (decide_eq_true (by omega)) (by have := wx_int (m := 0) (by decide) hi; omega) (Nat.zero_le _)
  have w1 : ∀ d, wxs [d] = wx d + 1 := fun d => by rw [wxs_cons]; rfl
  have p1 : ∀ d, dpxs [d] = dpx d := fun d => by rw [dpxs_cons]; exact Nat.max_eq_left (Nat.zero_le _)
  have k1 : kds m [d] = true := by show (kd m d && true) = true; rw [hk]; rfl
  have i0 : kd m (.int 0) = true := by
    show decide ((0 : Int).natAbs ≤ 10 ^ 39 + m) = true
    exact decide_eq_true (Nat.zero_le _)
  have i1 : kd m (.int 1) = true := by
    show decide ((1 : Int).natAbs ≤ 10 ^ 39 + m) = true
    have : (1 : Nat) ≤ 10 ^ 39 := by decide
    exact decide_eq_true (by show 1 ≤ _; omega)
  have wi : ∀ i : Int, i.natAbs ≤ 10 ^ 39 → wx (.int i) ≤ 201 := fun i hi => wx_int (m := 0) (by decide) hi
  have w0 : wx (.int 0) ≤ 9 := by
    unfold wx
    simp only [pyX, PyData.weight]
    decide
  have w1' : wx (.int 1) ≤ 9 := by
    unfold wx
    simp only [pyX, PyData.weight]
    decide
  have w00 : wx (.dct []) = 0 := by
    unfold wx
    simp [pyX, pyXk, PyData.weight, PyData.weightKv]
  have d00 : dpx (.dct []) = 1 := by
    unfold dpx
    simp [pyX, pyXk, PyData.depth, PyData.depthKv]
  obtain ⟨k, rfl⟩ := Int.eq_ofNat_of_zero_le j0
  have : k = 0 ∨ k = 1 ∨ k = 2 ∨ k = 3 ∨ k = 4 ∨ k = 5 ∨ k = 6 ∨ k = 7 ∨ k = 8 ∨ k = 9 ∨ k = 10 ∨ k = 11 ∨ k = 12 ∨ k = 13 ∨ k = 14 ∨ k = 15 := by omega
  rcases this with rfl | rfl | rfl | rfl | rfl | rfl | rfl | rfl | rfl | rfl | rfl | rfl | rfl | rfl | rfl | rfl
  · exact ⟨_, at_nat _ 0 _ rfl, hR _ rfl (by show 0 ≤ _; omega) (Nat.zero_le _)⟩
  · exact ⟨_, at_nat _ 1 _ rfl, hR _ rfl (by show 0 ≤ _; omega) (Nat.zero_le _)⟩
  · exact ⟨_, at_nat _ 2 _ rfl, hR _ rfl (by show 0 ≤ _; omega) (Nat.zero_le _)⟩
  · exact ⟨_, at_nat _ 3 _ rfl, ki _ (by decide)⟩
  · exact ⟨_, at_nat _ 4 _ rfl, ki _ (by decide)⟩
  · exact ⟨_, at_nat _ 5 _ rfl, ki _ (by decide)⟩
  · exact ⟨_, at_nat _ 6 _ rfl, ki _ (by decide)⟩
  · exact ⟨_, at_nat _ 7 _ rfl, hR _ rfl (by rw [wx_str]; show 0 ≤ _; omega) (Nat.zero_le _)⟩
  · exact ⟨_, at_nat _ 8 _ rfl, hR _ rfl (by rw [wx_str]; show 1 ≤ _; omega) (Nat.zero_le _)⟩
  · exact ⟨_, at_nat _ 9 _ rfl, hR _ rfl (by rw [wx_tup]; exact Nat.zero_le _) (by rw [dpx_tup]; show 0 + 1 ≤ _; omega)⟩
  · exact ⟨_, at_nat _ 10 _ rfl, hR _ rfl (by rw [wx_lst]; exact Nat.zero_le _) (by rw [dpx_lst]; show 0 + 1 ≤ _; omega)⟩
  · exact ⟨_, at_nat _ 11 _ rfl, hR _ rfl (by rw [w00]; omega) (by rw [d00]; omega)⟩
  · exact ⟨_, at_nat _ 12 _ rfl, hR _ k1 (by rw [wx_lst, w1]; omega) (by rw [dpx_lst, p1]; omega)⟩
  · exact ⟨_, at_nat _ 13 _ rfl, hR _ k1 (by rw [wx_tup, w1]; omega) (by rw [dpx_tup, p1]; omega)⟩
  · refine ⟨_, at_nat _ 14 _ rfl, hR _ ?_ ?_ ?_⟩
    · show ((kd m (.int 0) && true) && (kd m (.int 1) && true)) = true
      rw [i0, i1]; rfl
    · rw [wx_tup, wxs_cons, wxs_cons, wx_tup, w1]
      rw [show wxs ([] : List D) = 0 from rfl]
      omega
    · rw [dpx_tup, dpxs_cons, p1, dpx_tup, p1]
      show max (0 + 1) 0 + 1 ≤ _
      omega
  · refine ⟨_, at_nat _ 15 _ rfl, hR _ ?_ ?_ ?_⟩
    · show (kd m (.int 1) && (kd m (.int 1) && true)) = true
      rw [i1]; rfl
    · rw [wx_tup, wxs_cons, w1]
      omega
    · rw [dpx_tup, dpxs_cons, p1]
      show max 0 0 + 1 ≤ _
      omega
end
end K28
namespace K28
open PySem PySem.Spec PyProof.Rows L2 EL PH
section
variable {P : Program} {w : World} {K : PySem.W.Frag} {mg : Str → Option Value} {base : Heap}
abbrev GTr__law_bent (P : Program) (w : World) (base : Heap) (T : Tops K w mg) (n : Nat) : Prop := PH.FnG P w K mg base CX0 (3 + n) T.f__law_bent T.d__law_bent ["_law_deck_here", "_law_thing"] (spD K clT Deck (4 * n) 2 (FBent n))
abbrev GT__law_bent (P : Program) (w : World) (base : Heap) (T : Tops K w mg) : Prop := PH.FnG P w K mg base CX0 11 T.f__law_bent T.d__law_bent ["_law_deck_here", "_law_thing"] (spD K clT Deck 32 2 (FBent 8))
theorem okr__law_bent (T : Tops K w mg) (G__law_draw : GT__law_draw P w base T) (G__law_odd : GT__law_odd P w base T) (n : Nat) (G__law_bent : GTr__law_bent P w base T n) : GTr__law_bent P w base T (n + 1) := by
  refine Fun.okG T.N__law_bent.F sc__law_bent (spD_len rfl) fun cdv A outer s H vs Q E hg hr h => bodyD (K := K) h (fun dk G xc DkAt hx hB => (ss_cons (s_set (i := 2) (ps_set (i := 2) sc__law_bent.nd rfl (Or.inl rfl) (d_callCc (cc := (4 * (n + 1))) rfl hB (pe_call G__law_draw (hr.mono (Nat.le_trans (show 1 ≤ 3 by decide) (Nat.le_add_right 3 n))) rfl T.N__law_draw.m T.N__law_draw.F.kp T.N__law_draw.b .nil pass0 (a_cons (d_var 0 (pv 0)) (a_cons d_int a_nil))))))
    (ss_cons (s_if (PW.pt (bw_and (b_val (d_cb (ok_isi rfl kt_tuple) (pe_callB (call_isiB (T := "tuple")) (by rfl) T.z_isinstance (by decide +kernel) (a_cons (d_var 1 (pv 1)) (a_cons (d_opq (pe_bltn (by rfl) T.z_tuple (by decide +kernel) (show RelV (.ty "tuple") (.type "tuple") from rfl))) a_nil))))) (bw_and (b_cmp (op_neT0 hr) (ok_neT0 rfl) (d_var 1 (pv 1)) (d_tup a_nil) (nomark _)) (bw_and1 (b_cmp op_ltP ok_ltP (d_var 2 (pv 2)) d_int (nomark _)))))) (ss_cons (s_set (i := 3) (ps_set (i := 3) sc__law_bent.nd rfl (Or.inl rfl) (d_callCc (cc := (4 * (n + 1))) rfl hB (pe_call G__law_draw (hr.mono (Nat.le_trans (show 1 ≤ 3 by decide) (Nat.le_add_right 3 n))) rfl T.N__law_draw.m T.N__law_draw.F.kp T.N__law_draw.b .nil pass0 (a_cons (d_var 0 (pv 0)) (a_cons (d_cb (ok_len rfl) (pe_callB call_lenD (by rfl) T.z_len (by decide +kernel) (a_cons (d_var 1 (pv 1)) a_nil))) a_nil))))))
    (ss_cons (s_if (b_cmp op_gt ok_gtP (d_var 2 (pv 2)) d_int (nomark _)) (ss_one (s_ret (d_add rfl (d_add rfl (d_sl rfl (pe_slice sl_D (d_var 1 (pv 1)) o_none (o_some (d_var 3 (pv 3))))) (d_tup (a_cons (d_callCc (cc := (4 * (n + 1))) rfl hB (pe_callG G__law_bent hg (hr.mono (Nat.le_refl _)) rfl T.N__law_bent.m T.N__law_bent.F.kp T.N__law_bent.b (a_cons (d_var 0 (pv 0)) (a_cons (d_item rfl (d_var 1 (pv 1)) (d_var 3 (pv 3)) (fun _ _ => rfl)) a_nil)))) a_nil))) (d_sl rfl (pe_slice sl_D (d_var 1 (pv 1)) (o_some (d_add rfl (d_var 3 (pv 3)) d_int)) o_none))))) ss_nil)
    (ss_cons (s_own (i := 4) (ps_set (i := 4) sc__law_bent.nd rfl (Or.inl rfl) (f_lst (a_cons (d_add rfl (d_sl rfl (pe_slice sl_D (d_var 1 (pv 1)) o_none (o_some (d_var 3 (pv 3))))) (d_sl rfl (pe_slice sl_D (d_var 1 (pv 1)) (o_some (d_add rfl (d_var 3 (pv 3)) d_int)) o_none))) (a_cons (d_add rfl (d_sl rfl (pe_slice sl_D (d_var 1 (pv 1)) o_none (o_some (d_add rfl (d_var 3 (pv 3)) d_int)))) (d_sl rfl (pe_slice sl_D (d_var 1 (pv 1)) (o_some (d_var 3 (pv 3))) o_none))) (a_cons (d_revT (pe_revT (d_var 1 (pv 1)))) (a_cons (d_f (f_listOf rfl (pe_callTy call_list_of (by rfl) T.z_list (by decide +kernel) (a_cons (d_var 1 (pv 1)) a_nil)))) a_nil)))))))
    (ss_cons (s_expr (ps_expr (d_mut ok_appM (pe_bm PySem.F.plainAttrs_list PySem.F.slot_list_append PySem.F.type_list_append mt_append (pv 4) (a_cons (d_add rfl (d_add rfl (d_sl rfl (pe_slice sl_D (d_var 1 (pv 1)) o_none (o_some (d_var 3 (pv 3))))) (d_revT (pe_revT (d_sl rfl (pe_slice sl_D (d_var 1 (pv 1)) (o_some (d_var 3 (pv 3))) (o_some (d_add rfl (d_var 3 (pv 3)) d_int))))))) (d_sl rfl (pe_slice sl_D (d_var 1 (pv 1)) (o_some (d_add rfl (d_var 3 (pv 3)) d_int)) o_none))) a_nil)))))
    (ss_one (s_ret (d_item rfl (d_var 4 (pv 4)) (d_var 2 (pv 2)) (fun _ _ => rfl)))))))) ss_nil)
    (ss_cons (s_if (PW.pt (bw_and (b_val (d_cb (ok_isi rfl kt_int) (pe_callB (call_isiB (T := "int")) (by rfl) T.z_isinstance (by decide +kernel) (a_cons (d_var 1 (pv 1)) (a_cons (d_opq (pe_bltn (by rfl) T.z_int (by decide +kernel) (show RelV (.ty "int") (.type "int") from rfl))) a_nil))))) (bw_and1 (b_cmp op_ltP ok_ltP (d_var 2 (pv 2)) d_int (nomark _))))) (ss_one (s_ret (d_item rfl (d_f (f_lst (a_cons (d_addB (d_var 1 (pv 1)) d_int) (a_cons (d_subB (d_var 1 (pv 1)) d_int) (a_cons (d_subB d_int (d_var 1 (pv 1))) (a_cons (d_cmp (op_eqPP hr.units) (ok_eqP rfl) (d_var 1 (pv 1)) d_int (nomark _)) (a_cons d_int (a_cons (d_cb (ok_strX rfl) (pe_callTy (cr_strX hg hr) (by rfl) T.z_str (by decide +kernel) (a_cons (d_var 1 (pv 1)) a_nil))) a_nil)))))))) (d_var 2 (pv 2)) (fun _ _ => rfl)))) ss_nil)
    (ss_one (s_ret (d_callCc (cc := (4 * (n + 1))) rfl hB (pe_call G__law_odd (hr.mono (Nat.le_trans (show 2 ≤ 3 by decide) (Nat.le_add_right 3 n))) rfl T.N__law_odd.m T.N__law_odd.F.kp T.N__law_odd.b .nil pass0 (a_cons (d_var 0 (pv 0)) (a_cons (d_var 1 (pv 1)) a_nil)))))))))) ?_
  rintro _ R xc - ⟨d, m, rfl, hm, hk, hw, hd, hR⟩
  have hk1 := kd_mono (Nat.le_succ m) d hk
  have low : ∀ d', kd m d' = true → wx d' ≤ wx d + 300 → dpx d' ≤ dpx d + 2 → R d' := fun d' a1 a2 a3 => hR d' (kd_mono (Nat.le_succ _) d' a1) (by omega) a3
  refine ⟨rfl, by show 0 + 1 ≤ 4 * (n + 1); omega, ⟨by decide, by decide⟩, fun way w0 w1 => ?_⟩
  have w1 : way < 12 := w1
  have c2 : 0 + 1 + 1 ≤ 4 * (n + 1) := by omega
  cases d with
  | obj _ _ => cases hk
  | dk => cases hk
  | opq _ => cases hk
  | dcT _ => cases hk
  | int i =>
    have hi := of_decide_eq_true (show decide (i.natAbs ≤ 10 ^ 39 + m) = true from hk)
    refine ⟨_, rfl, fun h => absurd h (by decide), fun _ => ⟨fun h => h.elim, fun _ => ⟨_, rfl, fun _ => ⟨fun hp => ?_, fun hp => ⟨rfl, c2, _, m, rfl, hk, low⟩⟩, fun z => (z (by decide)).elim⟩⟩⟩
    have hp : way < 6 := hp
    have ki : ∀ j : Int, j.natAbs ≤ 10 ^ 39 + (m + 1) → R (.int j) := fun j hj => hR _ (decide_eq_true hj) (by have := wx_int (m := m + 1) (by omega) hj; omega) (by show 0 ≤ _; omega)
    refine fun b hb => ⟨showX_kd (m := m) (by omega) hk (by omega) (by show 0 ≤ _; omega), by show 6 ≤ 1000000; decide, ?_⟩
    obtain ⟨k, rfl⟩ := Int.eq_ofNat_of_zero_le w0
    have : k = 0 ∨ k = 1 ∨ k = 2 ∨ k = 3 ∨ k = 4 ∨ k = 5 := by omega
    rcases this with rfl | rfl | rfl | rfl | rfl | rfl
    · exact ⟨_, at_nat _ 0 _ rfl, ki _ (by omega)⟩
    · exact ⟨_, at_nat _ 1 _ rfl, ki _ (by omega)⟩
    · exact ⟨_, at_nat _ 2 _ rfl, ki _ (by omega)⟩
    · exact ⟨_, at_nat _ 3 _ rfl, hR _ rfl (by show 0 ≤ _; omega) (by show 0 ≤ _; omega)⟩
    · exact ⟨_, at_nat _ 4 _ rfl, ki _ (Nat.zero_le _)⟩
    · refine ⟨_, at_nat _ 5 _ rfl, ?_⟩
      have hs : (shX (.int i)).length ≤ 46 ∧ ∀ c ∈ (shX (.int i)).cps.toList, c < 128 := by
        unfold shX
        simp only [pyX, PyData.shown]
        refine ⟨?_, str_low i⟩
        have := PySem.int_text_length_le10 (k := 45) (by decide) (int_small (by omega) hi)
        rw [PySem.ofString_length]
        omega
      exact hR (.str (shX (.int i))) (List.all_eq_true.mpr fun c hc => decide_eq_true (hs.2 c hc)) (by rw [wx_str]; have := hs.1; omega) (by show 0 ≤ _; omega)
  | bl k =>
    refine ⟨_, rfl, fun h => absurd h (by decide), fun _ => ⟨fun h => h.elim, fun _ => ⟨_, rfl, fun _ => ⟨fun hp => ?_, fun hp => ⟨rfl, c2, _, m, rfl, hk, low⟩⟩, fun z => (z (by decide)).elim⟩⟩⟩
    have hp : way < 6 := hp
    have ki : ∀ j : Int, j.natAbs ≤ 10 ^ 39 + (m + 1) → R (.int j) := fun j hj => hR _ (decide_eq_true hj) (by have := wx_int (m := m + 1) (by omega) hj; omega) (by show 0 ≤ _; omega)
    have e39 : (1000 : Nat) ≤ 10 ^ 39 := by decide
    have b01 : bInt k = 0 ∨ bInt k = 1 := by cases k <;> simp [bInt]
    refine ⟨⟨okD_tm (d := .bl k) rfl (Nat.zero_le _), okD_tm (d := .int 1) rfl (Nat.zero_le _)⟩, fun b hb => ⟨showX_kd (m := m) (by omega) hk (by omega) (by show 0 ≤ _; omega), by show 6 ≤ 1000000; decide, ?_⟩⟩
    obtain ⟨j, rfl⟩ := Int.eq_ofNat_of_zero_le w0
    have : j = 0 ∨ j = 1 ∨ j = 2 ∨ j = 3 ∨ j = 4 ∨ j = 5 := by omega
    rcases this with rfl | rfl | rfl | rfl | rfl | rfl
    · exact ⟨_, at_nat _ 0 _ rfl, ki _ (by omega)⟩
    · exact ⟨_, at_nat _ 1 _ rfl, ki _ (by omega)⟩
    · exact ⟨_, at_nat _ 2 _ rfl, ki _ (by omega)⟩
    · exact ⟨_, at_nat _ 3 _ rfl, hR _ rfl (by show 0 ≤ _; omega) (by show 0 ≤ _; omega)⟩
    · exact ⟨_, at_nat _ 4 _ rfl, ki _ (Nat.zero_le _)⟩
    · refine ⟨_, at_nat _ 5 _ rfl, ?_⟩
      have hs : (shX (.bl k)).length ≤ 46 ∧ ∀ c ∈ (shX (.bl k)).cps.toList, c < 128 := by
        unfold shX
        simp only [pyX, PyData.shown]
        cases k <;> exact ⟨by decide, by decide⟩
      exact hR (.str (shX (.bl k))) (List.all_eq_true.mpr fun c hc => decide_eq_true (hs.2 c hc)) (by rw [wx_str]; have := hs.1; omega) (by show 0 ≤ _; omega)
  | tup xs =>
    rcases xs with _ | ⟨x0, xs0⟩
    · exact ⟨_, rfl, fun _ => ⟨by show 0 ≤ 1000000; decide, fun h => absurd rfl h, fun _ => ⟨fun h => h.elim, fun _ => ⟨_, rfl, fun h => absurd h (by decide), fun _ => ⟨fun h => h.elim, fun _ => ⟨rfl, c2, _, m, rfl, hk, low⟩⟩⟩⟩⟩, fun z => (z (by decide)).elim⟩
    refine ⟨_, rfl, fun _ => ⟨by show 0 ≤ 1000000; decide, fun _ => ⟨fun hp => ?_, fun hp => ⟨_, rfl, fun h => absurd h (by decide), fun _ => ⟨fun h => h.elim, fun _ => ⟨rfl, c2, _, m, rfl, hk, low⟩⟩⟩⟩, fun h => absurd (List.cons_ne_nil _ _) h⟩, fun z => (z (by decide)).elim⟩
    generalize hxs : x0 :: xs0 = xs at *
    have hpos : 0 < xs.length := by rw [← hxs, List.length_cons]; omega
    rw [wx_tup] at hw
    rw [dpx_tup] at hd
    have hkk := kds_all.mp (show kds m xs = true from hk)
    have hkk1 := kds_all.mp (show kds (m + 1) xs = true from hk1)
    have hlen := Nat.le_trans (wxs_len xs) hw
    have out : ∀ ys, (∀ y ∈ ys, kd (m + 1) y = true) → wxs ys ≤ 2 * wxs xs + 400 → dpxs ys ≤ dpxs xs + 2 → R (.tup ys) := fun ys b1 b2 b3 => hR _ (kds_all.mpr b1) (by rw [wx_tup, wx_tup]; exact b2) (by rw [dpx_tup, dpx_tup]; omega)
    refine ⟨rfl, c2, ⟨by show (0 : Int) < (xs.length : Int); omega, by show (xs.length : Int) < _; omega⟩, fun a' a0 a1 => ?_⟩
    obtain ⟨a, rfl⟩ := Int.eq_ofNat_of_zero_le a0
    have a1 : (a : Int) < (xs.length : Int) := a1
    have t1 : EL.cutD xs none (some (a : Int)) = xs.take a := cutD_to a
    have t2 : EL.cutD xs (some ((a : Int) + 1)) none = xs.drop (a + 1) := by rw [show ((a : Int) + 1) = ((a + 1 : Nat) : Int) by omega]; exact cutD_from (a + 1)
    have t3 : EL.cutD xs none (some ((a : Int) + 1)) = xs.take (a + 1) := by rw [show ((a : Int) + 1) = ((a + 1 : Nat) : Int) by omega]; exact cutD_to (a + 1)
    have t4 : EL.cutD xs (some (a : Int)) none = xs.drop a := cutD_from a
    have t5 : EL.cutD xs (some (a : Int)) (some ((a : Int) + 2)) = (xs.drop a).take 2 := by
      rw [show ((a : Int) + 2) = ((a + 2 : Nat) : Int) by omega, cutD_at]
      rw [show a + 2 - a = 2 by omega]
    have t6 : EL.cutD xs (some ((a : Int) + 2)) none = xs.drop (a + 2) := by rw [show ((a : Int) + 2) = ((a + 2 : Nat) : Int) by omega]; exact cutD_from (a + 2)
    have mt : ∀ {k : Nat} {y : D}, y ∈ xs.take k → y ∈ xs := fun h => List.mem_of_mem_take h
    have md : ∀ {k : Nat} {y : D}, y ∈ xs.drop k → y ∈ xs := fun h => List.mem_of_mem_drop h
    obtain ⟨x, hx, hxm⟩ := ix_get (xs := xs) (i := a) (by omega)
    have hsp : wxs xs = wxs (xs.take a) + (wx x + 1 + wxs (xs.drop (a + 1))) := by
      have e : xs.drop a = x :: xs.drop (a + 1) := by
        have hlt := (List.getElem?_eq_some_iff.mp hx).1
        rw [List.drop_eq_getElem_cons hlt, (List.getElem?_eq_some_iff.mp hx).2]
      rw [← wxs_td xs a, e, wxs_cons]
    have lt1 : (xs.take a).length = a := by rw [List.length_take]; omega
    have ld1 : (xs.drop (a + 1)).length = xs.length - (a + 1) := List.length_drop
    refine ⟨fun hp => ?_, fun hp => ?_⟩
    · have hd1 : dpxs xs + 1 ≤ n := hd
      obtain ⟨n', rfl⟩ : ∃ n', n = n' + 1 := ⟨n - 1, by omega⟩
      have hdx := dpxs_le.mp (Nat.le_refl (dpxs xs)) x hxm
      have hwx := wxs_mem hxm
      refine ⟨x, at_nat _ a _ hx, rfl, by show 0 + 1 + 1 + 4 * (n' + 1) ≤ 4 * (n' + 1 + 1); omega, x, m, rfl, hm, hkk x hxm, by omega, by omega, fun d' b1 b2 b3 => ⟨by show 1 ≤ 1000000; decide, by show (EL.cutD xs none (some (a : Int))).length + 1 ≤ 1000000; rw [t1, lt1]; omega, by show (EL.cutD xs none (some (a : Int)) ++ [d']).length + (EL.cutD xs (some ((a : Int) + 1)) none).length ≤ 1000000; rw [t1, t2, List.length_append, lt1, ld1]; show a + 1 + _ ≤ _; omega, ?_⟩⟩
      show R (.tup (EL.cutD xs none (some (a : Int)) ++ [d'] ++ EL.cutD xs (some ((a : Int) + 1)) none))
      rw [t1, t2]
      refine out _ (fun z hz => ?_) (by rw [wxs_app, wxs_app, wxs_cons]; show _ + (wx d' + 1 + 0) + _ ≤ _; omega) (dpxs_le.mpr fun z hz => ?_)
      · rcases List.mem_append.mp hz with hz | hz
        · rcases List.mem_append.mp hz with hz | hz
          · exact hkk1 z (mt hz)
          · cases List.mem_singleton.mp hz; exact b1
        · exact hkk1 z (md hz)
      · rcases List.mem_append.mp hz with hz | hz
        · rcases List.mem_append.mp hz with hz | hz
          · have := dpxs_le.mp (Nat.le_refl (dpxs xs)) z (mt hz); omega
          · cases List.mem_singleton.mp hz; omega
        · have := dpxs_le.mp (Nat.le_refl (dpxs xs)) z (md hz); omega
    · have hp : ¬ way > 4 := hp
      have h1 := wxs_take xs (a + 1)
      have h2 := wxs_drop xs a
      have h3 := wxs_td xs a
      have h4 := wxs_take (xs.drop a) 2
      have h5 := wxs_drop xs (a + 2)
      have l5 : ((xs.drop a).take 2).length = min 2 (xs.length - a) := by rw [List.length_take, List.length_drop]
      have l6 : (xs.drop (a + 2)).length = xs.length - (a + 2) := List.length_drop
      refine ⟨by rw [t1, t2, lt1, ld1]; omega, by rw [t3, t4, List.length_take, List.length_drop]; omega, ?_⟩
      have mm : ∀ y ∈ xs.take a ++ ((xs.drop a).take 2).reverse ++ xs.drop (a + 2), y ∈ xs := fun y hy => by
        rcases List.mem_append.mp hy with hy | hy
        · rcases List.mem_append.mp hy with hy | hy
          · exact mt hy
          · exact md (List.mem_of_mem_take (List.mem_reverse.mp hy))
        · exact md hy
      refine ⟨by show 4 ≤ 1000000; decide, fun p => ⟨⟨_, _, rfl⟩, by show (EL.cutD xs none (some (a : Int))).length + (EL.cutD xs (some (a : Int)) (some ((a : Int) + 2))).reverse.length ≤ 1000000; rw [t1, t5, List.length_reverse, lt1, l5]; omega, by show (EL.cutD xs none (some (a : Int)) ++ (EL.cutD xs (some (a : Int)) (some ((a : Int) + 2))).reverse).length + (EL.cutD xs (some ((a : Int) + 2)) none).length ≤ 1000000; rw [t1, t5, t6, List.length_append, List.length_reverse, lt1, l5, l6]; omega, by show 4 < 1000000; decide, ?_⟩⟩
      obtain ⟨k, rfl⟩ := Int.eq_ofNat_of_zero_le w0
      have : k = 0 ∨ k = 1 ∨ k = 2 ∨ k = 3 ∨ k = 4 := by omega
      rcases this with rfl | rfl | rfl | rfl | rfl
      · refine ⟨_, at_nat _ 0 _ rfl, ?_⟩
        show R (.tup (EL.cutD xs none (some (a : Int)) ++ EL.cutD xs (some ((a : Int) + 1)) none))
        rw [t1, t2]
        exact out _ (fun y hy => hkk1 y ((List.mem_append.mp hy).elim mt md)) (by rw [wxs_app]; omega) (Nat.le_trans (dpxs_sub fun y hy => (List.mem_append.mp hy).elim mt md) (by omega))
      · refine ⟨_, at_nat _ 1 _ rfl, ?_⟩
        show R (.tup (EL.cutD xs none (some ((a : Int) + 1)) ++ EL.cutD xs (some (a : Int)) none))
        rw [t3, t4]
        exact out _ (fun y hy => hkk1 y ((List.mem_append.mp hy).elim mt md)) (by rw [wxs_app]; omega) (Nat.le_trans (dpxs_sub fun y hy => (List.mem_append.mp hy).elim mt md) (by omega))
      · exact ⟨_, at_nat _ 2 _ rfl, out _ (fun y hy => hkk1 y (List.mem_reverse.mp hy)) (by rw [wxs_rev]; omega) (Nat.le_trans (dpxs_sub fun y hy => List.mem_reverse.mp hy) (by omega))⟩
      · exact ⟨_, at_nat _ 3 _ rfl, hR _ (kds_all.mpr hkk1) (by rw [wx_lst, wx_tup]; omega) (by rw [dpx_lst, dpx_tup]; omega)⟩
      · refine ⟨_, at_nat _ 4 _ rfl, ?_⟩
        show R (.tup (EL.cutD xs none (some (a : Int)) ++ (EL.cutD xs (some (a : Int)) (some ((a : Int) + 2))).reverse ++ EL.cutD xs (some ((a : Int) + 2)) none))
        rw [t1, t5, t6]
        exact out _ (fun y hy => hkk1 y (mm y hy)) (by rw [wxs_app, wxs_app, wxs_rev]; omega) (Nat.le_trans (dpxs_sub mm) (by omega))
  | _ => exact ⟨_, rfl, fun h => absurd h (by decide), fun _ => ⟨fun h => h.elim, fun _ => ⟨_, rfl, fun h => absurd h (by decide), fun _ => ⟨fun h => h.elim, fun _ => ⟨rfl, c2, _, m, rfl, hk, low⟩⟩⟩⟩⟩
theorem ok__law_bent (T : Tops K w mg) (G__law_draw : GT__law_draw P w base T) (G__law_odd : GT__law_odd P w base T) : GT__law_bent P w base T := by
  have z : GTr__law_bent P w base T 0 := ⟨fun vs H Q E h => spD_len rfl vs H Q E h, fun A outer st H args us vs Q E _ _ _ _ _ h => by
    obtain ⟨_, _, _, _, _, _, _, _, _, _, _, _, _, _, h, _⟩ := h
    exact h.elim⟩
  have all : ∀ n, GTr__law_bent P w base T n := fun n => by
    induction n with
    | zero => exact z
    | succ n ih => exact okr__law_bent T G__law_draw G__law_odd n ih
  exact all 8
end
end K28
namespace K28
open PySem PySem.Spec PyProof.Rows L2 EL PH
/-! ### plain data and their likeness -/
structure Pl (n : Nat) (d : D) : Prop where
  py : isPy d = true
  lay : (EL.py d).canLay0 = true
  dp : (EL.py d).depth ≤ n
theorem Pl.int (n : Nat) (i : Int) : Pl n (.int i) := ⟨rfl, by simp only [EL.py, PyData.canLay0], by simp only [EL.py, PyData.depth]; exact Nat.zero_le _⟩
theorem pls {n : Nat} : ∀ {xs : List D}, (∀ x ∈ xs, Pl n x) → isPys xs = true ∧ PyData.canLayAll0 (pys xs) = true ∧ PyData.depthAll (pys xs) ≤ n
  | [], _ => ⟨rfl, by simp only [pys, PyData.canLayAll0], by simp only [pys, PyData.depthAll]; exact Nat.zero_le _⟩
  | x :: xs, h => by
    obtain ⟨a, b, c⟩ := h x List.mem_cons_self
    obtain ⟨a', b', c'⟩ := pls fun y hy => h y (List.mem_cons_of_mem _ hy)
    refine ⟨by rw [isPys, a, a']; rfl, by simp only [pys, PyData.canLayAll0, b, b']; rfl, ?_⟩
    simp only [pys, PyData.depthAll]
    omega
theorem Pl.tup {n : Nat} {xs : List D} (h : ∀ x ∈ xs, Pl n x) : Pl (n + 1) (.tup xs) := by
  obtain ⟨a, b, c⟩ := pls h
  exact ⟨a, by simp only [EL.py, PyData.canLay0]; exact b, by simp only [EL.py, PyData.depth]; omega⟩
theorem Pl.lst {n : Nat} {xs : List D} (h : ∀ x ∈ xs, Pl n x) : Pl (n + 1) (.lst xs) := by
  obtain ⟨a, b, c⟩ := pls h
  exact ⟨a, by simp only [EL.py, PyData.canLay0]; exact b, by simp only [EL.py, PyData.depth]; omega⟩
theorem Pl.ok {n : Nat} {d : D} (h : Pl n d) (hn : n ≤ 60) : okD d := by
  refine ⟨h.py, ?_⟩
  unfold SeqAt.shaped
  rw [Bool.and_eq_true]
  have := h.dp
  exact ⟨h.lay, decide_eq_true (by omega)⟩
theorem Pl.refl {n : Nat} {d : D} (h : Pl n d) : eqD d d = true := SeqAt.eqv_refl _ h.lay
theorem pl_key (n : Nat) (k : List Nat) : Pl (n + 1) (kX k) := Pl.tup fun x hx => by
  obtain ⟨j, _, rfl⟩ := List.mem_map.mp hx
  exact Pl.int _ _
theorem pl_sm (L : Sm) : Pl 3 (smD L) := Pl.tup fun x hx => by
  obtain ⟨t, _, rfl⟩ := List.mem_map.mp hx
  refine Pl.tup fun y hy => ?_
  simp only [List.mem_cons, List.not_mem_nil, or_false] at hy
  rcases hy with rfl | rfl
  · exact pl_key 0 _
  · exact Pl.int _ _
theorem pl_ints (is : List Int) : Pl 1 (.lst (is.map D.int)) := Pl.lst fun x hx => by
  obtain ⟨j, _, rfl⟩ := List.mem_map.mp hx
  exact Pl.int _ _
/-! ### how great they get -/
def nsum (L : Sm) : Nat := (L.map fun t => t.2.natAbs).foldr (· + ·) 0
theorem nsum_cons (t : List Nat × Int) (L : Sm) : nsum (t :: L) = t.2.natAbs + nsum L := rfl
theorem nsum_mem : ∀ {L : Sm} {t : List Nat × Int}, t ∈ L → t.2.natAbs ≤ nsum L
  | s :: L, t, h => by
    rw [nsum_cons]
    rcases List.mem_cons.mp h with rfl | h
    · omega
    · have := nsum_mem h
      omega
theorem nsum_addK (k : List Nat) (v : Int) : ∀ L : Sm, nsum (addK k v L) ≤ nsum L + v.natAbs
  | [] => by show v.natAbs + 0 ≤ 0 + _; omega
  | (j, u) :: r => by
    unfold addK
    by_cases e : j = k
    · rw [if_pos e, nsum_cons, nsum_cons]
      dsimp only
      omega
    · have := nsum_addK k v r
      rw [if_neg e, nsum_cons, nsum_cons]
      omega
theorem nsum_addAll : ∀ (E D : Sm), nsum (addAll D E) ≤ nsum D + nsum E
  | [], D => Nat.le_refl _
  | t :: E, D => by
    have h1 := nsum_addAll E (addK t.1 t.2 D)
    have h2 := nsum_addK t.1 t.2 D
    show nsum (addAll (addK t.1 t.2 D) E) ≤ _
    rw [nsum_cons]
    omega
theorem nsum_le {c : Nat} : ∀ {L : Sm}, (∀ t ∈ L, t.2.natAbs ≤ c) → nsum L ≤ c * L.length
  | [], _ => Nat.le_refl _
  | t :: L, h => by
    have h1 := h t List.mem_cons_self
    have h2 := nsum_le fun x hx => h x (List.mem_cons_of_mem _ hx)
    rw [nsum_cons, List.length_cons, Nat.mul_succ]
    omega
theorem nf_len (L : Sm) : (nf L).length ≤ L.length := by
  rw [(nf_perm L).length_eq]
  exact List.length_filter_le _ _
theorem nf_le {u p b : Nat} {L : Sm} (h1 : L.length ≤ u) (h2 : ∀ t ∈ L, ∀ k ∈ t.1, k ≤ p) (h3 : nsum L < 2 ^ b) : SmLe u p b (nf L) :=
  ⟨Nat.le_trans (nf_len L) h1, fun t ht => h2 t (nf_mem.mp ht).1, fun t ht => Nat.lt_of_le_of_lt (nsum_mem (nf_mem.mp ht).1) h3⟩
theorem SmLe.mono {u p b u' p' b' : Nat} {L : Sm} (h : SmLe u p b L) (h1 : u ≤ u') (h2 : p ≤ p') (h3 : b ≤ b') : SmLe u' p' b' L :=
  ⟨Nat.le_trans h.many h1, fun t ht k hk => Nat.le_trans (h.pow t ht k hk) h2, fun t ht => Nat.lt_of_lt_of_le (h.bits t ht) (Nat.pow_le_pow_right (by decide) h3)⟩
theorem neg_ok {n : Nat} {A : Sm} (h : SmOk n A) : SmOk n (negS A) := by
  refine ⟨fun t ht => ?_, ?_, fun t ht => ?_⟩
  · obtain ⟨s, hs, rfl⟩ := List.mem_map.mp ht
    exact h.len s hs
  · unfold negS
    rw [List.map_map]
    exact h.rise
  · obtain ⟨s, hs, rfl⟩ := List.mem_map.mp ht
    have := h.nz s hs
    show -s.2 ≠ 0
    omega
theorem neg_le {u p b : Nat} {A : Sm} (h : SmLe u p b A) : SmLe u p b (negS A) := by
  refine ⟨by unfold negS; rw [List.length_map]; exact h.many, fun t ht => ?_, fun t ht => ?_⟩
  · obtain ⟨s, hs, rfl⟩ := List.mem_map.mp ht
    exact h.pow s hs
  · obtain ⟨s, hs, rfl⟩ := List.mem_map.mp ht
    have := h.bits s hs
    show (-s.2).natAbs < _
    rwa [Int.natAbs_neg]
theorem neg_worth (ns : List Int) : ∀ A : Sm, worth (negS A) ns = - worth A ns
  | [] => rfl
  | t :: A => by
    show worth ((t.1, -t.2) :: negS A) ns = _
    rw [worth_cons, worth_cons, neg_worth ns A]
    dsimp only
    rw [Int.neg_mul]
    omega
theorem keys_nd {n : Nat} {A : Sm} (h : SmOk n A) : (A.map (·.1)).Nodup := rise_keys (List.pairwise_map.mp h.rise)
/-- together -/
theorem add_got {n : Nat} {A E : Sm} (hA : SmOk n A) (hE : ∀ t ∈ E, t.1.length = n) (a1 : SmLe 8 10 38 A) (e1 : SmLe 12 10 38 E) :
    SmOk n (nf (addAll A E)) ∧ SmLe 20 10 43 (nf (addAll A E)) ∧ ∀ ns, worth (nf (addAll A E)) ns = worth A ns + worth E ns := by
  refine ⟨nf_ok (addAll_nodup E A (keys_nd hA)) (addAll_keys (Pk := fun k => k.length = n) E A hA.len hE), nf_le (Nat.le_trans (addAll_len E A) (by have := a1.many; have := e1.many; omega)) (addAll_keys (Pk := fun k => ∀ x ∈ k, x ≤ 10) E A a1.pow e1.pow) ?_, fun ns => by rw [nf_worth, worth_addAll]⟩
  have h1 := nsum_addAll E A
  have h2 := nsum_le (c := 2 ^ 38) fun t ht => Nat.le_of_lt (a1.bits t ht)
  have h3 := nsum_le (c := 2 ^ 38) fun t ht => Nat.le_of_lt (e1.bits t ht)
  have h4 : 2 ^ 38 * A.length ≤ 2 ^ 38 * 8 := Nat.mul_le_mul_left _ a1.many
  have h5 : 2 ^ 38 * E.length ≤ 2 ^ 38 * 12 := Nat.mul_le_mul_left _ e1.many
  have h6 : 2 ^ 38 * 8 + 2 ^ 38 * 12 < 2 ^ 43 := by decide
  omega
theorem prods_mem {A E : Sm} {t : List Nat × Int} (h : t ∈ prods A E) : ∃ m ∈ A, ∃ s ∈ E, t = (List.zipWith (· + ·) m.1 s.1, m.2 * s.2) := by
  obtain ⟨m, hm, h⟩ := List.mem_flatMap.mp h
  obtain ⟨s, hs, rfl⟩ := List.mem_map.mp h
  exact ⟨m, hm, s, hs, rfl⟩
theorem prods_len (E : Sm) : ∀ A : Sm, (prods A E).length = A.length * E.length
  | [] => by rw [List.length_nil, Nat.zero_mul]; rfl
  | m :: A => by
    show ((E.map _) ++ prods A E).length = _
    rw [List.length_append, List.length_map, prods_len E A, List.length_cons, Nat.add_mul]
    omega
/-- times one another -/
theorem mul_got {n : Nat} {A E : Sm} (hA : SmOk n A) (hE : SmOk n E) (a1 : SmLe 8 10 38 A) (e1 : SmLe 12 10 38 E) :
    SmOk n (nf (addAll [] (prods A E))) ∧ SmLe 96 20 83 (nf (addAll [] (prods A E))) ∧ ∀ ns, worth (nf (addAll [] (prods A E))) ns = worth A ns * worth E ns := by
  have hl : (prods A E).length ≤ 96 := by
    rw [prods_len]
    exact Nat.mul_le_mul a1.many e1.many
  have len : ∀ t ∈ prods A E, t.1.length = n := fun t ht => by
    obtain ⟨m, hm, s, hs, rfl⟩ := prods_mem ht
    show (List.zipWith _ _ _).length = n
    rw [List.length_zipWith, hA.len m hm, hE.len s hs, Nat.min_self]
  have bits : ∀ t ∈ prods A E, t.2.natAbs ≤ 2 ^ 76 := fun t ht => by
    obtain ⟨m, hm, s, hs, rfl⟩ := prods_mem ht
    exact Nat.le_of_lt (natAbs_mul_lt (a1.bits m hm) (e1.bits s hs))
  have pows : ∀ t ∈ prods A E, ∀ x ∈ t.1, x ≤ 20 := fun t ht => by
    obtain ⟨m, hm, s, hs, rfl⟩ := prods_mem ht
    exact zipW_le (a1.pow m hm) (e1.pow s hs)
  refine ⟨nf_ok (addAll_nodup _ [] List.nodup_nil) (addAll_keys (Pk := fun k => k.length = n) _ [] (fun _ h => by cases h) len), nf_le (Nat.le_trans (addAll_len _ []) (by rw [List.length_nil]; omega)) (addAll_keys (Pk := fun k => ∀ x ∈ k, x ≤ 20) _ [] (fun _ h => by cases h) pows) ?_, fun ns => ?_⟩
  · have h1 := nsum_addAll (prods A E) []
    have h2 := nsum_le bits
    have h3 : 2 ^ 76 * (prods A E).length ≤ 2 ^ 76 * 96 := Nat.mul_le_mul_left _ hl
    have h4 : 2 ^ 76 * 96 < 2 ^ 83 := by decide
    have h0 : nsum [] = 0 := rfl
    omega
  · rw [nf_worth, worth_addAll, worth_prods ns (n := n) hE.len A hA.len]
    show 0 + _ = _
    omega
/-! ### one less itself -/
def coef (k : List Nat) (L : Sm) : Int := (L.map fun t => if t.1 = k then t.2 else 0).foldr (· + ·) 0
theorem coef_cons (k : List Nat) (t : List Nat × Int) (L : Sm) : coef k (t :: L) = (if t.1 = k then t.2 else 0) + coef k L := rfl
theorem coef_addK (k j : List Nat) (v : Int) : ∀ L : Sm, coef k (addK j v L) = coef k L + if j = k then v else 0
  | [] => by show (if j = k then v else 0) + 0 = 0 + _; omega
  | (i, u) :: r => by
    unfold addK
    by_cases e : i = j
    · subst e
      rw [if_pos rfl, coef_cons, coef_cons]
      dsimp only
      by_cases q : i = k
      · rw [if_pos q, if_pos q, if_pos q]; omega
      · rw [if_neg q, if_neg q, if_neg q]; omega
    · rw [if_neg e, coef_cons, coef_cons, coef_addK k j v r]
      omega
theorem coef_addAll (k : List Nat) : ∀ (E D : Sm), coef k (addAll D E) = coef k D + coef k E
  | [], D => by show _ = coef k D + 0; rw [Int.add_zero]; rfl
  | t :: E, D => by
    show coef k (addAll (addK t.1 t.2 D) E) = _
    rw [coef_addAll k E, coef_addK, coef_cons]
    omega
theorem coef_neg (k : List Nat) : ∀ A : Sm, coef k (negS A) = - coef k A
  | [] => rfl
  | t :: A => by
    show coef k ((t.1, -t.2) :: negS A) = _
    rw [coef_cons, coef_cons, coef_neg k A]
    dsimp only
    by_cases q : t.1 = k
    · rw [if_pos q, if_pos q]; omega
    · rw [if_neg q, if_neg q]; omega
theorem coef_none {k : List Nat} : ∀ {L : Sm}, (∀ t ∈ L, t.1 ≠ k) → coef k L = 0
  | [], _ => rfl
  | t :: L, h => by
    rw [coef_cons, if_neg (h t List.mem_cons_self), coef_none fun x hx => h x (List.mem_cons_of_mem _ hx)]
    rfl
theorem coef_mem : ∀ {L : Sm} {t : List Nat × Int}, (L.map (·.1)).Nodup → t ∈ L → coef t.1 L = t.2
  | s :: L, t, nd, h => by
    have nd := List.nodup_cons.mp (show (s.1 :: L.map (·.1)).Nodup from nd)
    rw [coef_cons]
    rcases List.mem_cons.mp h with rfl | h
    · rw [if_pos rfl, coef_none fun x hx e => nd.1 (List.mem_map.mpr ⟨x, hx, e⟩)]
      omega
    · rw [if_neg fun e => nd.1 (by rw [e]; exact List.mem_map.mpr ⟨t, h, rfl⟩), coef_mem nd.2 h]
      omega
theorem less_self {n : Nat} {A : Sm} (h : SmOk n A) : nf (addAll A (negS A)) = [] := by
  refine List.eq_nil_iff_forall_not_mem.mpr fun t ht => ?_
  obtain ⟨h1, h2⟩ := nf_mem.mp ht
  have e := coef_mem (addAll_nodup (negS A) A (keys_nd h)) h1
  rw [coef_addAll, coef_neg] at e
  omega
theorem addK_new {k : List Nat} {v : Int} : ∀ {L : Sm}, (∀ t ∈ L, t.1 ≠ k) → addK k v L = L ++ [(k, v)]
  | [], _ => rfl
  | (j, u) :: r, h => by
    unfold addK
    rw [if_neg (h (j, u) List.mem_cons_self), addK_new fun t ht => h t (List.mem_cons_of_mem _ ht)]
    rfl
theorem addAll_new : ∀ (E D : Sm), (E.map (·.1)).Nodup → (∀ t ∈ E, ∀ s ∈ D, s.1 ≠ t.1) → addAll D E = D ++ E
  | [], D, _, _ => (List.append_nil D).symm
  | t :: E, D, nd, h => by
    have nd := List.nodup_cons.mp (show (t.1 :: E.map (·.1)).Nodup from nd)
    show addAll (addK t.1 t.2 D) E = _
    rw [addK_new (h t List.mem_cons_self), addAll_new E _ nd.2 fun x hx s hs => ?_, List.append_assoc]
    · rfl
    · rcases List.mem_append.mp hs with hs | hs
      · exact h x (List.mem_cons_of_mem _ hx) s hs
      · cases List.mem_singleton.mp hs
        exact fun e => nd.1 (by rw [e]; exact List.mem_map.mpr ⟨x, hx, rfl⟩)
theorem add_nil {n : Nat} {E : Sm} (h : SmOk n E) : nf (addAll [] E) = E := by
  rw [addAll_new E [] (keys_nd h) (fun _ _ s h => by cases h), List.nil_append]
  exact nf_id h
/-! ### they are sums -/
theorem rises_sm : ∀ {L : Sm}, RiseT L → risesB (L.map tmD) = true
  | [], _ => rfl
  | [_], _ => rfl
  | a :: b :: r, h => by
    have h1 := List.pairwise_cons.mp h
    have ih := rises_sm h1.2
    show (decide (keyB (tmD a) < keyB (tmD b)) && risesB ((b :: r).map tmD)) = true
    rw [ih, keyB_kX, keyB_kX, decide_eq_true (h1.1 b List.mem_cons_self)]
    rfl
theorem sum_sm {n : Nat} {L : Sm} (h : SmOk n L) : sumB n (smD L) = true := by
  show ((L.map tmD).all (termB n) && risesB (L.map tmD)) = true
  rw [rises_sm (List.pairwise_map.mp h.rise), Bool.and_true]
  refine List.all_eq_true.mpr fun x hx => ?_
  obtain ⟨t, ht, rfl⟩ := List.mem_map.mp hx
  show ((decide ((t.1.map fun n : Nat => D.int (n : Nat)).length = n) && (t.1.map fun n : Nat => D.int (n : Nat)).all natB) && decide (t.2 ≠ 0)) = true
  rw [List.length_map, decide_eq_true (h.len t ht), decide_eq_true (h.nz t ht), Bool.and_true, Bool.true_and]
  refine List.all_eq_true.mpr fun y hy => ?_
  obtain ⟨k, _, rfl⟩ := List.mem_map.mp hy
  show decide ((0 : Int) ≤ ((k : Nat) : Int)) = true
  exact decide_eq_true (Int.natCast_nonneg _)
/-! ### their weight -/
theorem wx_bits {i : Int} {b : Nat} (h : i.natAbs < 2 ^ b) : wx (.int i) ≤ b := by
  unfold wx
  simp only [pyX, PyData.weight]
  split
  · exact Nat.zero_le _
  · rename_i z
    have z : i.natAbs ≠ 0 := fun e => z (by have : i = 0 := by omega
                                            subst this; rfl)
    have := (Nat.log2_lt z).mpr h
    omega
theorem wx_sm {n u p b : Nat} {L : Sm} (h : SmOk n L) (hl : SmLe u p b L) (hn : n ≤ 4) (hp : p < 32) : wx (smD L) ≤ (b + 27) * u := by
  have h1 : ∀ x ∈ L.map tmD, wx x ≤ b + 26 := fun x hx => by
    obtain ⟨t, ht, rfl⟩ := List.mem_map.mp hx
    have h2 : ∀ y ∈ t.1.map (fun n : Nat => D.int (n : Nat)), wx y ≤ 5 := fun y hy => by
      obtain ⟨k, hk, rfl⟩ := List.mem_map.mp hy
      have := hl.pow t ht k hk
      exact wx_bits (b := 5) (by show k < 32; omega)
    have h3 := wxs_le h2
    rw [List.length_map, h.len t ht] at h3
    have h4 := wx_bits (hl.bits t ht)
    rw [wx_tup, wxs_cons, wxs_cons, wx_tup]
    show wxs (t.1.map fun n : Nat => D.int (n : Nat)) + 1 + (wx (.int t.2) + 1 + 0) ≤ _
    have h5 : (5 + 1) * n ≤ 6 * 4 := Nat.mul_le_mul_left _ hn
    omega
  have h2 := wxs_le h1
  rw [List.length_map] at h2
  rw [wx_tup]
  exact Nat.le_trans h2 (Nat.mul_le_mul_left _ hl.many)
theorem kd_sm {u p b : Nat} {L : Sm} (hl : SmLe u p b L) (hp : p < 32) (hb : b ≤ 100) : kd 0 (smD L) = true := by
  refine kds_all.mpr fun x hx => ?_
  obtain ⟨t, ht, rfl⟩ := List.mem_map.mp hx
  have e39 : (2 : Nat) ^ 100 ≤ 10 ^ 39 := by decide
  refine kds_all.mpr fun y hy => ?_
  simp only [List.mem_cons, List.not_mem_nil, or_false] at hy
  rcases hy with rfl | rfl
  · refine kds_all.mpr fun z hz => ?_
    obtain ⟨k, hk, rfl⟩ := List.mem_map.mp hz
    have := hl.pow t ht k hk
    exact decide_eq_true (by show k ≤ _; omega)
  · have := Nat.lt_of_lt_of_le (hl.bits t ht) (Nat.pow_le_pow_right (by decide) hb)
    exact decide_eq_true (by omega)
theorem dpx_sm (L : Sm) : dpx (smD L) ≤ 3 := by
  rw [dpx_tup]
  have : dpxs (L.map tmD) ≤ 2 := dpxs_le.mpr fun x hx => by
    obtain ⟨t, ht, rfl⟩ := List.mem_map.mp hx
    rw [dpx_tup]
    have : dpxs [kX t.1, .int t.2] ≤ 1 := dpxs_le.mpr fun y hy => by
      simp only [List.mem_cons, List.not_mem_nil, or_false] at hy
      rcases hy with rfl | rfl
      · rw [dpx_tup]
        have : dpxs (t.1.map fun n : Nat => D.int (n : Nat)) ≤ 0 := dpxs_le.mpr fun z hz => by
          obtain ⟨k, _, rfl⟩ := List.mem_map.mp hz
          exact Nat.zero_le _
        omega
      · exact Nat.zero_le _
    omega
  omega
theorem okd_sm {n u p b : Nat} {L : Sm} (h : SmOk n L) (hl : SmLe u p b L) (hn : n ≤ 4) (hp : p < 32) (hb : b ≤ 100) (hw : (b + 27) * u ≤ 20000) : Okd (smD L) :=
  ⟨(kd_ok (m := 0) (by decide) _ (kd_sm hl hp hb)).1, Nat.le_trans (wx_sm h hl hn hp) hw⟩
theorem sm_none (n : Nat) : SmOk n [] := ⟨(fun _ h => by cases h), List.Pairwise.nil, (fun _ h => by cases h)⟩
theorem le_none (u p b : Nat) : SmLe u p b [] := ⟨Nat.zero_le _, (fun _ h => by cases h), (fun _ h => by cases h)⟩
theorem pw_le {ns : List Int} (hn : ∀ i ∈ ns, i.natAbs ≤ 4) : ∀ {ks : List Nat}, (∀ k ∈ ks, k ≤ 10) → (pw ks ns).natAbs ≤ 4 ^ (10 * ks.length) := by
  induction ns with
  | nil =>
    intro ks _
    have : pw ks [] = 1 := by cases ks <;> rfl
    rw [this]
    exact Nat.pow_pos (by decide)
  | cons i ns ih =>
    intro ks hk
    cases ks with
    | nil => exact Nat.le_refl _
    | cons k ks =>
      have h1 := ih (fun j hj => hn j (List.mem_cons_of_mem _ hj)) (ks := ks) fun x hx => hk x (List.mem_cons_of_mem _ hx)
      have h2 : (i ^ k).natAbs ≤ 4 ^ 10 := by
        rw [Int.natAbs_pow]
        exact Nat.le_trans (Nat.pow_le_pow_left (hn i List.mem_cons_self) k) (Nat.pow_le_pow_right (by decide) (hk k List.mem_cons_self))
      show (i ^ k * pw ks ns).natAbs ≤ _
      rw [Int.natAbs_mul, List.length_cons, Nat.mul_succ, Nat.add_comm, Nat.pow_add]
      exact Nat.mul_le_mul h2 h1
theorem worth_bits {n : Nat} {ns : List Int} (hn : ∀ i ∈ ns, i.natAbs ≤ 4) (h4 : n ≤ 4) : ∀ {L : Sm}, (∀ t ∈ L, t.1.length = n) → (∀ t ∈ L, ∀ k ∈ t.1, k ≤ 10) → (worth L ns).natAbs ≤ nsum L * 4 ^ 40
  | [], _, _ => Nat.zero_le _
  | t :: L, h1, h2 => by
    have ih := worth_bits hn h4 (L := L) (fun x hx => h1 x (List.mem_cons_of_mem _ hx)) (fun x hx => h2 x (List.mem_cons_of_mem _ hx))
    have h3 := pw_le hn (h2 t List.mem_cons_self)
    rw [h1 t List.mem_cons_self] at h3
    have h5 : (pw t.1 ns).natAbs ≤ 4 ^ 40 := Nat.le_trans h3 (Nat.pow_le_pow_right (by decide) (by omega))
    have h6 : (t.2 * pw t.1 ns).natAbs ≤ t.2.natAbs * 4 ^ 40 := by
      rw [Int.natAbs_mul]
      exact Nat.mul_le_mul_left _ h5
    rw [worth_cons, nsum_cons, Nat.add_mul]
    have := Int.natAbs_add_le (t.2 * pw t.1 ns) (worth L ns)
    omega
theorem worth_small {n u : Nat} {ns : List Int} (hn : ∀ i ∈ ns, i.natAbs ≤ 4) (h4 : n ≤ 4) {L : Sm} (h : SmOk n L) (hl : SmLe u 10 38 L) (hu : u ≤ 12) : (worth L ns).natAbs < 2 ^ 200 := by
  have h1 := worth_bits hn h4 h.len hl.pow
  have h2 := nsum_le (c := 2 ^ 38) fun t ht => Nat.le_of_lt (hl.bits t ht)
  have h3 : 2 ^ 38 * L.length ≤ 2 ^ 38 * 12 := Nat.mul_le_mul_left _ (Nat.le_trans hl.many hu)
  have h5 : nsum L * 4 ^ 40 ≤ 2 ^ 38 * 12 * 4 ^ 40 := Nat.mul_le_mul_right _ (Nat.le_trans h2 h3)
  have h6 : 2 ^ 38 * 12 * 4 ^ 40 < 2 ^ 200 := by decide
  omega
/-- each of these is told -/
structure Told (n : Nat) (L : Sm) : Prop where
  ok : SmOk n L
  le : SmLe 200 60 200 L
  okd : Okd (smD L)
theorem showX_sms {xs : List D} (h : ∀ x ∈ xs, kd 0 x = true ∧ dpx x ≤ 3) (hw : wxs xs ≤ 15000) : showX (.tup xs) ∧ showX (.lst xs) := by
  have k : kds 0 xs = true := kds_all.mpr fun x hx => (h x hx).1
  have d : dpxs xs ≤ 3 := dpxs_le.mpr fun x hx => (h x hx).2
  exact ⟨showX_kd (m := 0) (by decide) k (by rw [wx_tup]; exact hw) (by rw [dpx_tup]; omega), showX_kd (m := 0) (by decide) k (by rw [wx_lst]; exact hw) (by rw [dpx_lst]; omega)⟩
/-- a thing one asks about -/
structure Nc (d : D) : Prop where
  k : kd 2 d = true
  w : wx d ≤ 4000
  d : dpx d ≤ 20
theorem Nc.show {d : D} (h : Nc d) : showX d := showX_kd (m := 2) (by decide) h.k (by have := h.w; omega) (by have := h.d; omega)
theorem Nc.ok {d : D} (h : Nc d) : Okd d := ⟨(kd_ok (m := 2) (by decide) _ h.k).1, by have := h.w; omega⟩
theorem nc_tup {n w : Nat} {xs : List D} (h : ∀ x ∈ xs, kd 2 x = true ∧ wx x ≤ w ∧ dpx x ≤ n) (hw : (w + 1) * xs.length ≤ 4000) (hn : n + 1 ≤ 20) : Nc (.tup xs) :=
  ⟨kds_all.mpr fun x hx => (h x hx).1, by rw [wx_tup]; exact Nat.le_trans (wxs_le fun x hx => (h x hx).2.1) hw, by rw [dpx_tup]; have := dpxs_le.mpr fun x hx => (h x hx).2.2; omega⟩
theorem nc_0 (d : D) (h : kd 2 d = true ∧ wx d = 0 ∧ dpx d = 0) : Nc d := ⟨h.1, by omega, by omega⟩
theorem nc_sm {n u p b : Nat} {L : Sm} (h : SmOk n L) (hl : SmLe u p b L) (hn : n ≤ 4) (hp : p < 32) (hb : b ≤ 100) (hw : (b + 27) * u ≤ 4000) : Nc (smD L) ∧ Nc (.lst (L.map tmD)) := by
  have k := kd_mono (Nat.zero_le 2) _ (kd_sm hl hp hb)
  have w := Nat.le_trans (wx_sm h hl hn hp) hw
  have d := dpx_sm L
  refine ⟨⟨k, w, by omega⟩, ⟨k, ?_, ?_⟩⟩
  · rw [wx_lst]
    rw [wx_tup] at w
    exact w
  · rw [dpx_lst]
    rw [dpx_tup] at d
    omega
theorem wx_int0 : wx (.int 0) = 0 := by
  unfold wx
  simp only [pyX, PyData.weight]
  decide
theorem wx_int1 : wx (.int 1) ≤ 9 := by
  unfold wx
  simp only [pyX, PyData.weight]
  decide
theorem nc_int0 : Nc (.int 0) := ⟨by decide +kernel, by rw [wx_int0]; decide, Nat.zero_le _⟩
theorem nc_t {w n : Nat} {xs : List D} (h : ∀ x ∈ xs, Nc x ∧ wx x ≤ w ∧ dpx x ≤ n) (hw : (w + 1) * xs.length ≤ 4000) (hn : n + 1 ≤ 20) : Nc (.tup xs) ∧ wx (.tup xs) ≤ (w + 1) * xs.length ∧ dpx (.tup xs) ≤ n + 1 := by
  have a := wxs_le fun x hx => (h x hx).2.1
  have b := dpxs_le.mpr fun x hx => (h x hx).2.2
  refine ⟨⟨kds_all.mpr fun x hx => (h x hx).1.k, by rw [wx_tup]; omega, by rw [dpx_tup]; omega⟩, by rw [wx_tup]; exact a, by rw [dpx_tup]; omega⟩
theorem nc_e : Nc (.tup []) ∧ wx (.tup []) ≤ 0 ∧ dpx (.tup []) ≤ 1 := nc_t (w := 0) (n := 0) (fun _ h => by cases h) (by decide) (by decide)
theorem nc_i0 : Nc (.int 0) ∧ wx (.int 0) ≤ 0 ∧ dpx (.int 0) ≤ 0 := ⟨nc_int0, by rw [wx_int0]; exact Nat.le_refl _, Nat.le_refl _⟩
theorem nc_i1 : Nc (.int 1) ∧ wx (.int 1) ≤ 9 ∧ dpx (.int 1) ≤ 0 := ⟨⟨by decide +kernel, by have := wx_int1; omega, Nat.zero_le _⟩, wx_int1, Nat.le_refl _⟩
theorem things_nc {n : Nat} {A : Sm} (hn : n ≤ 4) (hA : Nc (.lst (A.map tmD))) : ∀ d ∈ [D.non, .bl true, .int 0, .str "", .tup [], .lst [], .dct [], .tup [.int 0], .tup [.tup []], .tup [.tup [], .int 1], .tup [.tup [.tup [], .int 1]], .tup [.tup [.tup (List.replicate n (.int 0)), .int 0]], .lst (A.map tmD)], Nc d := by
  have z1 : Nc (.tup [.int 0]) := (nc_t (w := 0) (n := 0) (fun x hx => by cases List.mem_singleton.mp hx; exact nc_i0) (by decide) (by decide)).1
  have z2 : Nc (.tup [.tup []]) := (nc_t (w := 0) (n := 1) (fun x hx => by cases List.mem_singleton.mp hx; exact nc_e) (by decide) (by decide)).1
  have e1 := nc_e
  have i0 := nc_i0
  have i1 := nc_i1
  have z3 : Nc (.tup [.tup [], .int 1]) ∧ wx (.tup [.tup [], .int 1]) ≤ (9 + 1) * 2 ∧ dpx (.tup [.tup [], .int 1]) ≤ 1 + 1 := nc_t (w := 9) (n := 1) (fun x hx => by
    simp only [List.mem_cons, List.not_mem_nil, or_false] at hx
    rcases hx with rfl | rfl
    · exact ⟨e1.1, by omega, by omega⟩
    · exact ⟨i1.1, by omega, by omega⟩) (by decide) (by decide)
  have z4 : Nc (.tup [.tup [.tup [], .int 1]]) := (nc_t (w := 20) (n := 2) (fun x hx => by cases List.mem_singleton.mp hx; exact z3) (by decide) (by decide)).1
  have r1 := nc_t (w := 0) (n := 0) (xs := List.replicate n (D.int 0)) (fun x hx => by rw [List.eq_of_mem_replicate hx]; exact i0) (by rw [List.length_replicate]; omega) (by decide)
  rw [List.length_replicate] at r1
  have r2 : Nc (.tup [.tup (List.replicate n (D.int 0)), .int 0]) ∧ wx (.tup [.tup (List.replicate n (D.int 0)), .int 0]) ≤ (9 + 1) * 2 ∧ dpx (.tup [.tup (List.replicate n (D.int 0)), .int 0]) ≤ 1 + 1 := nc_t (w := 9) (n := 1) (fun x hx => by
    simp only [List.mem_cons, List.not_mem_nil, or_false] at hx
    rcases hx with rfl | rfl
    · exact ⟨r1.1, by omega, by omega⟩
    · exact ⟨i0.1, by omega, by omega⟩) (by show (9 + 1) * 2 ≤ 4000; decide) (by decide)
  have z5 : Nc (.tup [.tup [.tup (List.replicate n (D.int 0)), .int 0]]) := (nc_t (w := 20) (n := 2) (fun x hx => by cases List.mem_singleton.mp hx; exact r2) (by show (20 + 1) * 1 ≤ 4000; decide) (by decide)).1
  have n1 : Nc .non := ⟨rfl, Nat.zero_le _, Nat.zero_le _⟩
  have n2 : Nc (.bl true) := ⟨rfl, Nat.zero_le _, Nat.zero_le _⟩
  have n3 : Nc (.str "") := ⟨rfl, by rw [wx_str]; exact Nat.zero_le _, Nat.zero_le _⟩
  have n4 : Nc (.lst []) := ⟨rfl, by rw [wx_lst]; exact Nat.zero_le _, by rw [dpx_lst]; show 0 + 1 ≤ 20; decide⟩
  have n5 : Nc (.dct []) := ⟨rfl, by unfold wx; simp [pyX, pyXk, PyData.weight, PyData.weightKv], by unfold dpx; simp [pyX, pyXk, PyData.depth, PyData.depthKv]⟩
  intro d hd
  simp only [List.mem_cons, List.not_mem_nil, or_false] at hd
  rcases hd with rfl | rfl | rfl | rfl | rfl | rfl | rfl | rfl | rfl | rfl | rfl | rfl | rfl
  · exact n1
  · exact n2
  · exact i0.1
  · exact n3
  · exact e1.1
  · exact n4
  · exact n5
  · exact z1
  · exact z2
  · exact z3.1
  · exact z4
  · exact z5
  · exact hA
end K28
namespace K28
open PySem PySem.Spec PyProof.Rows L2 EL PH
section
variable {P : Program} {w : World} {K : PySem.W.Frag} {mg : Str → Option Value} {base : Heap}
abbrev GT__law_both_right (P : Program) (w : World) (base : Heap) (T : Tops K w mg) : Prop := PH.FnG P w K mg base CX0 4 T.f__law_both_right T.d__law_both_right ["_law_deck_here", "_law_many", "_law_one", "_law_other"] (spD K clT Deck 12 4 FBoth)
theorem ok__law_both_right (T : Tops K w mg) (G__law_draw : GT__law_draw P w base T) (G__law_worth : GT__law_worth P w base T) (G_added : GT_added P w base T) (G_lessened : GT_lessened P w base T) (G_times : GT_times P w base T) (G_is_sum : GT_is_sum P w base T) (G__law_is_sum : GT__law_is_sum P w base T) (G_worth_at : GT_worth_at P w base T) : GT__law_both_right P w base T := by
  refine Fun.okG T.N__law_both_right.F sc__law_both_right (spD_len rfl) fun cdv A outer s H vs Q E hg hr h => bodyD (K := K) h (fun dk G xc DkAt hx hB => (ss_cons (s_set (i := 4) (ps_set (i := 4) sc__law_both_right.nd rfl (Or.inl rfl) (d_cb (ok_reprX rfl) (pe_callB (cr_reprX hg hr) (by rfl) T.z_repr (by decide +kernel) (a_cons (d_tup (a_cons (d_var 2 (pv 2)) (a_cons (d_var 3 (pv 3)) a_nil))) a_nil)))))
    (ss_cons (s_for (vs := [5]) (ps_for PassesOwn.never rfl (i_rng1 (pi_range1 rfl T.z_range (a_cons d_int a_nil))) (g_name (vs := [5]) (pg_name (i := 5) sc__law_both_right.nd rfl (Or.inl rfl)))
    (ss_cons (s_set (i := 6) (ps_set (i := 6) sc__law_both_right.nd rfl (Or.inr rfl) (d_cb (ok_tupOf rfl) (pe_callTy call_tuple_of (by rfl) T.z_tuple (by decide +kernel) (a_cons (d_f (f_lc (pe_lc (own := [("_law_k", 11)]) rfl sc__law_both_right.nd (i_rng1 (pi_range1 rfl T.z_range (a_cons (d_var 1 (pv 1)) a_nil))) (blkOk_by (own := [("_law_k", 11)]) (N := N_sc__law_both_right) (sc := defScope s__law_both_right) (by decide +kernel)) (fun _ _ _ _ _ => gx (vs := [11]) fun _ => (g_name (vs := [11]) (pg_name (i := 11) sc__law_both_right.nd rfl (Or.inl rfl)))) (fun _ _ _ _ _ => bx_yes) (fun _ _ _ _ _ => dx fun h0 => (d_sub (d_callCc (cc := 12) rfl (hB.withH h0) (pe_call G__law_draw (hr.mono (by decide)) rfl T.N__law_draw.m T.N__law_draw.F.kp T.N__law_draw.b .nil pass0 (a_cons (d_var 0 (pv 0)) (a_cons d_int a_nil)))) d_int))))) a_nil)))))
    (ss_cons (s_par (ps_par (i := 7) (j := 8) rfl sc__law_both_right.nd rfl rfl (by decide) rfl rfl (a_cons (d_call hB (pe_call G__law_worth (hr.mono (by decide)) rfl T.N__law_worth.m T.N__law_worth.F.kp T.N__law_worth.b .nil pass0 (a_cons (d_var 2 (pv 2)) (a_cons (d_var 6 (pv 6)) a_nil)))) (a_cons (d_call hB (pe_call G__law_worth (hr.mono (by decide)) rfl T.N__law_worth.m T.N__law_worth.F.kp T.N__law_worth.b .nil pass0 (a_cons (d_var 3 (pv 3)) (a_cons (d_var 6 (pv 6)) a_nil)))) a_nil)) (by rfl)))
    (ss_cons (s_set (i := 9) (ps_set (i := 9) sc__law_both_right.nd rfl (Or.inl rfl) (d_f (f_lst (a_cons (d_call hB (pe_call G_added (hr.mono (by decide)) rfl T.N_added.m T.N_added.F.kp T.N_added.b .nil pass0 (a_cons (d_var 2 (pv 2)) (a_cons (d_var 3 (pv 3)) a_nil)))) (a_cons (d_call hB (pe_call G_lessened (hr.mono (by decide)) rfl T.N_lessened.m T.N_lessened.F.kp T.N_lessened.b .nil pass0 (a_cons (d_var 2 (pv 2)) (a_cons (d_var 3 (pv 3)) a_nil)))) (a_cons (d_call hB (pe_call G_times (hr.mono (by decide)) rfl T.N_times.m T.N_times.F.kp T.N_times.b .nil pass0 (a_cons (d_var 2 (pv 2)) (a_cons (d_var 3 (pv 3)) a_nil)))) (a_cons (d_var 2 (pv 2)) (a_cons (d_var 3 (pv 3)) a_nil)))))))))
    (ss_cons (s_if (b_cmp (op_neL0 hr) (ok_neL0 rfl) (d_f (f_lc (pe_lc (own := [("_law_thing", 12)]) rfl sc__law_both_right.nd (i_seq rfl (d_var 9 (pv 9))) (blkOk_by (own := [("_law_thing", 12)]) (N := N_sc__law_both_right) (sc := defScope s__law_both_right) (by decide +kernel)) (fun _ _ _ _ _ => gx (vs := [12]) fun _ => (g_name (vs := [12]) (pg_name (i := 12) sc__law_both_right.nd rfl (Or.inl rfl)))) (fun _ _ _ _ _ => bx_one fun h0 => (PW.pt (bw_or (b_not (b_val (d_call (hB.withH h0) (pe_call G__law_is_sum (hr.mono (by decide)) rfl T.N__law_is_sum.m T.N__law_is_sum.F.kp T.N__law_is_sum.b .nil pass0 (a_cons (d_var 1 (pv 1)) (a_cons (d_var 12 (pv 12)) a_nil)))))) (bw_or1 (b_cmp op_isnotPP ok_isnotP (d_call (hB.withH h0) (pe_call G_is_sum (hr.mono (by decide)) rfl T.N_is_sum.m T.N_is_sum.F.kp T.N_is_sum.b .nil pass0 (a_cons (d_var 1 (pv 1)) (a_cons (d_var 12 (pv 12)) a_nil)))) d_bl (nomark _)))))) (fun _ _ _ _ _ => dx fun h0 => (d_var 12 (pv 12)))))) (d_f (f_lst a_nil)) (nomark _)) (ss_one (s_ret d_bl)) ss_nil)
    (ss_cons (s_if (b_cmp (op_nePP hr.units) (ok_neP rfl) (d_f (f_lc (pe_lc (own := [("_law_thing", 12)]) rfl sc__law_both_right.nd (i_seq rfl (d_var 9 (pv 9))) (blkOk_by (own := [("_law_thing", 12)]) (N := N_sc__law_both_right) (sc := defScope s__law_both_right) (by decide +kernel)) (fun _ _ _ _ _ => gx (vs := [12]) fun _ => (g_name (vs := [12]) (pg_name (i := 12) sc__law_both_right.nd rfl (Or.inl rfl)))) (fun _ _ _ _ _ => bx_yes) (fun _ _ _ _ _ => dx fun h0 => (d_call (hB.withH h0) (pe_call G__law_worth (hr.mono (by decide)) rfl T.N__law_worth.m T.N__law_worth.F.kp T.N__law_worth.b .nil pass0 (a_cons (d_var 12 (pv 12)) (a_cons (d_var 6 (pv 6)) a_nil)))))))) (d_f (f_lst (a_cons (d_add rfl (d_var 7 (pv 7)) (d_var 8 (pv 8))) (a_cons (d_sub (d_var 7 (pv 7)) (d_var 8 (pv 8))) (a_cons (d_mul (d_var 7 (pv 7)) (d_var 8 (pv 8))) (a_cons (d_var 7 (pv 7)) (a_cons (d_var 8 (pv 8)) a_nil))))))) (nomark _)) (ss_one (s_ret d_bl)) ss_nil)
    (ss_one (s_if (b_cmp (op_nePP hr.units) (ok_neP rfl) (d_f (f_lc (pe_lc (own := [("_law_thing", 12)]) rfl sc__law_both_right.nd (i_seq rfl (d_var 9 (pv 9))) (blkOk_by (own := [("_law_thing", 12)]) (N := N_sc__law_both_right) (sc := defScope s__law_both_right) (by decide +kernel)) (fun _ _ _ _ _ => gx (vs := [12]) fun _ => (g_name (vs := [12]) (pg_name (i := 12) sc__law_both_right.nd rfl (Or.inl rfl)))) (fun _ _ _ _ _ => bx_yes) (fun _ _ _ _ _ => dx fun h0 => (d_call (hB.withH h0) (pe_call G_worth_at (hr.mono (by decide)) rfl T.N_worth_at.m T.N_worth_at.F.kp T.N_worth_at.b .nil pass0 (a_cons (d_var 12 (pv 12)) (a_cons (d_var 6 (pv 6)) a_nil)))))))) (d_f (f_lst (a_cons (d_add rfl (d_var 7 (pv 7)) (d_var 8 (pv 8))) (a_cons (d_sub (d_var 7 (pv 7)) (d_var 8 (pv 8))) (a_cons (d_mul (d_var 7 (pv 7)) (d_var 8 (pv 8))) (a_cons (d_var 7 (pv 7)) (a_cons (d_var 8 (pv 8)) a_nil))))))) (nomark _)) (ss_one (s_ret d_bl)) ss_nil)))))))))
    (ss_cons (s_set (i := 10) (ps_set (i := 10) sc__law_both_right.nd rfl (Or.inl rfl) (d_f (f_lst (a_cons (d_call hB (pe_call G_added (hr.mono (by decide)) rfl T.N_added.m T.N_added.F.kp T.N_added.b .nil pass0 (a_cons (d_var 2 (pv 2)) (a_cons (d_var 3 (pv 3)) a_nil)))) (a_cons (d_call hB (pe_call G_lessened (hr.mono (by decide)) rfl T.N_lessened.m T.N_lessened.F.kp T.N_lessened.b .nil pass0 (a_cons (d_var 2 (pv 2)) (a_cons (d_var 3 (pv 3)) a_nil)))) (a_cons (d_call hB (pe_call G_times (hr.mono (by decide)) rfl T.N_times.m T.N_times.F.kp T.N_times.b .nil pass0 (a_cons (d_var 2 (pv 2)) (a_cons (d_var 3 (pv 3)) a_nil)))) a_nil)))))))
    (ss_cons (s_if (PW.pt (bw_or (b_cmp (op_nePP hr.units) (ok_neP rfl) (d_cb (ok_reprX rfl) (pe_callB (cr_reprX hg hr) (by rfl) T.z_repr (by decide +kernel) (a_cons (d_var 10 (pv 10)) a_nil))) (d_cb (ok_reprX rfl) (pe_callB (cr_reprX hg hr) (by rfl) T.z_repr (by decide +kernel) (a_cons (d_sl rfl (pe_slice sl_D (d_var 9 (pv 9)) o_none (o_some d_int))) a_nil))) (nomark _)) (bw_or (b_cmp (op_nePP hr.units) (ok_neP rfl) (d_call hB (pe_call G_lessened (hr.mono (by decide)) rfl T.N_lessened.m T.N_lessened.F.kp T.N_lessened.b .nil pass0 (a_cons (d_var 2 (pv 2)) (a_cons (d_var 2 (pv 2)) a_nil)))) (d_tup a_nil) (nomark _)) (bw_or (b_cmp (op_nePP hr.units) (ok_neP rfl) (d_call hB (pe_call G_times (hr.mono (by decide)) rfl T.N_times.m T.N_times.F.kp T.N_times.b .nil pass0 (a_cons (d_var 2 (pv 2)) (a_cons (d_tup a_nil) a_nil)))) (d_tup a_nil) (nomark _)) (bw_or1 (b_cmp (op_nePP hr.units) (ok_neP rfl) (d_call hB (pe_call G_added (hr.mono (by decide)) rfl T.N_added.m T.N_added.F.kp T.N_added.b .nil pass0 (a_cons (d_tup a_nil) (a_cons (d_var 3 (pv 3)) a_nil)))) (d_var 3 (pv 3)) (nomark _))))))) (ss_one (s_ret d_bl)) ss_nil)
    (ss_one (s_ret (d_cmp (op_eqPP hr.units) (ok_eqP rfl) (d_cb (ok_reprX rfl) (pe_callB (cr_reprX hg hr) (by rfl) T.z_repr (by decide +kernel) (a_cons (d_tup (a_cons (d_var 2 (pv 2)) (a_cons (d_var 3 (pv 3)) a_nil))) a_nil))) (d_var 4 (pv 4)) (nomark _))))))))) ?_
  rintro _ R xc - ⟨n, A, Z, rfl, hn, hA, hZ, a1, z1, hR⟩
  obtain ⟨s1, s2, s3⟩ := add_got hA hZ.len a1 z1
  obtain ⟨l1, l2, l3⟩ := add_got hA (neg_ok hZ).len a1 (neg_le z1)
  obtain ⟨m1, m2, m3⟩ := mul_got hA hZ a1 z1
  have mA := a1.many
  have mZ := z1.many
  have hA200 : A.length ≤ 200 := by omega
  have hZ200 : Z.length ≤ 200 := by omega
  have aw : SmLe 200 60 200 A := a1.mono (by decide) (by decide) (by decide)
  have zw : SmLe 200 60 200 Z := z1.mono (by decide) (by decide) (by decide)
  have a12 : SmLe 12 20 200 A := a1.mono (by decide) (by decide) (by decide)
  have z12 : SmLe 12 20 200 Z := z1.mono (by decide) (by decide) (by decide)
  have wA := wx_sm hA a1 hn (by decide)
  have wZ := wx_sm hZ z1 hn (by decide)
  have wS := wx_sm s1 s2 hn (by decide)
  have wL := wx_sm l1 l2 hn (by decide)
  have wM := wx_sm m1 m2 hn (by decide)
  have w0 : wxs ([] : List D) = 0 := rfl
  have sh2 : showX (.tup [smD A, smD Z]) := (showX_sms (fun x hx => by
    simp only [List.mem_cons, List.not_mem_nil, or_false] at hx
    rcases hx with rfl | rfl
    · exact ⟨kd_sm a1 (by decide) (by decide), dpx_sm _⟩
    · exact ⟨kd_sm z1 (by decide) (by decide), dpx_sm _⟩) (by rw [wxs_cons, wxs_cons, w0]; omega)).1
  have told : ∀ L ∈ [nf (addAll A Z), nf (addAll A (negS Z)), nf (addAll [] (prods A Z)), A, Z], Told n L := fun L hL => by
    simp only [List.mem_cons, List.not_mem_nil, or_false] at hL
    rcases hL with rfl | rfl | rfl | rfl | rfl
    · exact ⟨s1, s2.mono (by decide) (by decide) (by decide), okd_sm s1 s2 hn (by decide) (by decide) (by decide)⟩
    · exact ⟨l1, l2.mono (by decide) (by decide) (by decide), okd_sm l1 l2 hn (by decide) (by decide) (by decide)⟩
    · exact ⟨m1, m2.mono (by decide) (by decide) (by decide), okd_sm m1 m2 hn (by decide) (by decide) (by decide)⟩
    · exact ⟨hA, aw, okd_sm hA a1 hn (by decide) (by decide) (by decide)⟩
    · exact ⟨hZ, zw, okd_sm hZ z1 hn (by decide) (by decide) (by decide)⟩
  have sh3 : showX (.lst [smD (nf (addAll A Z)), smD (nf (addAll A (negS Z))), smD (nf (addAll [] (prods A Z)))]) := (showX_sms (fun x hx => by
    simp only [List.mem_cons, List.not_mem_nil, or_false] at hx
    rcases hx with rfl | rfl | rfl
    · exact ⟨kd_sm s2 (by decide) (by decide), dpx_sm _⟩
    · exact ⟨kd_sm l2 (by decide) (by decide), dpx_sm _⟩
    · exact ⟨kd_sm m2 (by decide) (by decide), dpx_sm _⟩) (by rw [wxs_cons, wxs_cons, wxs_cons, w0]; omega)).2
  refine ⟨by show 2 ≤ 1000000; decide, sh2, ⟨by decide, by decide⟩, ?_⟩
  show forD _ _ _ (rngD 0 3) _
  refine for_rng (fun k γ => ∃ (o5 o6 o7 o8 o9 o10 o11 o12 : Sl) (ct : Nat), ct ≤ 4 * k ∧ (0 < k → o9 = .fz (.lst ([nf (addAll A Z), nf (addAll A (negS Z)), nf (addAll [] (prods A Z)), A, Z].map smD))) ∧
      γ = ⟨[.fz .dk, .fz (.int (n : Nat)), .fz (smD A), .fz (smD Z), .fz (.str (shX (.tup [smD A, smD Z]))), o5, o6, o7, o8, o9, o10, o11, o12], ct⟩) ?_ ?_ _ ⟨_, _, _, _, _, _, _, _, 0, Nat.le_refl _, fun h => absurd h (by decide), rfl⟩
  · rintro γ ⟨o5, o6, o7, o8, o9, o10, o11, o12, ct, hct, h9, rfl⟩
    have h9 := h9 (by decide)
    subst h9
    refine ⟨rfl, n, A, Z, smD Z, rfl, .inl rfl, hA, hZ.len, hA200, hZ200, rfl, n, A, Z, rfl, hA, hZ.len, hA200, hZ200, rfl, n, A, Z, rfl, hn, hA, hZ, a12, z12, by show 3 ≤ 1000000; decide, ?_⟩
    refine ⟨sh3, ?_⟩
    have c3 : EL.cutD ([nf (addAll A Z), nf (addAll A (negS Z)), nf (addAll [] (prods A Z)), A, Z].map smD) none (some 3) = [smD (nf (addAll A Z)), smD (nf (addAll A (negS Z))), smD (nf (addAll [] (prods A Z)))] := cutD_to 3
    have e3 : shX (.lst [smD (nf (addAll A Z)), smD (nf (addAll A (negS Z))), smD (nf (addAll [] (prods A Z)))]) = shX (.lst (EL.cutD ([nf (addAll A Z), nf (addAll A (negS Z)), nf (addAll [] (prods A Z)), A, Z].map smD) none (some 3))) := by rw [c3]
    refine ⟨show showX (.lst (EL.cutD ([nf (addAll A Z), nf (addAll A (negS Z)), nf (addAll [] (prods A Z)), A, Z].map smD) none (some 3))) from by rw [c3]; exact sh3, fun h => absurd e3 h, fun _ => ?_⟩
    refine ⟨rfl, n, A, A, rfl, hA, hA.len, hA200, hA200, ?_⟩
    rw [less_self hA]
    refine ⟨by show 0 ≤ 1000000; decide, ⟨(pl_sm []).ok (by decide), (pl_sm []).ok (by decide)⟩, fun h => absurd (pl_sm []).refl h, fun _ => ?_⟩
    refine ⟨by show 0 ≤ 1000000; decide, rfl, n, A, [], rfl, hn, hA, sm_none n, a12, le_none _ _ _, ?_⟩
    rw [show prods A [] = [] from List.flatMap_eq_nil_iff.mpr fun _ _ => rfl, show addAll [] [] = ([] : Sm) from rfl, nf_nil]
    refine ⟨by show 0 ≤ 1000000; decide, ⟨(pl_sm []).ok (by decide), (pl_sm []).ok (by decide)⟩, fun h => absurd (pl_sm []).refl h, fun _ => ?_⟩
    refine ⟨by show 0 ≤ 1000000; decide, rfl, n, [], Z, smD Z, rfl, .inl rfl, sm_none n, hZ.len, by decide, hZ200, ?_⟩
    rw [add_nil hZ]
    refine ⟨⟨(pl_sm Z).ok (by decide), (pl_sm Z).ok (by decide)⟩, fun h => absurd (pl_sm Z).refl h, fun _ => ?_⟩
    refine ⟨by show 2 ≤ 1000000; decide, sh2, fun b hb => ?_⟩
    have : b = true := hb.mpr rfl
    subst this
    exact hR
  · rintro k ds γ hk ⟨o5, o6, o7, o8, o9, o10, o11, o12, ct, hct, h9, rfl⟩ next
    refine ⟨⟨by omega, by omega⟩, ?_⟩
    show (rngD 0 ((n : Nat) : Int).toNat).length ≤ 1000000 ∧ lcD _ _ _ _ (rngD 0 ((n : Nat) : Int).toNat) [] _ _
    rw [Int.toNat_natCast]
    have hrl : (rngD 0 n).length = n := by unfold rngD; rw [List.length_map, List.length_range]
    refine ⟨by rw [hrl]; omega, ?_⟩
    refine lc_inv (fun ds acc γ => ∃ (is : List Int) (x11 : Sl), acc = is.map D.int ∧ (∀ i ∈ is, i.natAbs ≤ 4) ∧ ds.length + is.length = n ∧ γ = ⟨[.fz .dk, .fz (.int (n : Nat)), .fz (smD A), .fz (smD Z), .fz (.str (shX (.tup [smD A, smD Z]))), .fz (.int (0 + (k : Nat))), o6, o7, o8, o9, o10, x11, o12], ct + is.length⟩) ?_ ?_ _ _ _
      ⟨[], _, rfl, (fun _ h => by cases h), by rw [hrl]; rfl, rfl⟩
    rotate_left
    · rintro d ds acc γ ⟨is, x11, rfl, his, hil, rfl⟩ next1
      rw [List.length_cons] at hil
      refine ⟨fun _ => ⟨rfl, by show ct + is.length + 1 ≤ 12; omega, ⟨by decide, by decide⟩, fun v v0 v1 => ?_⟩, fun z => absurd trivial z⟩
      have v1 : v < 9 := v1
      refine next1 _ _ ⟨is ++ [v - 4], _, by rw [List.map_append]; rfl, fun x hx => ?_, by rw [List.length_append]; show ds.length + (is.length + 1) = n; omega, by rw [List.length_append]; rfl⟩
      rcases List.mem_append.mp hx with hx | hx
      · exact his x hx
      · cases List.mem_singleton.mp hx
        omega
    · rintro acc γ ⟨is, x11, rfl, his, hil, rfl⟩
      have hil : is.length = n := by rw [List.length_nil] at hil; omega
      have i4 : is.length ≤ 4 := by omega
      refine ⟨rfl, A, is, rfl, aw, i4, his, rfl, Z, is, rfl, zw, i4, his, ?_⟩
      refine ⟨rfl, n, A, Z, smD Z, rfl, .inl rfl, hA, hZ.len, hA200, hZ200, rfl, n, A, Z, rfl, hA, hZ.len, hA200, hZ200, rfl, n, A, Z, rfl, hn, hA, hZ, a12, z12, by show 5 ≤ 1000000; decide, ?_⟩
      refine ⟨by show 5 ≤ 1000000; decide, ?_⟩
      show lcD _ _ _ _ ([nf (addAll A Z), nf (addAll A (negS Z)), nf (addAll [] (prods A Z)), A, Z].map smD) [] _ _
      refine lc_filt smD smD (fun _ => false) [nf (addAll A Z), nf (addAll A (negS Z)), nf (addAll [] (prods A Z)), A, Z] ?_ [nf (addAll A Z), nf (addAll A (negS Z)), nf (addAll [] (prods A Z)), A, Z] [] _ (fun _ h => h) ?_
      · intro L hL R' R'' k1 k2
        have t := told L hL
        have ts := sum_sm t.ok
        refine ⟨rfl, n, smD L, rfl, t.okd, fun h => absurd ts h, fun _ => ⟨rfl, n, smD L, rfl, t.okd, fun h => ?_, fun _ => k2 rfl _ rfl⟩⟩
        exact absurd (h.mp ts) (by decide)
      rw [List.nil_append, List.filter_eq_nil_iff.mpr (fun _ _ => by decide)]
      refine ⟨by show 0 ≤ 1000000; decide, fun h => absurd rfl h, fun _ => ?_⟩
      have hmul : CMulX (worth A is) (worth Z is) := mul_bits (worth_small his hn hA a1 (by decide)) (worth_small his hn hZ z1 (by decide)) (by decide)
      have eL : [nf (addAll A Z), nf (addAll A (negS Z)), nf (addAll [] (prods A Z)), A, Z].map (fun L => D.int (worth L is)) = [worth A is + worth Z is, worth A is - worth Z is, worth A is * worth Z is, worth A is, worth Z is].map D.int := by
        show [D.int (worth (nf (addAll A Z)) is), .int (worth (nf (addAll A (negS Z))) is), .int (worth (nf (addAll [] (prods A Z))) is), .int (worth A is), .int (worth Z is)] = _
        rw [s3, l3, m3, neg_worth, ← Int.sub_eq_add_neg]
        rfl
      refine ⟨by show 5 ≤ 1000000; decide, ?_⟩
      show lcD _ _ _ _ ([nf (addAll A Z), nf (addAll A (negS Z)), nf (addAll [] (prods A Z)), A, Z].map smD) [] _ _
      refine lc_filt smD (fun L => .int (worth L is)) (fun _ => true) [nf (addAll A Z), nf (addAll A (negS Z)), nf (addAll [] (prods A Z)), A, Z] (fun L hL R' R'' k1 k2 => ⟨fun _ => ⟨rfl, L, is, rfl, (told L hL).le, i4, his, k1 rfl _ rfl⟩, fun q => absurd trivial q⟩) [nf (addAll A Z), nf (addAll A (negS Z)), nf (addAll [] (prods A Z)), A, Z] [] _ (fun _ h => h) ?_
      rw [List.nil_append, List.filter_eq_self.mpr (fun _ _ => rfl), eL]
      refine ⟨hmul, by show 5 ≤ 1000000; decide, ⟨(pl_ints _).ok (by decide), (pl_ints [worth A is + worth Z is, worth A is - worth Z is, worth A is * worth Z is, worth A is, worth Z is]).ok (by decide)⟩, fun h => absurd (pl_ints [worth A is + worth Z is, worth A is - worth Z is, worth A is * worth Z is, worth A is, worth Z is]).refl h, fun _ => ?_⟩
      refine ⟨by show 5 ≤ 1000000; decide, ?_⟩
      show lcD _ _ _ _ ([nf (addAll A Z), nf (addAll A (negS Z)), nf (addAll [] (prods A Z)), A, Z].map smD) [] _ _
      refine lc_filt smD (fun L => .int (worth L is)) (fun _ => true) [nf (addAll A Z), nf (addAll A (negS Z)), nf (addAll [] (prods A Z)), A, Z] (fun L hL R' R'' k1 k2 => ⟨fun _ => ⟨rfl, L, is, rfl, (told L hL).le, i4, his, k1 rfl _ rfl⟩, fun q => absurd trivial q⟩) [nf (addAll A Z), nf (addAll A (negS Z)), nf (addAll [] (prods A Z)), A, Z] [] _ (fun _ h => h) ?_
      rw [List.nil_append, List.filter_eq_self.mpr (fun _ _ => rfl), eL]
      refine ⟨hmul, by show 5 ≤ 1000000; decide, ⟨(pl_ints _).ok (by decide), (pl_ints [worth A is + worth Z is, worth A is - worth Z is, worth A is * worth Z is, worth A is, worth Z is]).ok (by decide)⟩, fun h => absurd (pl_ints [worth A is + worth Z is, worth A is - worth Z is, worth A is * worth Z is, worth A is, worth Z is]).refl h, fun _ => ?_⟩
      exact next _ ⟨_, _, _, _, _, _, _, _, ct + is.length, by omega, fun _ => rfl, rfl⟩
end
end K28
namespace K28
open PySem PySem.Spec PyProof.Rows L2 EL PH
section
variable {P : Program} {w : World} {K : PySem.W.Frag} {mg : Str → Option Value} {base : Heap}
def spLaw (K : PySem.W.Frag) : Sp := fun vs H Q _ => ∃ (a : Addr) (ns : List Int), vs = [.ref a] ∧ SqL K H a (ns.map V.int) ∧ ns.length ≤ 63 ∧ ∀ H', Q (.bl true) H'
abbrev GT_law (P : Program) (w : World) (base : Heap) (T : Tops K w mg) : Prop := PH.FnG P w K mg base CX0 12 T.f_law T.d_law ["_law_script"] (spLaw K)
theorem ok_law (T : Tops K w mg) (G__law_deck : FnOk P w K mg base CX0 1 T.f__law_deck T.d__law_deck ["_law_script"] (spDeck K)) (G__law_draw : GT__law_draw P w base T) (G__law_sum : GT__law_sum P w base T) (G__law_both_right : GT__law_both_right P w base T) (G__law_bent : GT__law_bent P w base T) (G_is_sum : GT_is_sum P w base T) (G__law_is_sum : GT__law_is_sum P w base T) : GT_law P w base T := by
  refine Fun.okG T.N_law.F sc_law ?_ ?_
  · rintro vs H Q E ⟨a, ns, rfl, _⟩
    rfl
  intro cdv A outer s H vs Q E hg hr h
  obtain ⟨a, ns, rfl, hs, hl, hQ⟩ := h
  refine ⟨_, pss_cons (ps_set (i := 1) sc_law.nd rfl (Or.inl rfl) (pe_call G__law_deck (hr.mono (by decide)) rfl T.N__law_deck.m T.N__law_deck.F.kp T.N__law_deck.b .nil pass0 (pa_cons (pv 0) pa_nil)))
    (ss_x (K := K) (cl := clT) (DkF := Deck) fun dk H0 G0 hB => (ss_cons (s_for (vs := [2]) (ps_for PassesOwn.never rfl (i_rng1 (pi_range1 rfl T.z_range (a_cons d_int a_nil))) (g_name (vs := [2]) (pg_name (i := 2) sc_law.nd rfl (Or.inl rfl)))
    (ss_cons (s_set (i := 3) (ps_set (i := 3) sc_law.nd rfl (Or.inl rfl) (d_callCc (cc := 2 ^ 50) rfl hB (pe_call G__law_draw (hr.mono (by decide)) rfl T.N__law_draw.m T.N__law_draw.F.kp T.N__law_draw.b .nil pass0 (a_cons (d_var 1 (pv 1)) (a_cons d_int a_nil))))))
    (ss_cons (s_par (ps_par (i := 4) (j := 5) rfl sc_law.nd rfl rfl (by decide) rfl rfl (a_cons (d_callCc (cc := 2 ^ 50) rfl hB (pe_call G__law_sum (hr.mono (by decide)) rfl T.N__law_sum.m T.N__law_sum.F.kp T.N__law_sum.b .nil pass0 (a_cons (d_var 1 (pv 1)) (a_cons (d_var 3 (pv 3)) (a_cons d_int a_nil))))) (a_cons (d_callCc (cc := 2 ^ 50) rfl hB (pe_call G__law_sum (hr.mono (by decide)) rfl T.N__law_sum.m T.N__law_sum.F.kp T.N__law_sum.b .nil pass0 (a_cons (d_var 1 (pv 1)) (a_cons (d_var 3 (pv 3)) (a_cons d_int a_nil))))) a_nil)) (by rfl)))
    (ss_cons (s_set (i := 5) (ps_set (i := 5) sc_law.nd rfl (Or.inl rfl) (d_item rfl (d_f (f_lst (a_cons (d_var 5 (pv 5)) (a_cons (d_var 4 (pv 4)) (a_cons (d_cb (ok_tupOf rfl) (pe_callTy call_tuple_of (by rfl) T.z_tuple (by decide +kernel) (a_cons (d_f (f_lc (pe_lc (own := [("_law_powers", 12), ("_law_number_here", 13)]) rfl sc_law.nd (i_seq rfl (d_var 4 (pv 4))) (blkOk_by (own := [("_law_powers", 12), ("_law_number_here", 13)]) (N := N_sc_law) (sc := defScope s_law) (by decide +kernel)) (fun _ _ _ _ _ => gx (vs := [12, 13]) fun _ => (g_tup (bl_cons tame_n (bl_cons tame_n bl_nil)) (pg_tup (n := 2) rfl (gs_cons (g_name (vs := [12, 13]) (pg_name (i := 12) sc_law.nd rfl (Or.inl rfl))) (gs_cons (g_name (vs := [12, 13]) (pg_name (i := 13) sc_law.nd rfl (Or.inl rfl))) (gs_nil (vs := [12, 13])) (pgs_cons (g_name (vs := [12, 13]) (pg_name (i := 13) sc_law.nd rfl (Or.inl rfl))) (gs_nil (vs := [12, 13])))) (pgs_cons (g_name (vs := [12, 13]) (pg_name (i := 12) sc_law.nd rfl (Or.inl rfl))) (gs_cons (g_name (vs := [12, 13]) (pg_name (i := 13) sc_law.nd rfl (Or.inl rfl))) (gs_nil (vs := [12, 13])) (pgs_cons (g_name (vs := [12, 13]) (pg_name (i := 13) sc_law.nd rfl (Or.inl rfl))) (gs_nil (vs := [12, 13]))))))))) (fun _ _ _ _ _ => bx_yes) (fun _ _ _ _ _ => dx fun h0 => (d_tup (a_cons (d_var 12 (pv 12)) (a_cons (d_sub d_int (d_var 13 (pv 13))) a_nil))))))) a_nil))) (a_cons (d_var 5 (pv 5)) a_nil)))))) (d_callCc (cc := 2 ^ 50) rfl hB (pe_call G__law_draw (hr.mono (by decide)) rfl T.N__law_draw.m T.N__law_draw.F.kp T.N__law_draw.b .nil pass0 (a_cons (d_var 1 (pv 1)) (a_cons d_int a_nil)))) (fun _ _ => rfl))))
    (ss_cons (s_if (b_not (b_val (d_callCc (cc := 2 ^ 50) rfl hB (pe_callG G__law_both_right hg (hr.mono (by decide)) rfl T.N__law_both_right.m T.N__law_both_right.F.kp T.N__law_both_right.b (a_cons (d_var 1 (pv 1)) (a_cons (d_var 3 (pv 3)) (a_cons (d_var 4 (pv 4)) (a_cons (d_var 5 (pv 5)) a_nil)))))))) (ss_one (s_ret d_bl)) ss_nil)
    (ss_cons (s_own (i := 6) (ps_set (i := 6) sc_law.nd rfl (Or.inl rfl) (f_lst (a_cons d_non (a_cons d_bl (a_cons d_int (a_cons d_str (a_cons (d_tup a_nil) (a_cons (d_f (f_lst a_nil)) (a_cons (d_fd (f_dnew pe_dnewK)) (a_cons (d_tup (a_cons d_int a_nil)) (a_cons (d_tup (a_cons (d_tup a_nil) a_nil)) (a_cons (d_tup (a_cons (d_tup a_nil) (a_cons d_int a_nil))) (a_cons (d_tup (a_cons (d_tup (a_cons (d_tup a_nil) (a_cons d_int a_nil))) a_nil)) (a_cons (d_tup (a_cons (d_tup (a_cons (d_repT rfl (d_tup (a_cons d_int a_nil)) (d_var 3 (pv 3))) (a_cons d_int a_nil))) a_nil)) (a_cons (d_f (f_listOf rfl (pe_callTy call_list_of (by rfl) T.z_list (by decide +kernel) (a_cons (d_var 4 (pv 4)) a_nil)))) a_nil))))))))))))))))
    (ss_cons (s_for (vs := [7]) (ps_for PassesOwn.never rfl (i_rng1 (pi_range1 rfl T.z_range (a_cons d_int a_nil))) (g_name (vs := [7]) (pg_name (i := 7) sc_law.nd rfl (Or.inl rfl)))
    (ss_cons (s_set (i := 8) (ps_set (i := 8) sc_law.nd rfl (Or.inl rfl) (d_cmp (op_eqPP hr.units) (ok_eqP rfl) (d_callCc (cc := 2 ^ 50) rfl hB (pe_call G__law_draw (hr.mono (by decide)) rfl T.N__law_draw.m T.N__law_draw.F.kp T.N__law_draw.b .nil pass0 (a_cons (d_var 1 (pv 1)) (a_cons d_int a_nil)))) d_int (nomark _))))
    (ss_cons (s_set (i := 9) (ps_set (i := 9) sc_law.nd rfl (Or.inl rfl) (d_callCc (cc := 2 ^ 50) rfl hB (pe_callG G__law_bent hg (hr.mono (by decide)) rfl T.N__law_bent.m T.N__law_bent.F.kp T.N__law_bent.b (a_cons (d_var 1 (pv 1)) (a_cons (d_var 4 (pv 4)) a_nil))))))
    (ss_cut (s_if (b_val (d_var 8 (pv 8))) (ss_one (s_set (i := 9) (ps_set (i := 9) sc_law.nd rfl (Or.inl rfl) (d_callCc (cc := 2 ^ 50) rfl hB (pe_callG G__law_bent hg (hr.mono (by decide)) rfl T.N__law_bent.m T.N__law_bent.F.kp T.N__law_bent.b (a_cons (d_var 1 (pv 1)) (a_cons (d_var 9 (pv 9)) a_nil))))))) ss_nil)
    (ss_one (s_expr (ps_expr (d_mut ok_appM (pe_bm PySem.F.plainAttrs_list PySem.F.slot_list_append PySem.F.type_list_append mt_append (pv 6) (a_cons (d_var 9 (pv 9)) a_nil)))))))))))
    (ss_one (s_for (vs := [9]) (ps_for PassesOwn.never rfl (i_seq rfl (d_add rfl (d_add rfl (d_f (f_lst (a_cons (d_var 4 (pv 4)) a_nil))) (d_var 6 (pv 6))) (d_f (f_lst (a_cons (d_var 4 (pv 4)) a_nil))))) (g_name (vs := [9]) (pg_name (i := 9) sc_law.nd rfl (Or.inl rfl)))
    (ss_cons (s_set (i := 10) (ps_set (i := 10) sc_law.nd rfl (Or.inl rfl) (d_cb (ok_reprX rfl) (pe_callB (cr_reprX hg hr) (by rfl) T.z_repr (by decide +kernel) (a_cons (d_var 9 (pv 9)) a_nil)))))
    (ss_cons (s_set (i := 11) (ps_set (i := 11) sc_law.nd rfl (Or.inl rfl) (d_call hB (pe_call G_is_sum (hr.mono (by decide)) rfl T.N_is_sum.m T.N_is_sum.F.kp T.N_is_sum.b .nil pass0 (a_cons (d_var 3 (pv 3)) (a_cons (d_var 9 (pv 9)) a_nil))))))
    (ss_one (s_if (PW.pt (bw_or (b_not (b_val (d_cb (ok_isi rfl kt_bool) (pe_callB (call_isiB (T := "bool")) (by rfl) T.z_isinstance (by decide +kernel) (a_cons (d_var 11 (pv 11)) (a_cons (d_opq (pe_bltn (by rfl) T.z_bool (by decide +kernel) (show RelV (.ty "bool") (.type "bool") from rfl))) a_nil)))))) (bw_or (b_cmp (op_nePP hr.units) (ok_neP rfl) (d_var 11 (pv 11)) (d_call hB (pe_call G__law_is_sum (hr.mono (by decide)) rfl T.N__law_is_sum.m T.N__law_is_sum.F.kp T.N__law_is_sum.b .nil pass0 (a_cons (d_var 3 (pv 3)) (a_cons (d_var 9 (pv 9)) a_nil)))) (nomark _)) (bw_or1 (b_cmp (op_nePP hr.units) (ok_neP rfl) (d_cb (ok_reprX rfl) (pe_callB (cr_reprX hg hr) (by rfl) T.z_repr (by decide +kernel) (a_cons (d_var 9 (pv 9)) a_nil))) (d_var 10 (pv 10)) (nomark _)))))) (ss_one (s_ret d_bl)) ss_nil)))))))))))))))
    (ss_one (s_ret d_bl)))), ?_⟩
  refine ⟨_, rfl, ?_⟩
  dsimp only [tNil, tC, tCons]
  refine ⟨a, ns, rfl, hs, hl, fun H1 d c s1 nd nc Dk => ?_⟩
  refine ⟨deckLaw, deckUp, some (d, c), H1, noDk H1 d c, noDk H1 d c, ⟨[.un, .fz .dk, .un, .un, .un, .un, .un, .un, .un, .un, .un, .un, .un, .un], 0⟩, ⟨fun _ => False, fun r _ => r = .bl true, fun _ => False, fun _ => False⟩, deck_in deckLaw deckUp Dk (Nat.zero_le _) rfl ?_, ?_, ?_⟩
  · intro i s e
    match i, e with
    | 0, e => exact .inl (by simpa using e.symm)
    | 1, e => exact .inr ⟨by simpa using e.symm, rfl⟩
    | i + 2, e =>
      refine .inl ?_
      simp at e
      have h2 := List.mem_of_getElem? e
      simpa using h2
  rotate_left
  · exact ⟨fun _ _ _ _ q => q.elim, fun r γ G' σ v H' q _ _ rv => by
      subst q
      cases rpBl rv
      exact hQ H', fun _ _ _ _ q => q.elim, fun _ _ _ _ q => q.elim⟩
  refine ⟨⟨by decide, by decide⟩, ?_⟩
  show forD _ _ _ (rngD 0 6) _
  refine for_rng (fun k γ => ∃ (o2 o3 o4 o5 o6 o7 o8 o9 o10 o11 o12 o13 : Sl) (ct : Nat), ct ≤ 1100 * k ∧ γ = ⟨[.un, .fz .dk, o2, o3, o4, o5, o6, o7, o8, o9, o10, o11, o12, o13], ct⟩) ?_ ?_ _ ⟨_, _, _, _, _, _, _, _, _, _, _, _, 0, Nat.le_refl _, rfl⟩
  · rintro γ ⟨o2, o3, o4, o5, o6, o7, o8, o9, o10, o11, o12, o13, ct, hct, rfl⟩
    rfl
  · rintro k ds γ hk ⟨o2, o3, o4, o5, o6, o7, o8, o9, o10, o11, o12, o13, ct, hct, rfl⟩ next
    refine ⟨rfl, by show ct + 1 ≤ 2 ^ 50; omega, ⟨by decide, by decide⟩, fun n' n0 n1 => ?_⟩
    have n1 : n' < 5 := n1
    obtain ⟨n, rfl⟩ := Int.eq_ofNat_of_zero_le n0
    have hn : n ≤ 4 := by omega
    refine ⟨rfl, by show ct + 1 + 121 ≤ 2 ^ 50; omega, n, 8, rfl, hn, by decide, fun A hA a1 => ⟨rfl, by show ct + 1 + 121 + 121 ≤ 2 ^ 50; omega, n, 12, rfl, hn, by decide, fun Z0 hZ0 z0 => ?_⟩⟩
    have mA := a1.many
    show (A.map tmD).length ≤ 1000000 ∧ lcD _ _ _ _ (A.map tmD) [] _ _
    refine ⟨by rw [List.length_map]; omega, ?_⟩
    refine lc_filt tmD (fun t => tmD (t.1, 0 - t.2)) (fun _ => true) A (fun t ht R' R'' k1 k2 => ⟨fun _ => ⟨by show 2 ≤ 1000000; decide, k1 rfl _ rfl⟩, fun q => absurd trivial q⟩) A [] _ (fun _ h => h) ?_
    have en : ([] : List D) ++ (A.filter fun _ => true).map (fun t => tmD (t.1, 0 - t.2)) = (negS A).map tmD := by
      rw [List.nil_append, List.filter_eq_self.mpr (fun _ _ => rfl)]
      unfold negS
      rw [List.map_map]
      refine List.map_congr_left fun t _ => ?_
      rw [Int.zero_sub]
      rfl
    rw [en]
    refine ⟨by show 4 ≤ 1000000; decide, rfl, by show ct + 1 + 121 + 121 + 1 ≤ 2 ^ 50; omega, ⟨by decide, by decide⟩, fun j j0 j1 => ?_⟩
    have j1 : j < 4 := j1
    obtain ⟨Z, hat, hZ, z1⟩ : ∃ Z : Sm, atI [smD Z0, smD A, smD (negS A), smD Z0] j = some (smD Z) ∧ SmOk n Z ∧ SmLe 12 10 38 Z := by
      obtain ⟨i, rfl⟩ := Int.eq_ofNat_of_zero_le j0
      have : i = 0 ∨ i = 1 ∨ i = 2 ∨ i = 3 := by omega
      rcases this with rfl | rfl | rfl | rfl
      · exact ⟨Z0, at_nat _ 0 _ rfl, hZ0, z0⟩
      · exact ⟨A, at_nat _ 1 _ rfl, hA, a1.mono (by decide) (by decide) (by decide)⟩
      · exact ⟨negS A, at_nat _ 2 _ rfl, neg_ok hA, (neg_le a1).mono (by decide) (by decide) (by decide)⟩
      · exact ⟨Z0, at_nat _ 3 _ rfl, hZ0, z0⟩
    refine ⟨smD Z, hat, ?_⟩
    refine ⟨rfl, by show ct + 1 + 121 + 121 + 1 + 12 ≤ 2 ^ 50; omega, n, A, Z, rfl, hn, hA, hZ, a1, z1, fun h => absurd rfl h, fun _ => ?_⟩
    obtain ⟨nA, nA2⟩ := nc_sm hA a1 hn (by decide) (by decide) (by decide)
    repeat (refine ⟨Nat.le_of_ble_eq_true rfl, ?_⟩)
    have nth : ∀ d ∈ [D.non, .bl true, .int 0, .str "", .tup [], .lst [], .dct [], .tup [.int 0], .tup [.tup []], .tup [.tup [], .int 1], .tup [.tup [.tup [], .int 1]], .tup [.tup [.tup (List.replicate n (.int 0)), .int 0]], .lst (A.map tmD)], Nc d := things_nc hn nA2
    refine ⟨.int 0, n, rfl, rfl, by omega, by show 2 ≤ 1000000; decide, by show 1 ≤ 1000000; decide, by show 13 ≤ 1000000; decide, fun p => ?_⟩
    refine ⟨⟨by decide, by decide⟩, ?_⟩
    show forD _ _ _ (rngD 0 12) _
    refine for_rng (fun j γ => ∃ (ys : List D) (o7 o8 o9 o10 o11 o12 o13 : Sl) (c2 : Nat), ys.length = 13 + j ∧ (∀ y ∈ ys, Nc y) ∧ c2 ≤ ct + 256 + 65 * j ∧ γ = ⟨[.un, .fz .dk, .fz (.int (0 + (k : Nat))), .fz (.int (n : Nat)), .fz (smD A), .fz (smD Z), .own p ys, o7, o8, o9, o10, o11, o12, o13], c2⟩) ?_ ?_ _
      ⟨[D.non, .bl true, .int 0, .str "", .tup [], .lst [], .dct [], .tup [.int 0], .tup [.tup []], .tup [.tup [], .int 1], .tup [.tup [.tup [], .int 1]], .tup [.tup [.tup (List.replicate n (.int 0)), .int 0]], .lst (A.map tmD)], _, _, _, _, _, _, _, ct + 256, rfl, nth, by omega, rfl⟩
    · rintro γ ⟨ys, o7, o8, o9, o10, o11, o12, o13, c2, hy, hN, hc, rfl⟩
      refine ⟨by show 1 ≤ 1000000; decide, by show 1 + ys.length ≤ 1000000; omega, by show 1 ≤ 1000000; decide, by show ([smD A] ++ ys).length + 1 ≤ 1000000; rw [List.length_append]; show 1 + ys.length + 1 ≤ 1000000; omega, ?_⟩
      show forD _ _ _ ([smD A] ++ ys ++ [smD A]) _
      refine for_invL (fun ds γ => (∀ d ∈ ds, Nc d) ∧ ∃ (o9 o10 o11 : Sl), γ = ⟨[.un, .fz .dk, .fz (.int (0 + (k : Nat))), .fz (.int (n : Nat)), .fz (smD A), .fz (smD Z), .fz (.lst ys), o7, o8, o9, o10, o11, o12, o13], c2⟩) ?_ ?_ _ _ ⟨fun d hd => ?_, _, _, _, rfl⟩
      · rintro γ ⟨-, o9, o10, o11, rfl⟩
        exact next _ ⟨_, _, _, _, _, _, _, _, _, _, _, _, c2, by omega, rfl⟩
      · rintro d ds γ ⟨hds, o9, o10, o11, rfl⟩ next3
        have hd := hds d List.mem_cons_self
        exact ⟨hd.show, rfl, n, d, rfl, hd.ok, _, rfl, fun h => (h rfl).elim, fun _ => ⟨rfl, n, d, rfl, hd.ok, fun h => absurd rfl h, fun _ => ⟨hd.show, fun h => absurd rfl h, fun _ => next3 _ ⟨fun x hx => hds x (List.mem_cons_of_mem _ hx), _, _, _, rfl⟩⟩⟩⟩
      · rcases List.mem_append.mp hd with hd | hd
        · rcases List.mem_append.mp hd with hd | hd
          · cases List.mem_singleton.mp hd; exact nA
          · exact hN d hd
        · cases List.mem_singleton.mp hd; exact nA
    · rintro j es γ hj ⟨ys, o7, o8, o9, o10, o11, o12, o13, c2, hy, hN, hc, rfl⟩ next2
      refine ⟨rfl, by show c2 + 1 ≤ 2 ^ 50; omega, ⟨by decide, by decide⟩, fun t t0 t1 b hb => ?_⟩
      have wA := wx_sm hA a1 hn (by decide)
      have dA := dpx_sm A
      refine ⟨rfl, by show c2 + 1 + 32 ≤ 2 ^ 50; omega, smD A, 0, rfl, by decide, kd_sm a1 (by decide) (by decide), by omega, Nat.le_trans dA (by decide), fun d1 e1 e2 e3 => ?_⟩
      refine ⟨fun γ => ∃ (d : D) (c3 : Nat), Nc d ∧ c3 ≤ c2 + 65 ∧ γ = ⟨[.un, .fz .dk, .fz (.int (0 + (k : Nat))), .fz (.int (n : Nat)), .fz (smD A), .fz (smD Z), .own p ys, .fz (.int (0 + (j : Nat))), .fz (.bl b), .fz d, o10, o11, o12, o13], c3⟩, ⟨fun _ => ?_, fun _ => ?_⟩, ?_⟩
      · exact ⟨rfl, by show c2 + 1 + 32 + 32 ≤ 2 ^ 50; omega, d1, 1, rfl, by decide, e1, by omega, Nat.le_trans (Nat.le_trans e3 (Nat.add_le_add_right dA 2)) (by decide), fun d2 f1 f2 f3 => ⟨d2, c2 + 65, ⟨f1, by omega, by omega⟩, Nat.le_refl _, rfl⟩⟩
      · exact ⟨d1, c2 + 33, ⟨kd_mono (by decide) _ e1, by omega, by omega⟩, by omega, rfl⟩
      · rintro γ ⟨d, c3, hd, hc3, rfl⟩
        refine ⟨⟨_, _, rfl⟩, by show ys.length < 1000000; omega, next2 _ ⟨ys ++ [d], _, _, _, _, _, _, _, c3, by rw [List.length_append, hy]; rfl, List.forall_mem_append.mpr ⟨hN, fun y h => ?_⟩, by omega, rfl⟩⟩
        cases List.mem_singleton.mp h
        exact hd
end
end K28
namespace K28
open PySem PySem.Spec PyProof.Rows L2 EL PH
section
variable {P : Program} {w : World} {K : PySem.W.Frag} {mg : Str → Option Value} {base : Heap}
theorem all_law (T : Tops K w mg) : GT_law P w base T :=
  have G__law_deck := ok_deck (w := w) (base := base) (P := P) T.N__law_deck.F T.z_list T.z_sum T.z_len
  have G__law_draw := ok__law_draw (w := w) (base := base) (P := P) T
  have G_is_whole : GT_is_whole P w base T := ok_is_whole T 
  have G__law_whole : GT__law_whole P w base T := ok__law_whole T 
  have G_is_term : GT_is_term P w base T := ok_is_term T G_is_whole
  have G_is_sum : GT_is_sum P w base T := ok_is_sum T G_is_term
  have G_raised : GT_raised P w base T := ok_raised T 
  have G_worth_at : GT_worth_at P w base T := ok_worth_at T G_raised
  have G__law_worth : GT__law_worth P w base T := ok__law_worth T 
  have G__law_is_sum : GT__law_is_sum P w base T := ok__law_is_sum T G__law_whole
  have G_sum_of : GT_sum_of P w base T := ok_sum_of T 
  have G_greatest_power : GT_greatest_power P w base T := ok_greatest_power T 
  have G_packed : GT_packed P w base T := ok_packed T 
  have G_unpacked : GT_unpacked P w base T := ok_unpacked T 
  have G_added : GT_added P w base T := ok_added T G_sum_of
  have G_lessened : GT_lessened P w base T := ok_lessened T G_added
  have G_times : GT_times P w base T := ok_times T G_greatest_power G_packed G_unpacked
  have G__law_number : GT__law_number P w base T := ok__law_number T G__law_draw
  have G__law_sum : GT__law_sum P w base T := ok__law_sum T G__law_draw G__law_number
  have G__law_odd : GT__law_odd P w base T := ok__law_odd T G__law_draw
  have G__law_bent : GT__law_bent P w base T := ok__law_bent T G__law_draw G__law_odd
  have G__law_both_right : GT__law_both_right P w base T := ok__law_both_right T G__law_draw G__law_worth G_added G_lessened G_times G_is_sum G__law_is_sum G_worth_at
  ok_law T G__law_deck G__law_draw G__law_sum G__law_both_right G__law_bent G_is_sum G__law_is_sum
end
theorem fns_mk {K : PySem.W.Frag} {h : Heap} {mg : Str → Option Value} {x : Str} {i : Nat} {ps : List Str} {f : Addr} {oc : Value} {od an : Option Addr} {osl : Array (Option Value)} {kV doc pm cdv ct : Value} (X : K.In h) (G : h.Ns mainGlobals mg)
    (a : PySem.W.nsIn K mainGlobals x = some (some (.ref f)))
    (l : K.lookup f = some ⟨oc, od, .func (PySem.W.fnOf x x (defArgs (topS i)) (defBody (topS i)) (defScope (topS i)) .none kV doc pm an cdv ct), osl⟩) (c : PySem.W.codeIn K cdv x = true) (k : PySem.W.keepIn K (.ref f) = true)
    (hb : ∀ (kV doc pm : Value) (an : Option Addr) (cdv ct : Value) (us : List Value), us.length = ps.length → bindArgs (PySem.W.fnOf x x (defArgs (topS i)) (defBody (topS i)) (defScope (topS i)) .none kV doc pm an cdv ct) ⟨us, []⟩ = pure (ps.zip us)) :
    Fns K mg f (PySem.W.fnOf x x (defArgs (topS i)) (defBody (topS i)) (defScope (topS i)) .none kV doc pm an cdv ct) x i ps :=
  ⟨fun_mk (st := topS i) l c k, (fun_mk (st := topS i) l c k).binds hb, PySem.W.mg_of X G a⟩
theorem all_mk {P : Program} {w : World} {K : PySem.W.Frag} {h : Heap} {mg : Str → Option Value} {fa : Addr} (X : K.In h) (G : h.Ns mainGlobals mg) (hfa : mg "law" = some (.ref fa))
    {f1 f3 f4 f5 f6 f7 f8 f9 f10 f11 f12 f13 f15 f16 f17 f18 f19 f20 f21 f22 f23 f24 f25 : Addr} {od1 an1 od3 an3 od4 an4 od5 an5 od6 an6 od7 an7 od8 an8 od9 an9 od10 an10 od11 an11 od12 an12 od13 an13 od15 an15 od16 an16 od17 an17 od18 an18 od19 an19 od20 an20 od21 an21 od22 an22 od23 an23 od24 an24 od25 an25 : Option Addr} {sl1 sl3 sl4 sl5 sl6 sl7 sl8 sl9 sl10 sl11 sl12 sl13 sl15 sl16 sl17 sl18 sl19 sl20 sl21 sl22 sl23 sl24 sl25 : Array (Option Value)} {oc1 kV1 dc1 pm1 cd1 ct1 oc3 kV3 dc3 pm3 cd3 ct3 oc4 kV4 dc4 pm4 cd4 ct4 oc5 kV5 dc5 pm5 cd5 ct5 oc6 kV6 dc6 pm6 cd6 ct6 oc7 kV7 dc7 pm7 cd7 ct7 oc8 kV8 dc8 pm8 cd8 ct8 oc9 kV9 dc9 pm9 cd9 ct9 oc10 kV10 dc10 pm10 cd10 ct10 oc11 kV11 dc11 pm11 cd11 ct11 oc12 kV12 dc12 pm12 cd12 ct12 oc13 kV13 dc13 pm13 cd13 ct13 oc15 kV15 dc15 pm15 cd15 ct15 oc16 kV16 dc16 pm16 cd16 ct16 oc17 kV17 dc17 pm17 cd17 ct17 oc18 kV18 dc18 pm18 cd18 ct18 oc19 kV19 dc19 pm19 cd19 ct19 oc20 kV20 dc20 pm20 cd20 ct20 oc21 kV21 dc21 pm21 cd21 ct21 oc22 kV22 dc22 pm22 cd22 ct22 oc23 kV23 dc23 pm23 cd23 ct23 oc24 kV24 dc24 pm24 cd24 ct24 oc25 kV25 dc25 pm25 cd25 ct25 : Value}
    (a1 : PySem.W.nsIn K mainGlobals "is_whole" = some (some (.ref f1)))
    (l1 : K.lookup f1 = some ⟨oc1, od1, .func (PySem.W.fnOf "is_whole" "is_whole" (defArgs (topS 1)) (defBody (topS 1)) (defScope (topS 1)) .none kV1 dc1 pm1 an1 cd1 ct1), sl1⟩)
    (c1 : PySem.W.codeIn K cd1 "is_whole" = true)
    (k1 : PySem.W.keepIn K (.ref f1) = true)
    (a3 : PySem.W.nsIn K mainGlobals "is_sum" = some (some (.ref f3)))
    (l3 : K.lookup f3 = some ⟨oc3, od3, .func (PySem.W.fnOf "is_sum" "is_sum" (defArgs (topS 3)) (defBody (topS 3)) (defScope (topS 3)) .none kV3 dc3 pm3 an3 cd3 ct3), sl3⟩)
    (c3 : PySem.W.codeIn K cd3 "is_sum" = true)
    (k3 : PySem.W.keepIn K (.ref f3) = true)
    (a4 : PySem.W.nsIn K mainGlobals "added" = some (some (.ref f4)))
    (l4 : K.lookup f4 = some ⟨oc4, od4, .func (PySem.W.fnOf "added" "added" (defArgs (topS 4)) (defBody (topS 4)) (defScope (topS 4)) .none kV4 dc4 pm4 an4 cd4 ct4), sl4⟩)
    (c4 : PySem.W.codeIn K cd4 "added" = true)
    (k4 : PySem.W.keepIn K (.ref f4) = true)
    (a5 : PySem.W.nsIn K mainGlobals "lessened" = some (some (.ref f5)))
    (l5 : K.lookup f5 = some ⟨oc5, od5, .func (PySem.W.fnOf "lessened" "lessened" (defArgs (topS 5)) (defBody (topS 5)) (defScope (topS 5)) .none kV5 dc5 pm5 an5 cd5 ct5), sl5⟩)
    (c5 : PySem.W.codeIn K cd5 "lessened" = true)
    (k5 : PySem.W.keepIn K (.ref f5) = true)
    (a6 : PySem.W.nsIn K mainGlobals "times" = some (some (.ref f6)))
    (l6 : K.lookup f6 = some ⟨oc6, od6, .func (PySem.W.fnOf "times" "times" (defArgs (topS 6)) (defBody (topS 6)) (defScope (topS 6)) .none kV6 dc6 pm6 an6 cd6 ct6), sl6⟩)
    (c6 : PySem.W.codeIn K cd6 "times" = true)
    (k6 : PySem.W.keepIn K (.ref f6) = true)
    (a7 : PySem.W.nsIn K mainGlobals "worth_at" = some (some (.ref f7)))
    (l7 : K.lookup f7 = some ⟨oc7, od7, .func (PySem.W.fnOf "worth_at" "worth_at" (defArgs (topS 7)) (defBody (topS 7)) (defScope (topS 7)) .none kV7 dc7 pm7 an7 cd7 ct7), sl7⟩)
    (c7 : PySem.W.codeIn K cd7 "worth_at" = true)
    (k7 : PySem.W.keepIn K (.ref f7) = true)
    (a8 : PySem.W.nsIn K mainGlobals "is_term" = some (some (.ref f8)))
    (l8 : K.lookup f8 = some ⟨oc8, od8, .func (PySem.W.fnOf "is_term" "is_term" (defArgs (topS 8)) (defBody (topS 8)) (defScope (topS 8)) .none kV8 dc8 pm8 an8 cd8 ct8), sl8⟩)
    (c8 : PySem.W.codeIn K cd8 "is_term" = true)
    (k8 : PySem.W.keepIn K (.ref f8) = true)
    (a9 : PySem.W.nsIn K mainGlobals "sum_of" = some (some (.ref f9)))
    (l9 : K.lookup f9 = some ⟨oc9, od9, .func (PySem.W.fnOf "sum_of" "sum_of" (defArgs (topS 9)) (defBody (topS 9)) (defScope (topS 9)) .none kV9 dc9 pm9 an9 cd9 ct9), sl9⟩)
    (c9 : PySem.W.codeIn K cd9 "sum_of" = true)
    (k9 : PySem.W.keepIn K (.ref f9) = true)
    (a10 : PySem.W.nsIn K mainGlobals "greatest_power" = some (some (.ref f10)))
    (l10 : K.lookup f10 = some ⟨oc10, od10, .func (PySem.W.fnOf "greatest_power" "greatest_power" (defArgs (topS 10)) (defBody (topS 10)) (defScope (topS 10)) .none kV10 dc10 pm10 an10 cd10 ct10), sl10⟩)
    (c10 : PySem.W.codeIn K cd10 "greatest_power" = true)
    (k10 : PySem.W.keepIn K (.ref f10) = true)
    (a11 : PySem.W.nsIn K mainGlobals "packed" = some (some (.ref f11)))
    (l11 : K.lookup f11 = some ⟨oc11, od11, .func (PySem.W.fnOf "packed" "packed" (defArgs (topS 11)) (defBody (topS 11)) (defScope (topS 11)) .none kV11 dc11 pm11 an11 cd11 ct11), sl11⟩)
    (c11 : PySem.W.codeIn K cd11 "packed" = true)
    (k11 : PySem.W.keepIn K (.ref f11) = true)
    (a12 : PySem.W.nsIn K mainGlobals "unpacked" = some (some (.ref f12)))
    (l12 : K.lookup f12 = some ⟨oc12, od12, .func (PySem.W.fnOf "unpacked" "unpacked" (defArgs (topS 12)) (defBody (topS 12)) (defScope (topS 12)) .none kV12 dc12 pm12 an12 cd12 ct12), sl12⟩)
    (c12 : PySem.W.codeIn K cd12 "unpacked" = true)
    (k12 : PySem.W.keepIn K (.ref f12) = true)
    (a13 : PySem.W.nsIn K mainGlobals "raised" = some (some (.ref f13)))
    (l13 : K.lookup f13 = some ⟨oc13, od13, .func (PySem.W.fnOf "raised" "raised" (defArgs (topS 13)) (defBody (topS 13)) (defScope (topS 13)) .none kV13 dc13 pm13 an13 cd13 ct13), sl13⟩)
    (c13 : PySem.W.codeIn K cd13 "raised" = true)
    (k13 : PySem.W.keepIn K (.ref f13) = true)
    (a15 : PySem.W.nsIn K mainGlobals "_law_deck" = some (some (.ref f15)))
    (l15 : K.lookup f15 = some ⟨oc15, od15, .func (PySem.W.fnOf "_law_deck" "_law_deck" (defArgs (topS 15)) (defBody (topS 15)) (defScope (topS 15)) .none kV15 dc15 pm15 an15 cd15 ct15), sl15⟩)
    (c15 : PySem.W.codeIn K cd15 "_law_deck" = true)
    (k15 : PySem.W.keepIn K (.ref f15) = true)
    (a16 : PySem.W.nsIn K mainGlobals "_law_draw" = some (some (.ref f16)))
    (l16 : K.lookup f16 = some ⟨oc16, od16, .func (PySem.W.fnOf "_law_draw" "_law_draw" (defArgs (topS 16)) (defBody (topS 16)) (defScope (topS 16)) .none kV16 dc16 pm16 an16 cd16 ct16), sl16⟩)
    (c16 : PySem.W.codeIn K cd16 "_law_draw" = true)
    (k16 : PySem.W.keepIn K (.ref f16) = true)
    (a17 : PySem.W.nsIn K mainGlobals "_law_number" = some (some (.ref f17)))
    (l17 : K.lookup f17 = some ⟨oc17, od17, .func (PySem.W.fnOf "_law_number" "_law_number" (defArgs (topS 17)) (defBody (topS 17)) (defScope (topS 17)) .none kV17 dc17 pm17 an17 cd17 ct17), sl17⟩)
    (c17 : PySem.W.codeIn K cd17 "_law_number" = true)
    (k17 : PySem.W.keepIn K (.ref f17) = true)
    (a18 : PySem.W.nsIn K mainGlobals "_law_sum" = some (some (.ref f18)))
    (l18 : K.lookup f18 = some ⟨oc18, od18, .func (PySem.W.fnOf "_law_sum" "_law_sum" (defArgs (topS 18)) (defBody (topS 18)) (defScope (topS 18)) .none kV18 dc18 pm18 an18 cd18 ct18), sl18⟩)
    (c18 : PySem.W.codeIn K cd18 "_law_sum" = true)
    (k18 : PySem.W.keepIn K (.ref f18) = true)
    (a19 : PySem.W.nsIn K mainGlobals "_law_whole" = some (some (.ref f19)))
    (l19 : K.lookup f19 = some ⟨oc19, od19, .func (PySem.W.fnOf "_law_whole" "_law_whole" (defArgs (topS 19)) (defBody (topS 19)) (defScope (topS 19)) .none kV19 dc19 pm19 an19 cd19 ct19), sl19⟩)
    (c19 : PySem.W.codeIn K cd19 "_law_whole" = true)
    (k19 : PySem.W.keepIn K (.ref f19) = true)
    (a20 : PySem.W.nsIn K mainGlobals "_law_is_sum" = some (some (.ref f20)))
    (l20 : K.lookup f20 = some ⟨oc20, od20, .func (PySem.W.fnOf "_law_is_sum" "_law_is_sum" (defArgs (topS 20)) (defBody (topS 20)) (defScope (topS 20)) .none kV20 dc20 pm20 an20 cd20 ct20), sl20⟩)
    (c20 : PySem.W.codeIn K cd20 "_law_is_sum" = true)
    (k20 : PySem.W.keepIn K (.ref f20) = true)
    (a21 : PySem.W.nsIn K mainGlobals "_law_worth" = some (some (.ref f21)))
    (l21 : K.lookup f21 = some ⟨oc21, od21, .func (PySem.W.fnOf "_law_worth" "_law_worth" (defArgs (topS 21)) (defBody (topS 21)) (defScope (topS 21)) .none kV21 dc21 pm21 an21 cd21 ct21), sl21⟩)
    (c21 : PySem.W.codeIn K cd21 "_law_worth" = true)
    (k21 : PySem.W.keepIn K (.ref f21) = true)
    (a22 : PySem.W.nsIn K mainGlobals "_law_odd" = some (some (.ref f22)))
    (l22 : K.lookup f22 = some ⟨oc22, od22, .func (PySem.W.fnOf "_law_odd" "_law_odd" (defArgs (topS 22)) (defBody (topS 22)) (defScope (topS 22)) .none kV22 dc22 pm22 an22 cd22 ct22), sl22⟩)
    (c22 : PySem.W.codeIn K cd22 "_law_odd" = true)
    (k22 : PySem.W.keepIn K (.ref f22) = true)
    (a23 : PySem.W.nsIn K mainGlobals "_law_bent" = some (some (.ref f23)))
    (l23 : K.lookup f23 = some ⟨oc23, od23, .func (PySem.W.fnOf "_law_bent" "_law_bent" (defArgs (topS 23)) (defBody (topS 23)) (defScope (topS 23)) .none kV23 dc23 pm23 an23 cd23 ct23), sl23⟩)
    (c23 : PySem.W.codeIn K cd23 "_law_bent" = true)
    (k23 : PySem.W.keepIn K (.ref f23) = true)
    (a24 : PySem.W.nsIn K mainGlobals "_law_both_right" = some (some (.ref f24)))
    (l24 : K.lookup f24 = some ⟨oc24, od24, .func (PySem.W.fnOf "_law_both_right" "_law_both_right" (defArgs (topS 24)) (defBody (topS 24)) (defScope (topS 24)) .none kV24 dc24 pm24 an24 cd24 ct24), sl24⟩)
    (c24 : PySem.W.codeIn K cd24 "_law_both_right" = true)
    (k24 : PySem.W.keepIn K (.ref f24) = true)
    (a25 : PySem.W.nsIn K mainGlobals "law" = some (some (.ref f25)))
    (l25 : K.lookup f25 = some ⟨oc25, od25, .func (PySem.W.fnOf "law" "law" (defArgs (topS 25)) (defBody (topS 25)) (defScope (topS 25)) .none kV25 dc25 pm25 an25 cd25 ct25), sl25⟩)
    (c25 : PySem.W.codeIn K cd25 "law" = true)
    (k25 : PySem.W.keepIn K (.ref f25) = true)
    (zall : PySem.W.nsIn K mainGlobals "all" = some none)
    (zbool : PySem.W.nsIn K mainGlobals "bool" = some none)
    (zint : PySem.W.nsIn K mainGlobals "int" = some none)
    (zisinstance : PySem.W.nsIn K mainGlobals "isinstance" = some none)
    (zlen : PySem.W.nsIn K mainGlobals "len" = some none)
    (zlist : PySem.W.nsIn K mainGlobals "list" = some none)
    (zmax : PySem.W.nsIn K mainGlobals "max" = some none)
    (zrange : PySem.W.nsIn K mainGlobals "range" = some none)
    (zrepr : PySem.W.nsIn K mainGlobals "repr" = some none)
    (zreversed : PySem.W.nsIn K mainGlobals "reversed" = some none)
    (zsorted : PySem.W.nsIn K mainGlobals "sorted" = some none)
    (zstr : PySem.W.nsIn K mainGlobals "str" = some none)
    (zsum : PySem.W.nsIn K mainGlobals "sum" = some none)
    (ztuple : PySem.W.nsIn K mainGlobals "tuple" = some none)
    (zzip : PySem.W.nsIn K mainGlobals "zip" = some none) :
    ∃ fd : FuncData, (∀ (s : Shared) (v : Value), BindsTo s fd ⟨[v], []⟩ [("_law_script", v)]) ∧ ∀ base : Heap, K.In base → base.Ns mainGlobals mg → PH.FnG P w K mg base CX0 12 fa fd ["_law_script"] (spLaw K) := by
  have e := hfa.symm.trans (PySem.W.mg_of X G a25)
  cases e
  have N1 := fns_mk (i := 1) (ps := ["thing"]) X G a1 l1 c1 k1 fun _ _ _ _ _ _ us hl => match us, hl with | [_], _ => rfl
  have N3 := fns_mk (i := 3) (ps := ["many", "thing"]) X G a3 l3 c3 k3 fun _ _ _ _ _ _ us hl => match us, hl with | [_, _], _ => rfl
  have N4 := fns_mk (i := 4) (ps := ["one", "other"]) X G a4 l4 c4 k4 fun _ _ _ _ _ _ us hl => match us, hl with | [_, _], _ => rfl
  have N5 := fns_mk (i := 5) (ps := ["one", "other"]) X G a5 l5 c5 k5 fun _ _ _ _ _ _ us hl => match us, hl with | [_, _], _ => rfl
  have N6 := fns_mk (i := 6) (ps := ["one", "other"]) X G a6 l6 c6 k6 fun _ _ _ _ _ _ us hl => match us, hl with | [_, _], _ => rfl
  have N7 := fns_mk (i := 7) (ps := ["one", "numbers"]) X G a7 l7 c7 k7 fun _ _ _ _ _ _ us hl => match us, hl with | [_, _], _ => rfl
  have N8 := fns_mk (i := 8) (ps := ["many", "thing"]) X G a8 l8 c8 k8 fun _ _ _ _ _ _ us hl => match us, hl with | [_, _], _ => rfl
  have N9 := fns_mk (i := 9) (ps := ["found"]) X G a9 l9 c9 k9 fun _ _ _ _ _ _ us hl => match us, hl with | [_], _ => rfl
  have N10 := fns_mk (i := 10) (ps := ["one"]) X G a10 l10 c10 k10 fun _ _ _ _ _ _ us hl => match us, hl with | [_], _ => rfl
  have N11 := fns_mk (i := 11) (ps := ["one", "bits"]) X G a11 l11 c11 k11 fun _ _ _ _ _ _ us hl => match us, hl with | [_, _], _ => rfl
  have N12 := fns_mk (i := 12) (ps := ["found", "bits", "many"]) X G a12 l12 c12 k12 fun _ _ _ _ _ _ us hl => match us, hl with | [_, _, _], _ => rfl
  have N13 := fns_mk (i := 13) (ps := ["number", "power"]) X G a13 l13 c13 k13 fun _ _ _ _ _ _ us hl => match us, hl with | [_, _], _ => rfl
  have N15 := fns_mk (i := 15) (ps := ["_law_script"]) X G a15 l15 c15 k15 fun _ _ _ _ _ _ us hl => match us, hl with | [_], _ => rfl
  have N16 := fns_mk (i := 16) (ps := ["_law_deck_here", "_law_ways"]) X G a16 l16 c16 k16 fun _ _ _ _ _ _ us hl => match us, hl with | [_, _], _ => rfl
  have N17 := fns_mk (i := 17) (ps := ["_law_deck_here"]) X G a17 l17 c17 k17 fun _ _ _ _ _ _ us hl => match us, hl with | [_], _ => rfl
  have N18 := fns_mk (i := 18) (ps := ["_law_deck_here", "_law_many", "_law_upto"]) X G a18 l18 c18 k18 fun _ _ _ _ _ _ us hl => match us, hl with | [_, _, _], _ => rfl
  have N19 := fns_mk (i := 19) (ps := ["_law_thing"]) X G a19 l19 c19 k19 fun _ _ _ _ _ _ us hl => match us, hl with | [_], _ => rfl
  have N20 := fns_mk (i := 20) (ps := ["_law_many", "_law_thing"]) X G a20 l20 c20 k20 fun _ _ _ _ _ _ us hl => match us, hl with | [_, _], _ => rfl
  have N21 := fns_mk (i := 21) (ps := ["_law_one", "_law_numbers"]) X G a21 l21 c21 k21 fun _ _ _ _ _ _ us hl => match us, hl with | [_, _], _ => rfl
  have N22 := fns_mk (i := 22) (ps := ["_law_deck_here", "_law_part"]) X G a22 l22 c22 k22 fun _ _ _ _ _ _ us hl => match us, hl with | [_, _], _ => rfl
  have N23 := fns_mk (i := 23) (ps := ["_law_deck_here", "_law_thing"]) X G a23 l23 c23 k23 fun _ _ _ _ _ _ us hl => match us, hl with | [_, _], _ => rfl
  have N24 := fns_mk (i := 24) (ps := ["_law_deck_here", "_law_many", "_law_one", "_law_other"]) X G a24 l24 c24 k24 fun _ _ _ _ _ _ us hl => match us, hl with | [_, _, _, _], _ => rfl
  have N25 := fns_mk (i := 25) (ps := ["_law_script"]) X G a25 l25 c25 k25 fun _ _ _ _ _ _ us hl => match us, hl with | [_], _ => rfl
  have zz : ∀ {n : Str}, PySem.W.nsIn K mainGlobals n = some none → mg n = none := fun z => PySem.W.mg_none_of X G z
  refine ⟨PySem.W.fnOf "law" "law" (defArgs (topS 25)) (defBody (topS 25)) (defScope (topS 25)) .none kV25 dc25 pm25 an25 cd25 ct25, fun s v => .of_eq rfl, fun base _ _ => ?_⟩
  exact all_law (P := P) (w := w) (base := base) ⟨_, _, N1, _, _, N3, _, _, N4, _, _, N5, _, _, N6, _, _, N7, _, _, N8, _, _, N9, _, _, N10, _, _, N11, _, _, N12, _, _, N13, _, _, N15, _, _, N16, _, _, N17, _, _, N18, _, _, N19, _, _, N20, _, _, N21, _, _, N22, _, _, N23, _, _, N24, _, _, N25, zz zall, zz zbool, zz zint, zz zisinstance, zz zlen, zz zlist, zz zmax, zz zrange, zz zrepr, zz zreversed, zz zsorted, zz zstr, zz zsum, zz ztuple, zz zzip⟩
end K28
open PySem PySem.W PyProof.Rows
set_option maxRecDepth 100000 in
set_option maxHeartbeats 0 in
theorem PySem.Challenge.cw_pointhouse_k28_sums_holds : PySem.Challenge.rw_pointhouse_k28_sums.Holds := by
  w_on; o_law; k_head; (case hw => w_witness2)
  k_fill
  refine PH.walk_G (l := PySem.Challenge.rw_pointhouse_k28_sums) (n := 63) (k := 12) (x := "_law_script") (sp := K28.spLaw) rfl (by decide) rfl ⟨rfl, by decide, by decide⟩ (fun w h Y => PySem.W.kIn_of Y) ?F (fun K H a ns hl _ hS => ⟨a, ns, rfl, hS, hl, fun _ => rfl⟩)
  case F =>
    intro w mg fa h KX G hmg
    refine' K28.all_mk KX G hmg ?a1 ?l1 ?c1 ?k1 ?a3 ?l3 ?c3 ?k3 ?a4 ?l4 ?c4 ?k4 ?a5 ?l5 ?c5 ?k5 ?a6 ?l6 ?c6 ?k6 ?a7 ?l7 ?c7 ?k7 ?a8 ?l8 ?c8 ?k8 ?a9 ?l9 ?c9 ?k9 ?a10 ?l10 ?c10 ?k10 ?a11 ?l11 ?c11 ?k11 ?a12 ?l12 ?c12 ?k12 ?a13 ?l13 ?c13 ?k13 ?a15 ?l15 ?c15 ?k15 ?a16 ?l16 ?c16 ?k16 ?a17 ?l17 ?c17 ?k17 ?a18 ?l18 ?c18 ?k18 ?a19 ?l19 ?c19 ?k19 ?a20 ?l20 ?c20 ?k20 ?a21 ?l21 ?c21 ?k21 ?a22 ?l22 ?c22 ?k22 ?a23 ?l23 ?c23 ?k23 ?a24 ?l24 ?c24 ?k24 ?a25 ?l25 ?c25 ?k25 ?zall ?zbool ?zint ?zisinstance ?zlen ?zlist ?zmax ?zrange ?zrepr ?zreversed ?zsorted ?zstr ?zsum ?ztuple ?zzip
    (case a1 => k_is)
    (case l1 => k_is)
    (case c1 => k_is)
    (case k1 => k_is)
    (case a3 => k_is)
    (case l3 => k_is)
    (case c3 => k_is)
    (case k3 => k_is)
    (case a4 => k_is)
    (case l4 => k_is)
    (case c4 => k_is)
    (case k4 => k_is)
    (case a5 => k_is)
    (case l5 => k_is)
    (case c5 => k_is)
    (case k5 => k_is)
    (case a6 => k_is)
    (case l6 => k_is)
    (case c6 => k_is)
    (case k6 => k_is)
    (case a7 => k_is)
    (case l7 => k_is)
    (case c7 => k_is)
    (case k7 => k_is)
    (case a8 => k_is)
    (case l8 => k_is)
    (case c8 => k_is)
    (case k8 => k_is)
    (case a9 => k_is)
    (case l9 => k_is)
    (case c9 => k_is)
    (case k9 => k_is)
    (case a10 => k_is)
    (case l10 => k_is)
    (case c10 => k_is)
    (case k10 => k_is)
    (case a11 => k_is)
    (case l11 => k_is)
    (case c11 => k_is)
    (case k11 => k_is)
    (case a12 => k_is)
    (case l12 => k_is)
    (case c12 => k_is)
    (case k12 => k_is)
    (case a13 => k_is)
    (case l13 => k_is)
    (case c13 => k_is)
    (case k13 => k_is)
    (case a15 => k_is)
    (case l15 => k_is)
    (case c15 => k_is)
    (case k15 => k_is)
    (case a16 => k_is)
    (case l16 => k_is)
    (case c16 => k_is)
    (case k16 => k_is)
    (case a17 => k_is)
    (case l17 => k_is)
    (case c17 => k_is)
    (case k17 => k_is)
    (case a18 => k_is)
    (case l18 => k_is)
    (case c18 => k_is)
    (case k18 => k_is)
    (case a19 => k_is)
    (case l19 => k_is)
    (case c19 => k_is)
    (case k19 => k_is)
    (case a20 => k_is)
    (case l20 => k_is)
    (case c20 => k_is)
    (case k20 => k_is)
    (case a21 => k_is)
    (case l21 => k_is)
    (case c21 => k_is)
    (case k21 => k_is)
    (case a22 => k_is)
    (case l22 => k_is)
    (case c22 => k_is)
    (case k22 => k_is)
    (case a23 => k_is)
    (case l23 => k_is)
    (case c23 => k_is)
    (case k23 => k_is)
    (case a24 => k_is)
    (case l24 => k_is)
    (case c24 => k_is)
    (case k24 => k_is)
    (case a25 => k_is)
    (case l25 => k_is)
    (case c25 => k_is)
    (case k25 => k_is)
    (case zall => k_is)
    (case zbool => k_is)
    (case zint => k_is)
    (case zisinstance => k_is)
    (case zlen => k_is)
    (case zlist => k_is)
    (case zmax => k_is)
    (case zrange => k_is)
    (case zrepr => k_is)
    (case zreversed => k_is)
    (case zsorted => k_is)
    (case zstr => k_is)
    (case zsum => k_is)
    (case ztuple => k_is)
    (case zzip => k_is)
#print axioms PySem.Challenge.cw_pointhouse_k28_sums_holds
