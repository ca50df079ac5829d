import PyProof.Rows.All
import Wide.All
import OpenK.AllK
import Wide.FinOn
import KE.KStateDown
import HandS.ForMost
import HandS.ForExc
import HandS.Defaults
import HandS.Wide
import HandS.IsInst
import HandS.Flow
import HandS.Style
import HandS.More
import HandS.NoneIn
import HandS.Head0
import HandS.Head1
import HandS.Head2
import HandS.HeadEnd
import HandS.HeadHook1
import HandS.HeadHook2
import HandS.HeadHook3
import HandS.HeadHook4
import HandS.HeadNt
import KE.KDictPairs
import HandS.ExcInit
import HandS.ExcField
import KE.BitLaws
import PyProof.Rows.RuleB_pow
import PyProof.EqKinds
import PyProof.TupleOfStr
import HandS.ExcValue
import HandS.ExcIs
import HandS.Comp
import HandS.BytesMake
import PyProof.EqLayable
import HandS.Exc
import HandS.ExcOwn
import HandS.DictEq
import KE.KBytesJoin
import Wide.BytesRules
import HandS.ClsMeth
import PyProof.InstEq
import HandS.OwnEq
import HandS.Codes
import HandS.TryMany
import HandS.Zip
import HandS.Zip0
import PyProof.Draws
import KE.GoesZip
import KE.GoesMore
import KE.KBytesWalk
import HandS.Bytes
import KE.KBytesStep
import KE.KBytesEq
import PyProof.NeKinds
import HandS.Small
import Wide.WTab
import HandS.FStr
import PyProof.Ascii
import PyProof.FitsInt
import HandS.Deep
import HandS.TryOnly
import HandS.List
import PySem.Challenge.RW_codespans_k33_source_edits
set_option Elab.async false
set_option linter.all false
set_option maxRecDepth 100000
set_option maxHeartbeats 0
namespace Lay
open PySem PySem.Spec PyProof.Rows L2
/-! ## the head's look: facts, defs, and one more Bool -/
abbrev LookT : Type := He.AlD × Bool
def lookAt (fa : List He.Fa) (fn : List He5.DefA) (ex : PySem.W.Frag → Bool) (K : PySem.W.Frag) : LookT := (He5.obsA fa fn K, ex K)
def partOf (n : Nat) (g : Addr → Option Obj) : PySem.W.Frag := He.frG g (He5.asA g n)
/-- what the walk knows of the written part -/
structure Told (fa : List He.Fa) (fn : List He5.DefA) (ex : PySem.W.Frag → Bool) (K : PySem.W.Frag) : Prop where
  a : He5.SaysA fa fn K
  b : ex K = true
theorem told_of {fa : List He.Fa} {fn : List He5.DefA} {ex : PySem.W.Frag → Bool} {K : PySem.W.Frag} (e : lookAt fa fn ex K = (He5.valA fn, true)) : Told fa fn ex K :=
  ⟨congrArg Prod.fst e, congrArg Prod.snd e⟩
def hk (n : Nat) (fa : List He.Fa) (fn : List He5.DefA) (ex : PySem.W.Frag → Bool) : PySem.W.Hook where
  α := LookT
  obs := fun s => lookAt fa fn ex (partOf n s.heap.get?)
  val := fun _ => (He5.valA fn, true)
  says := fun _ h => ∃ K : PySem.W.Frag, K.In h ∧ Told fa fn ex K
  of := fun _ _ e => ⟨_, He.frG_in, told_of e⟩
  keeps := fun _ _ _ h k => by
    obtain ⟨K, hK, c⟩ := h
    exact ⟨K, hK.keeps k, c⟩
theorem look_eq {n : Nat} {fa : List He.Fa} {fn : List He5.DefA} {ex : PySem.W.Frag → Bool} (s : PySem.W.SharedT) : lookAt fa fn ex (partOf n (HandSHeadRun.getT s)) = (hk n fa fn ex).obs s.abs := by
  have e : HandSHeadRun.getT s = s.abs.heap.get? := funext (HandSHeadRun.getT_eq s)
  show lookAt fa fn ex (partOf n (HandSHeadRun.getT s)) = lookAt fa fn ex (partOf n s.abs.heap.get?)
  rw [e]

/-! ## a def by its name -/
/-- the def that the module's name x holds keeps the promise sp -/
def FOk (P : Program) (w : World) (K : PySem.W.Frag) (mg : Str → Option Value) (base : Heap) (CX : CXT) (k : Nat) (x : Str) (ps : List Str) (sp : Sp) : Prop :=
  ∃ fd, FnOk P w K mg base CX k (He.ga K x) fd ps sp ∧ Binds K fd ps [] ∧ PySem.W.keepIn K (.ref (He.ga K x)) = true ∧ mg x = some (.ref (He.ga K x))
section
variable {P : Program} {w : World} {K : PySem.W.Frag} {mg : Str → Option Value} {base : Heap} {CX : CXT} {k : Nat} {x : Str} {ps : List Str} {sp : Sp}
theorem fok {params : Arguments} {body : List Stmt} {scope : Scope} (F : ∃ fd, FunD K x x params body scope [] [] (He.ga K x) fd) (g : mg x = some (.ref (He.ga K x)))
    (hb : ∀ (kV doc pm : Value) (an : Option Addr) (cdv ct : Value) (us : List Value), us.length = ps.length → bindArgs (PySem.W.fnOf x x params body scope .none kV doc pm an cdv ct) ⟨us, []⟩ = pure (ps.zip us))
    (h : ∀ fd, FunD K x x params body scope [] [] (He.ga K x) fd → FnOk P w K mg base CX k (He.ga K x) fd ps sp) : FOk P w K mg base CX k x ps sp := by
  obtain ⟨fd, F⟩ := F
  exact ⟨fd, h fd F, F.bindsN hb, F.kp, g⟩
variable {X : Cx} {E : XK} {e : Expr} {es : List Expr} {t : TA} {p pos : Pos}
theorem pe_cl (F : FOk X.prog X.w X.K X.mg X.base CX k x ps sp) (hr : Room k X.A) (hg : Gl X x) (hx : Passes CX X E) (ha : PA X (e :: es) t) (hdb : (x == ("__debug__" : Str)) = false := by decide)
    (he : starEach (e :: es) X.env = (false, eval e X.env) :: starEach es X.env := by rfl) (hpl : (backTo pos (starEach es X.env)).any (·.1) = false := by rfl) :
    PE X (.Call (.Name x p) (e :: es) [] pos) (tCall sp [] E t) := by
  obtain ⟨fd, F, b, kp, g⟩ := F
  exact pe_call F hr hg g kp b .nil hx ha hdb he hpl
end

/-! ## heaps: all but one object -/
/-- what was tracked, p apart, is as it was -/
def But (p : Addr) (H H' : Hp) : Prop := ∀ b o, H b = some o → b ≠ p → H' b = some o
theorem But.refl {p : Addr} {H : Hp} : But p H H := fun _ _ h _ => h
theorem But.trans {p : Addr} {H H1 H2 : Hp} (a : But p H H1) (b : But p H1 H2) : But p H H2 := fun c o h n => b c o (a c o h n) n
theorem But.upd {p : Addr} {H H1 : Hp} {o : HO} (a : But p H H1) : But p H (upd H1 p o) := fun c u h n => by
  rw [upd_ne n]
  exact a c u h n
theorem But.new {p q : Addr} {H H1 : Hp} {o : HO} (a : But p H H1) (h : H1 q = none) : But p H (L2.upd H1 q o) := fun c u hc n => by
  rw [upd_ne (ne_of_none (a c u hc n) h)]
  exact a c u hc n
theorem Same.but {p : Addr} {H H1 : Hp} (a : Same H H1) : But p H H1 := fun c o h _ => a c o h
theorem same_new {H : Hp} {p : Addr} {o : HO} (h : H p = none) : Same H (L2.upd H p o) := fun b u e => by
  rw [upd_ne (ne_of_none e h)]
  exact e
/-- the well of draws at p -/
def Well (H : Hp) (p : Addr) : Prop := ∃ a b : Int, H p = some (.lst [.int a, .int b])
/-- behind draws -/
structure Drawn (p : Addr) (H H' : Hp) : Prop where
  w : Well H' p
  b : But p H H'
theorem Drawn.refl {p : Addr} {H : Hp} (h : Well H p) : Drawn p H H := ⟨h, .refl⟩
theorem Drawn.trans {p : Addr} {H H1 H2 : Hp} (a : Drawn p H H1) (b : Drawn p H1 H2) : Drawn p H H2 := ⟨b.w, a.b.trans b.b⟩
theorem Well.new {p q : Addr} {H : Hp} {o : HO} (h : Well H p) (n : H q = none) : Well (L2.upd H q o) p := by
  obtain ⟨a, b, e⟩ := h
  exact ⟨a, b, by rw [upd_ne (ne_of_none e n)]; exact e⟩
theorem Drawn.new {p q : Addr} {H H1 : Hp} {o : HO} (d : Drawn p H H1) (n : H1 q = none) : Drawn p H (L2.upd H1 q o) := ⟨d.w.new n, d.b.new n⟩
theorem ite_b {c A B : Prop} [Decidable c] (h1 : c → A) (h2 : ¬ c → B) : if decide c = true then A else B := by
  by_cases h : c
  · rw [decide_eq_true h]; exact iteT (h1 h)
  · rw [decide_eq_false h]; exact iteF (h2 h)
end Lay
namespace Lay
open PySem PySem.Spec PyProof.Rows L2
/-- a statement, and the rest from a word between them -/
def tMid (t u : TS) : TS := fun D σ H => ∃ Mid : L2.St → Hp → Prop, t { D with nx := Mid } σ H ∧ ∀ σ' H', Mid σ' H' → u D σ' H'
theorem pss_mid {X : Cx} {st : Stmt} {rest : List Stmt} {t u : TS} (h1 : PS X st t) (h2 : PSs X rest u) : PSs X (st :: rest) (tMid t u) := by
  refine ⟨fun pins s σ H D I h => ?_⟩
  obtain ⟨Mid, hm, hu⟩ := h
  refine wpAny_execs_cons (wpAny_mono (h1.run pins s σ H _ I hm) (fun f s1 q => ?_) fun _ _ z => z)
  cases f with
  | next =>
    obtain ⟨σ1, H1, I1, q1⟩ := q
    exact h2.run pins s1 σ1 H1 D I1 (hu σ1 H1 q1)
  | ret v => exact q
  | brk => exact q
  | cont => exact q
theorem Drawn.tn {p a : Addr} {H H1 H2 : Hp} {o : HO} (d : Drawn p H H1) (n : H1 a = none) (d2 : Drawn p (L2.upd H1 a o) H2) : Drawn p H H2 := (d.new n).trans d2
theorem Well.ne {p a : Addr} {H : Hp} (h : Well H p) (n : H a = none) : a ≠ p := by
  obtain ⟨x, y, e⟩ := h
  exact (ne_of_none e n).symm
theorem get_mem {xs : List V} {i : Nat} {x : V} (h : xs[i]? = some x) : x ∈ xs := List.mem_of_getElem? h
theorem Drawn.at {p a : Addr} {H H1 : Hp} {o : HO} (d : Drawn p H H1) (e : H a = some o) (ne : a ≠ p) : H1 a = some o := d.b a o e ne
end Lay

namespace Lay
open PySem PySem.Spec PyProof.Rows L2
/-! ## what stands at a value -/
/-- a value and the name of its type -/
inductive VT (H : Hp) : V → String → Prop where
  | non : VT H .non "NoneType"
  | bl (b : Bool) : VT H (.bl b) "bool"
  | int (i : Int) : VT H (.int i) "int"
  | str (x : Str) : VT H (.str x) "str"
  | byt (b : Array UInt8) : VT H (.byt b) "bytes"
  | lst {a : Addr} {xs : List V} (e : H a = some (.lst xs)) : VT H (.ref a) "list"
  | tup {a : Addr} {xs : List V} (e : H a = some (.tup xs)) : VT H (.ref a) "tuple"
  | dic {a : Addr} {kvs : List (Key × V)} (e : H a = some (.dK kvs)) : VT H (.ref a) "dict"
section
variable {K : PySem.W.Frag} {H H' : Hp} {v : V} {n m : String} {b : Bool} {Q : VK}
theorem VT.tyx (h : VT H v n) : TyX K H v (.type n) := by
  cases h with
  | non => exact .base .non
  | bl b => exact .base (.bl b)
  | int i => exact .base (.int i)
  | str x => exact .base (.str x)
  | byt b => exact .byt b
  | lst e => exact .base (.lst e)
  | tup e => exact .base (.tup e)
  | dic e => exact .base (.dK e)
/-- a tracked object that stays, keeps its type -/
theorem VT.keep (h : VT H v n) (k : ∀ a o, v = .ref a → H a = some o → H' a = some o) : VT H' v n := by
  cases h with
  | non => exact .non
  | bl b => exact .bl b
  | int i => exact .int i
  | str x => exact .str x
  | byt b => exact .byt b
  | lst e => exact .lst (k _ _ rfl e)
  | tup e => exact .tup (k _ _ rfl e)
  | dic e => exact .dic (k _ _ rfl e)
theorem VT.same (h : VT H v n) (s : Same H H') : VT H' v n := h.keep fun a o _ e => s a o e
def isiB (n m : String) : Bool := n == m || (n == "bool" && m == "int")
theorem VT.kit (h : VT H v n) (hm : m = "int" ∨ m = "bool" ∨ m = "tuple" ∨ m = "list" ∨ m = "bytes") : kitB n m = some (isiB n m) := by
  rcases hm with rfl | rfl | rfl | rfl | rfl <;> cases h <;> decide +kernel
theorem VT.int_of (h : VT H v n) (e : n = "int") : ∃ i, v = .int i := by
  cases h <;> first | exact ⟨_, rfl⟩ | exact absurd e (by decide)
theorem VT.bl_of (h : VT H v n) (e : n = "bool") : ∃ i, v = .bl i := by
  cases h <;> first | exact ⟨_, rfl⟩ | exact absurd e (by decide)
theorem VT.tup_of (h : VT H v n) (e : n = "tuple") : ∃ a xs, v = .ref a ∧ H a = some (.tup xs) := by
  cases h <;> first | exact ⟨_, _, rfl, by assumption⟩ | exact absurd e (by decide)
theorem rd_isi (h : VT H v n) (hm : m = "int" ∨ m = "bool" ∨ m = "tuple" ∨ m = "list" ∨ m = "bytes") (q : Q (.bl (isiB n m)) H) : rIsi K [v, .ty m] H Q :=
  ⟨v, .ty m, _, _, _, rfl, .ty m, h.tyx, kit_ty (h.kit hm), q⟩
end
/-! ## positions -/
structure Pos where
  l : Int
  e : Int
  c : Option Int
  d : Option Int
abbrev Span := Option Pos
def ov : Option Int → V
  | none => .non
  | some i => .int i
def Pos.vs (p : Pos) : List V := [.int p.l, .int p.e, ov p.c, ov p.d]
/-- the value v is the span s -/
def SpV (H : Hp) (v : V) : Span → Prop
  | none => v = .non
  | some p => ∃ a, v = .ref a ∧ H a = some (.tup p.vs)
structure Pos.ok (p : Pos) : Prop where
  l1 : 1 ≤ p.l
  le : p.l ≤ p.e
  eM : p.e ≤ 2147483647
  cd : (p.c = none ∧ p.d = none ∧ p.e = p.l) ∨ ∃ c d, p.c = some c ∧ p.d = some d ∧ 0 ≤ c ∧ c ≤ 2147483647 ∧ 0 ≤ d ∧ d ≤ 2147483647 ∧ (p.e = p.l → c ≤ d)
def SpanOk : Span → Prop
  | none => True
  | some p => p.ok
theorem SpV.keep {H H' : Hp} {v : V} {s : Span} (h : SpV H v s) (k : ∀ a o, v = .ref a → H a = some o → H' a = some o) : SpV H' v s := by
  cases s with
  | none => exact h
  | some p =>
    obtain ⟨a, e, q⟩ := h
    exact ⟨a, e, k a _ e q⟩
theorem ov_vt {H : Hp} (o : Option Int) : ∃ n, VT H (ov o) n := by
  cases o with
  | none => exact ⟨_, .non⟩
  | some i => exact ⟨_, .int i⟩
/-! ## is it a span -/
def inR (v : V) (lo hi : Int) : Bool := match v with
  | .int i => decide (lo ≤ i) && decide (i ≤ hi)
  | _ => false
def iv : V → Int
  | .int i => i
  | _ => 0
theorem inR_int {v : V} {lo hi : Int} (h : inR v lo hi = true) : ∃ i, v = .int i ∧ lo ≤ i ∧ i ≤ hi := by
  cases v with
  | int i =>
    have h2 : (decide (lo ≤ i) && decide (i ≤ hi)) = true := h
    rw [Bool.and_eq_true, decide_eq_true_eq, decide_eq_true_eq] at h2
    exact ⟨i, rfl, h2.1, h2.2⟩
  | _ => cases h
def span4 (l e c d : V) : Bool :=
  if inR l 1 2147483647 && inR e (iv l) 2147483647 then
    if c = .non ∧ d = .non then decide (iv e = iv l)
    else if inR c 0 2147483647 && inR d 0 2147483647 then decide (iv l < iv e) || decide (iv c ≤ iv d) else false
  else false
def spanB (H : Hp) (v : V) : Bool := match v with
  | .non => true
  | .ref a => match H a with
    | some (.tup [l, e, c, d]) => span4 l e c d
    | _ => false
  | _ => false
theorem spanB_ok {H : Hp} {v : V} {s : Span} (h : SpV H v s) (k : SpanOk s) : spanB H v = true := by
  cases s with
  | none =>
    have e : v = .non := h
    rw [e]
    rfl
  | some p =>
    obtain ⟨a, e, q⟩ := h
    have k' : p.ok := k
    obtain ⟨l1, le, eM, cd⟩ := k'
    have e2 : spanB H v = span4 (.int p.l) (.int p.e) (ov p.c) (ov p.d) := by
      rw [e]
      show (match H a with | some (.tup [l, e, c, d]) => span4 l e c d | _ => false) = _
      rw [q]
      rfl
    rw [e2]
    have h1 : inR (.int p.l) 1 2147483647 = true := by
      show (decide (1 ≤ p.l) && decide (p.l ≤ 2147483647)) = true
      simp only [Bool.and_eq_true, decide_eq_true_eq]
      omega
    have h2 : inR (.int p.e) (iv (.int p.l)) 2147483647 = true := by
      show (decide (p.l ≤ p.e) && decide (p.e ≤ 2147483647)) = true
      simp only [Bool.and_eq_true, decide_eq_true_eq]
      omega
    unfold span4
    rw [h1, h2, if_pos (show (true && true) = true from rfl)]
    rcases cd with ⟨hc, hd, hl⟩ | ⟨c, d, hc, hd, c0, cM, d0, dM, hcd⟩
    · rw [hc, hd]
      rw [if_pos ⟨rfl, rfl⟩]
      exact decide_eq_true hl
    · rw [hc, hd]
      rw [if_neg (fun z => by cases z.1)]
      have h3 : inR (ov (some c)) 0 2147483647 = true := by
        show (decide (0 ≤ c) && decide (c ≤ 2147483647)) = true
        simp only [Bool.and_eq_true, decide_eq_true_eq]
        omega
      have h4 : inR (ov (some d)) 0 2147483647 = true := by
        show (decide (0 ≤ d) && decide (d ≤ 2147483647)) = true
        simp only [Bool.and_eq_true, decide_eq_true_eq]
        omega
      rw [h3, h4, if_pos (show (true && true) = true from rfl)]
      show (decide (p.l < p.e) || decide (c ≤ d)) = true
      rw [Bool.or_eq_true, decide_eq_true_eq, decide_eq_true_eq]
      by_cases z : p.e = p.l
      · exact .inr (hcd z)
      · exact .inl (by omega)
end Lay
namespace Lay
open PySem PySem.Spec PyProof.Rows L2
theorem ite_n {c A B : Prop} [Decidable c] (h1 : ¬ c → A) (h2 : c → B) : if (!decide c) = true then A else B := by
  by_cases h : c
  · rw [decide_eq_true h]; exact iteF (h2 h)
  · rw [decide_eq_false h]; exact iteT (h1 h)
theorem isi_tup {n : String} (h : isiB n "tuple" = true) : n = "tuple" := by
  simp [isiB] at h
  exact h
theorem len4 {xs : List V} (h : xs.length = 4) : ∃ a b c d, xs = [a, b, c, d] := by
  match xs, h with
  | [a, b, c, d], _ => exact ⟨a, b, c, d, rfl⟩
theorem v_int_inj {i j : Int} (h : V.int i = V.int j) : i = j := by
  injection h
theorem spanB_tup {H : Hp} {a : Addr} {l e c d : V} (h : H a = some (.tup [l, e, c, d])) : spanB H (.ref a) = span4 l e c d := by
  show (match H a with | some (.tup [l, e, c, d]) => span4 l e c d | _ => false) = _
  rw [h]
theorem spanB_len {H : Hp} {a : Addr} {xs : List V} (h : H a = some (.tup xs)) (n : xs.length ≠ 4) : spanB H (.ref a) = false := by
  show (match H a with | some (.tup [l, e, c, d]) => span4 l e c d | _ => false) = _
  rw [h]
  match xs, n with
  | [], _ => rfl
  | [_], _ => rfl
  | [_, _], _ => rfl
  | [_, _, _], _ => rfl
  | [_, _, _, _], n => exact absurd rfl n
  | _ :: _ :: _ :: _ :: _ :: _, _ => rfl
theorem spanB_no {H : Hp} {v : V} {n : String} (h : VT H v n) (h1 : v ≠ .non) (h2 : isiB n "tuple" = false) : spanB H v = false := by
  cases h with
  | non => exact absurd rfl h1
  | tup e => exact absurd h2 (by decide)
  | lst e =>
    rename_i a xs
    show (match H a with | some (.tup [l, e, c, d]) => span4 l e c d | _ => false) = _
    rw [e]
  | dic e =>
    rename_i a xs
    show (match H a with | some (.tup [l, e, c, d]) => span4 l e c d | _ => false) = _
    rw [e]
  | _ => rfl
end Lay
namespace Lay
open PySem PySem.Spec PyProof.Rows L2
theorem up {H : Hp} {a b : Addr} {o u : HO} (e : H a = some o) (n : H b = none) : upd H b u a = some o := by
  rw [upd_ne (ne_of_none e n)]
  exact e
theorem mem_cut {xs : List V} {lo hi : Option Int} {x : V} (h : x ∈ cutV xs lo hi) : x ∈ xs := List.mem_of_mem_drop (List.mem_of_mem_take h)
/-- the cells that a law walks: some of the script's, and 0 -/
theorem cell_int {ns : List Int} {lo hi : Option Int} {x : V} (h : x ∈ cutV (ns.map V.int) lo hi ++ [V.int 0]) : ∃ i, x = .int i := by
  rcases List.mem_append.mp h with h | h
  · obtain ⟨i, _, e⟩ := List.mem_map.mp (mem_cut h)
    exact ⟨i, e.symm⟩
  · exact ⟨0, by simpa using h⟩
theorem cut_len {xs : List V} {lo hi : Option Int} : (cutV xs lo hi).length ≤ xs.length := by
  unfold cutV
  rw [List.length_take, List.length_drop]
  omega
theorem fr2 {H : Hp} {a b : Addr} {o : HO} (h : upd H a o b = none) : H b = none := by
  by_cases e : b = a
  · rw [e, upd_same] at h
    cases h
  · rw [upd_ne e] at h
    exact h
end Lay

namespace Lay
open PySem PySem.Spec PyProof.Rows L2
/-! ## a dict of one entry whose key is a bytes -/
def dictB (P : Program) (w : World) (z : Array UInt8) (v : V) (p : Addr) : HO := .ext fun h => ∃ u, RelV v u ∧ h.DictOf (PySem.W.bytesKind P w) p [(z.toList, u)]
/-- dict([(z, v)]) -/
def rDictB (P : Program) (w : World) : List V → Hp → VK → Prop := fun xs H Q => ∃ (a t : Addr) (z : Array UInt8) (v : V), xs = [.ref a] ∧ H a = some (.lst [.ref t]) ∧ H t = some (.tup [.byt z, v]) ∧ ∀ p, H p = none → Q (.ref p) (upd H p (dictB P w z v p))
/-- d[z] of such -/
def rIxB (P : Program) (w : World) : R2 := fun x y H Q => ∃ (p : Addr) (z : Array UInt8) (v : V), x = .ref p ∧ y = .byt z ∧ H p = some (dictB P w z v p) ∧ Q v H
section
variable {X : Cx}
theorem call_dictB (hc : X.calm = true) : CallR X (.type "dict") (rDictB X.prog X.w) := by
  intro pins s σ H xs us Q I r h
  obtain ⟨a, t, z, v, rfl, ha, ht, q⟩ := h
  obtain ⟨u, rfl, rx⟩ := vals1 r
  cases rx
  obtain ⟨_, its, n, rv, e⟩ : ObjOk X.prog X.w H s.heap a (.lst [.ref t]) := I.hok a _ ha
  obtain ⟨u1, rfl, r1⟩ := vals1 rv
  cases r1
  obtain ⟨_, jts, rt, et⟩ : ObjOk X.prog X.w H s.heap t (.tup [.byt z, v]) := I.hok t _ ht
  obtain ⟨u2, u3, rfl, ⟨tk, rfl⟩, r3⟩ := vals2 rt
  refine PySem.call_dict_pairs (knd := PySem.W.bytesKind X.prog X.w) (kvs := [(z.toList, u3)]) (PySem.PairArg.list (prog := X.prog) (w := X.w) a [Value.ref t].toArray (fun _ => t) [(Value.bytes z tk, u3)]) (I.ok.hd hc) ⟨⟨_, n, e, rfl, rfl, rfl⟩, rfl, fun j k v' hj => ?_⟩ ⟨rfl, fun i key v' hi => ?_⟩ (by show 1 ≤ sizeLine; decide) fun h' tk' hd' kk => ?_
  · cases j with
    | zero =>
      have e1 := Option.some.inj hj
      cases e1
      exact ⟨rfl, .inl et⟩
    | succ j => cases hj
  · have hi' : ([(Value.bytes z tk, u3)] : List (Value × Value))[i]? = some (key, v') := hi
    cases i with
    | zero =>
      have e1 := Option.some.inj hi'
      cases e1
      exact ⟨_, rfl, by show (z.toList == z.toList) = true; simp⟩
    | succ j => cases hi'
  · have hk : ∀ b o, s.heap.get? b = some o → h'.get? b = some o := fun b o eb => kk b o (by simp) eb
    have hm : merged ([] : List (List UInt8 × Value)) [(z.toList, u3)] = [(z.toList, u3)] := rfl
    rw [hm] at hd'
    have ob : ObjOk X.prog X.w (upd H s.heap.objs.size (dictB X.prog X.w z v s.heap.objs.size)) h' s.heap.objs.size (dictB X.prog X.w z v s.heap.objs.size) := by
      refine ⟨⟨u3, r3, hd'⟩, ?_, fun h1 h2 p kp => ?_⟩
      · obtain ⟨o, _, _, eo, _⟩ := hd'.mapOf
        exact ⟨o, eo⟩
      · obtain ⟨u, ru, hd⟩ := p
        exact ⟨u, ru, hd.at kp⟩
    exact ⟨.ref s.heap.objs.size, _, I.laid (t' := tk') hk (Nat.le_refl _) ob, rfl, q _ (I.hok.fresh (Nat.le_refl _))⟩
theorem ix_dictB : IxR X (rIxB X.prog X.w) := by
  intro value slice pins s σ H x y v u Q I rx ry h hs
  obtain ⟨p, z, v0, rfl, rfl, hp, q⟩ := h
  cases rx
  obtain ⟨tk, rfl⟩ := ry
  have ob : ObjOk X.prog X.w H s.heap p (dictB X.prog X.w z v0 p) := I.hok p _ hp
  obtain ⟨⟨u0, ru, hd⟩, _, _⟩ := ob
  refine tail_any hd.typeIs PySem.F.slot_dict_getitem.lookup ?_ hs
  refine wpAny_getItem_of (knd := PySem.W.bytesKind X.prog X.w) (k := z.toList) (v := u0) (by show (z.toList == z.toList) = true; simp) hd.mapOf ?_ ⟨v0, H, I.tok _, ru, q⟩
  simp [valueAt]
end
end Lay

namespace Lay
open PySem PySem.Spec PyProof.Rows L2
/-! ## own exception classes over ValueError, with an __init__ that stores its arguments -/
def oexB (K : PySem.W.Frag) (C : Addr) : Bool := (match K.lookup C with
    | some ⟨.type "type", _, .cls cd, sl⟩ => (match cd.mro, sl.toList with
      | .ref D :: bm, [_, _, _, _, some (.builtin n), _] => D == C && (n == "ValueError.__new__" && (!cd.hasDel && (cd.hasDict && PySem.HandSPX.refsVE bm)))
      | _, _ => false)
    | _ => false) && (He.eqO (PySem.W.findIn K (.ref C) "__setattr__") (some (some (.builtin "object.__setattr__"))) &&
  (decide (PySem.W.subIn K (.ref C) (.type "BaseException") = some true) && (decide (PySem.W.typeIn K (.ref C) = some (.type "type")) && PySem.W.keepIn K (.ref C))))
theorem oexB_ok {K : PySem.W.Frag} {C : Addr} (h : oexB K C = true) : OexC K C := by
  obtain ⟨h1, h⟩ := He.ba h
  obtain ⟨h2, h⟩ := He.ba h
  obtain ⟨h3, h⟩ := He.ba h
  obtain ⟨h4, h5⟩ := He.ba h
  refine ⟨?_, He.eqO_ok h2, of_decide_eq_true h3, of_decide_eq_true h4, h5⟩
  clear h2 h3 h4 h5
  split at h1
  · rename_i dd cd sl ho
    split at h1
    · rename_i D bm k0 k1 k2 k3 n k5 hm hs
      obtain ⟨a1, h1⟩ := He.ba h1
      obtain ⟨a2, h1⟩ := He.ba h1
      obtain ⟨a3, h1⟩ := He.ba h1
      obtain ⟨a4, a5⟩ := He.ba h1
      have e1 : D = C := by simpa using a1
      have e2 : n = "ValueError.__new__" := by simpa using a2
      subst e1 e2
      obtain ⟨nm, bs, mro, ns, qn, hd, sn, sub, ab, col, del⟩ := cd
      obtain ⟨l⟩ := sl
      have hm' : mro = Value.ref D :: bm := hm
      have hs' : l = [k0, k1, k2, k3, some (.builtin "ValueError.__new__"), k5] := hs
      have d1 : del = false := by simpa using a3
      have d2 : hd = true := a4
      subst hm' hs' d1 d2
      exact ⟨nm, qn, ns, bs, bm, sn, sub, ab, col, dd, k0, k1, k2, k3, k5, ho, a5⟩
    · cases h1
  · cases h1
/-- all that is asked of the exception class that the module's name x holds -/
def excB (K : PySem.W.Frag) (x : Str) (fs : List Str) : Bool := oexB K (He.ga K x) && (xfB K (He.ga K x) && (He.eqO (PySem.W.nsIn K mainGlobals x) (some (some (.ref (He.ga K x)))) &&
  (He.eqO (PySem.W.findIn K (.ref (He.ga K x)) "__init__") (some (some (.ref (He.ma K (He.ga K x) "__init__")))) && (decide (PySem.W.typeIn K (.ref (He.ma K (He.ga K x) "__init__")) = some (.type "function")) &&
    (decide (PySem.W.exmOne K (.ref (He.ga K x)) (.ref (He.ga K x)) = some true) && fs.all fun f => He.eqO (PySem.W.findIn K (.ref (He.ga K x)) f) (some none))))))
structure ExcF (K : PySem.W.Frag) (mg : Str → Option Value) (x : Str) (fs : List Str) : Prop where
  ox : OexC K (He.ga K x)
  xf : XfC K (He.ga K x)
  g : mg x = some (.ref (He.ga K x))
  ic : PySem.W.findIn K (.ref (He.ga K x)) "__init__" = some (some (.ref (He.ma K (He.ga K x) "__init__")))
  it : PySem.W.typeIn K (.ref (He.ma K (He.ga K x) "__init__")) = some (.type "function")
  self : PySem.W.exmOne K (.ref (He.ga K x)) (.ref (He.ga K x)) = some true
  no : ∀ f ∈ fs, PySem.W.findIn K (.ref (He.ga K x)) f = some none
theorem excF_of {K : PySem.W.Frag} {mg : Str → Option Value} {h : Heap} {x : Str} {fs : List Str} (X : K.In h) (G : h.Ns mainGlobals mg) (c : excB K x fs = true) : ExcF K mg x fs := by
  obtain ⟨c1, c⟩ := He.ba c
  obtain ⟨c2, c⟩ := He.ba c
  obtain ⟨c3, c⟩ := He.ba c
  obtain ⟨c4, c⟩ := He.ba c
  obtain ⟨c5, c⟩ := He.ba c
  obtain ⟨c6, c7⟩ := He.ba c
  exact ⟨oexB_ok c1, xfB_ok c2, PySem.W.mg_of X G (He.eqO_ok c3), He.eqO_ok c4, of_decide_eq_true c5, of_decide_eq_true c6, fun f hf => He.eqO_ok (List.all_eq_true.mp c7 f hf)⟩
/-- self.f = v, the first store of a fresh exception -/
def spInit1 (C : Addr) (f : Str) : Sp := fun vs H Q _ => ∃ (a : Addr) (v : V), vs = [.ref a, v] ∧ H a = some (exo a C none) ∧ ∀ dx, H dx = none → dx ≠ a → Q .non (upd (upd H dx (exd dx [(f, v)])) a (exo a C (some dx)))
def spInit2 (C : Addr) (f g : Str) : Sp := fun vs H Q _ => ∃ (a : Addr) (v u : V), vs = [.ref a, v, u] ∧ H a = some (exo a C none) ∧ ∀ dx, H dx = none → dx ≠ a → Q .non (upd (upd H dx (exd dx [(g, u), (f, v)])) a (exo a C (some dx)))
theorem del_new {H : Hp} {a d : Addr} {o u v : HO} (ha : H a = none) (n : d ≠ a) : upd (del (upd (upd (upd H a o) d u) a v) a) d u = upd H d u := by
  funext b
  by_cases h1 : b = d
  · subst h1
    rw [upd_same, upd_same]
  · rw [upd_ne h1, upd_ne h1]
    by_cases h2 : b = a
    · rw [h2, del_same, ha]
    · rw [del_ne h2, upd_ne h2, upd_ne h1, upd_ne h2]
theorem del_new' {H : Hp} {a d : Addr} {o u v w : HO} (ha : H a = none) (n : d ≠ a) : upd (del (upd (upd (upd H a o) d u) a v) a) d w = upd H d w := by
  rw [← del_new (o := o) (u := w) (v := v) ha n]
  funext b
  by_cases h1 : b = d
  · subst h1
    rw [upd_same, upd_same]
  · rw [upd_ne h1, upd_ne h1]
    by_cases h2 : b = a
    · rw [h2, del_same, del_same]
    · rw [del_ne h2, del_ne h2, upd_ne h2, upd_ne h2, upd_ne h1, upd_ne h1]
/-- C(e), C(e, e'): an exception whose dict d holds these -/
def tMk1 (C : Addr) (f : Str) (ta : TA) : L2.St → Hp → XK → Prop := fun σ H Q => ta σ H fun vs H1 => ∃ v, vs = [v] ∧ ∀ d, H1 d = none → Q (.ref C) (some d) (upd H1 d (.xd [(f, v)]))
def tMk2 (C : Addr) (f g : Str) (ta : TA) : L2.St → Hp → XK → Prop := fun σ H Q => ta σ H fun vs H1 => ∃ v u, vs = [v, u] ∧ ∀ d, H1 d = none → Q (.ref C) (some d) (upd H1 d (.xd [(g, u), (f, v)]))
/-- an argument list's reading may be widened -/
def MonoA (ta : TA) : Prop := ∀ σ H (Q Q' : List V → Hp → Prop), (∀ vs H', Q vs H' → Q' vs H') → ta σ H Q → ta σ H Q'
theorem PMk.imp {X : Cx} {e : Expr} {t t' : L2.St → Hp → XK → Prop} (h : PMk X e t) (i : ∀ σ H Q, t' σ H Q → t σ H Q) : PMk X e t' := fun pins s σ H Q I q => h pins s σ H Q I (i σ H Q q)
section
variable {X : Cx} {x f g : Str} {k : Nat} {fs : List Str} {p pos : PySem.Pos} {e e1 e2 : Expr} {ta : TA}
/-- the __init__ of x: as the caller needs it -/
def IOk (P : Program) (w : World) (K : PySem.W.Frag) (mg : Str → Option Value) (base : Heap) (k : Nat) (x : Str) (ps : List Str) (sp : Sp) : Prop :=
  ∃ fd, FnOk P w K mg base CX0 k (He.ma K (He.ga K x) "__init__") fd ps sp ∧ Binds K fd ps []
theorem pmk1 (T : ExcF X.K X.mg x fs) (I : IOk X.prog X.w X.K X.mg X.base k x ["self", f] (spInit1 (He.ga X.K x) f)) (hr : Room (k + 1) X.A) (hg : Gl X x) (mono : MonoA ta) (ha : PA X [e] ta) (hdb : (x == ("__debug__" : Str)) = false := by decide)
    (he : starEach [e] X.env = (false, eval e X.env) :: starEach [] X.env := by rfl) (hpl : (backTo pos (starEach [] X.env)).any (·.1) = false := by rfl) : PMk X (.Call (.Name x p) [e] [] pos) (tMk1 (He.ga X.K x) f ta) := by
  obtain ⟨fd, F, b⟩ := I
  refine PMk.imp (pmk_oex T.ox T.ic T.it F hr b .nil (fun _ _ _ _ _ _ _ z => z.elim) hg T.g ha hdb he hpl) fun σ H Q h => ?_
  refine mono σ H _ _ (fun vs H1 hq => ?_) h
  obtain ⟨v, rfl, q⟩ := hq
  refine ⟨by show 1 ≤ 1000; decide, fun a na => ⟨a, v, rfl, upd_same, fun dx ndx ne => ⟨rfl, dx, [(f, v)], upd_same, ?_, fr2 ndx, ?_⟩⟩⟩
  · rw [upd_ne ne, upd_same]
  · rw [del_new' na ne]
    exact q dx (fr2 ndx)
theorem pmk2 (T : ExcF X.K X.mg x fs) (I : IOk X.prog X.w X.K X.mg X.base k x ["self", f, g] (spInit2 (He.ga X.K x) f g)) (hr : Room (k + 1) X.A) (hg : Gl X x) (mono : MonoA ta) (ha : PA X [e1, e2] ta) (hdb : (x == ("__debug__" : Str)) = false := by decide)
    (he : starEach [e1, e2] X.env = (false, eval e1 X.env) :: starEach [e2] X.env := by rfl) (hpl : (backTo pos (starEach [e2] X.env)).any (·.1) = false := by rfl) : PMk X (.Call (.Name x p) [e1, e2] [] pos) (tMk2 (He.ga X.K x) f g ta) := by
  obtain ⟨fd, F, b⟩ := I
  refine PMk.imp (pmk_oex T.ox T.ic T.it F hr b .nil (fun _ _ _ _ _ _ _ z => z.elim) hg T.g ha hdb he hpl) fun σ H Q h => ?_
  refine mono σ H _ _ (fun vs H1 hq => ?_) h
  obtain ⟨v, u, rfl, q⟩ := hq
  refine ⟨by show 2 ≤ 1000; decide, fun a na => ⟨a, v, u, rfl, upd_same, fun dx ndx ne => ⟨rfl, dx, [(g, u), (f, v)], upd_same, ?_, fr2 ndx, ?_⟩⟩⟩
  · rw [upd_ne ne, upd_same]
  · rw [del_new' na ne]
    exact q dx (fr2 ndx)
/-- the wish of a def about what it raises -/
theorem passE {X : Cx} {W : WX} {E : XK} (tk : Takes X W) (hW : ∀ cls d σ H, E cls d H → W cls d σ H) : Passes (L2.CX X.prog X.w) X E := passes_call tk hW
end
theorem mono_nil : MonoA tNil := fun _ _ _ _ i h => i _ _ h
theorem mono_cons {ta : TE} {tr : TA} (h : ∀ σ H (Q Q' : VK), (∀ v H', Q v H' → Q' v H') → ta σ H Q → ta σ H Q') (hr : MonoA tr) : MonoA (tCons ta tr) := fun σ H Q Q' i q =>
  h σ H _ _ (fun x H1 q1 => hr σ H1 _ _ (fun xs H2 q2 => i _ _ q2) q1) q
theorem mono_var {i : Nat} : ∀ σ H (Q Q' : VK), (∀ v H', Q v H' → Q' v H') → tVar i σ H Q → tVar i σ H Q' := fun _ _ _ _ m h => by
  obtain ⟨v, e, q⟩ := h
  exact ⟨v, e, m _ _ q⟩
theorem mono_c {v : V} : ∀ σ H (Q Q' : VK), (∀ v H', Q v H' → Q' v H') → tC v σ H Q → tC v σ H Q' := fun _ _ _ _ m h => m _ _ h
theorem mono_un {r : V → Hp → VK → Prop} {ta : TE} (hr : ∀ x H (Q Q' : VK), (∀ v H', Q v H' → Q' v H') → r x H Q → r x H Q') (h : ∀ σ H (Q Q' : VK), (∀ v H', Q v H' → Q' v H') → ta σ H Q → ta σ H Q') :
    ∀ σ H (Q Q' : VK), (∀ v H', Q v H' → Q' v H') → tUn r ta σ H Q → tUn r ta σ H Q' := fun σ H _ _ m q => h σ H _ _ (fun x H1 q1 => hr x H1 _ _ m q1) q
theorem mono_neg {ta : TE} (h : ∀ σ H (Q Q' : VK), (∀ v H', Q v H' → Q' v H') → ta σ H Q → ta σ H Q') : ∀ σ H (Q Q' : VK), (∀ v H', Q v H' → Q' v H') → tUn (rU fun i => V.int (-i)) ta σ H Q → tUn (rU fun i => V.int (-i)) ta σ H Q' :=
  mono_un (fun _ _ _ _ m h => by
    obtain ⟨i, e, q⟩ := h
    exact ⟨i, e, m _ _ q⟩) h
theorem upd_swap {H : Hp} {a d : Addr} {o1 o2 o3 : HO} (n : d ≠ a) : upd (upd (upd H d o1) a o2) d o3 = upd (upd H d o3) a o2 := by
  funext b
  by_cases h1 : b = d
  · subst h1
    rw [upd_same, upd_ne n, upd_same]
  · by_cases h2 : b = a
    · subst h2
      rw [upd_ne h1, upd_same, upd_same]
    · rw [upd_ne h1, upd_ne h2, upd_ne h1, upd_ne h2, upd_ne h1]
/-- a call of the def that slot i holds, within a try -/
def Held (P : Program) (w : World) (K : PySem.W.Frag) (mg : Str → Option Value) (base : Heap) (k : Nat) (f : Addr) (sp : Sp) : Prop :=
  ∃ (fd : FuncData) (ps : List Str), FnOk P w K mg base (L2.CX P w) k f fd ps sp ∧ PySem.W.keepIn K (.ref f) = true ∧ Binds K fd ps []
def tCallLS (i : Nat) (S : Addr → Sp → Prop) (W : WX) (t : TA) : TE := fun σ H Q => ∃ f sp, σ[i]? = some (some (.ref f)) ∧ S f sp ∧ t σ H fun vs H1 => sp vs H1 Q (WE W σ)
theorem pe_lcl {X : Cx} {S : Addr → Sp → Prop} {W : WX} {k i : Nat} {x : Str} {p pos : PySem.Pos} {e : Expr} {es : List Expr} {t : TA} (A : ∀ f sp, S f sp → Held X.prog X.w X.K X.mg X.base k f sp) (hr : Room k X.A) (tk : Takes X W) (hN : X.N[i]? = some x) (hv : Vis X.env.scope x) (ha : PA X (e :: es) t)
    (hdb : (x == ("__debug__" : Str)) = false := by decide) (hcd : (x == ("__classdict__" : Str)) = false := by decide)
    (he : starEach (e :: es) X.env = (false, eval e X.env) :: starEach es X.env := by rfl) (hpl : (backTo pos (starEach es X.env)).any (·.1) = false := by rfl) : PE X (.Call (.Name x p) (e :: es) [] pos) (tCallLS i S W t) := by
  refine ⟨fun pins s σ H Q I h => ?_⟩
  obtain ⟨f, sp, hs, hS, ht⟩ := h
  obtain ⟨fd, ps, F, hk, hb⟩ := A f sp hS
  have hvar := (pe_var (pos := p) hN hv hdb hcd).run pins s σ H (fun v H1 => v = .ref f ∧ H1 = H) I ⟨.ref f, hs, rfl, rfl⟩
  refine wpAny_Call_Name_kw (thn hvar fun u s1 hu => ?_)
  obtain ⟨v, H1, I1, r1, e1, e2⟩ := hu
  subst e1 e2
  cases r1
  refine PySem.W.callWith_K (h₀ := X.base) I.ok.mod.kin hk (thn (ha.run pos pins s1 σ _ _ I1 ht) fun us s2 hq => ?_) he hpl
  obtain ⟨vs, H2, I2, r, q⟩ := hq
  exact ⟨I2.kIn, run_fnS (E := WE W) F hr hb (passAt tk σ) I2 r q⟩
end Lay

namespace Pu
end Pu
namespace K33
open PySem PySem.Spec PyProof.Rows L2 Lay Pu
def topS (i : Nat) : Stmt := PySem.Challenge.pw_codespans_k33_source_edits.main.body.getD i (.Pass ⟨0, 0, 0, 0⟩)
abbrev s_wall : Stmt := topS 0
abbrev s_BadTable_init : Stmt := inClass (topS 3) 0
abbrev s_BadLine_init : Stmt := inClass (topS 4) 0
abbrev s_BadSpan_init : Stmt := inClass (topS 5) 0
abbrev s_BadCount_init : Stmt := inClass (topS 6) 0
abbrev s_is_int : Stmt := topS 9
abbrev s_is_int_from : Stmt := topS 10
abbrev s_is_byte_data : Stmt := topS 11
abbrev s_check_byte_data : Stmt := topS 12
abbrev s_check_source_line : Stmt := topS 13
abbrev s_check_count : Stmt := topS 14
abbrev s_is_span : Stmt := topS 16
abbrev s_check_spans : Stmt := topS 17
abbrev s_line_behind : Stmt := topS 18
abbrev s_ranges_of : Stmt := topS 20
abbrev s_name_of : Stmt := topS 27
abbrev s_write_number : Stmt := topS 30
abbrev s_write_signed : Stmt := topS 31
abbrev s_read_further : Stmt := topS 32
abbrev s_read_number : Stmt := topS 33
abbrev s_read_signed : Stmt := topS 34
abbrev s_read_entries : Stmt := topS 36
abbrev s_read_entry : Stmt := topS 37
abbrev s_read_position : Stmt := topS 38
abbrev s_read_long : Stmt := topS 39
abbrev s_column : Stmt := topS 40
abbrev s_check_position : Stmt := topS 41
abbrev s_write_runs : Stmt := topS 43
abbrev s_write_run : Stmt := topS 44
abbrev s_write_entry : Stmt := topS 45
abbrev s_form_and_bytes : Stmt := topS 46
abbrev s_write_long : Stmt := topS 47
abbrev s_Table_init : Stmt := inClass (topS 49) 0
abbrev s_Table_of : Stmt := inClass (topS 49) 1
abbrev s_Table_span_at : Stmt := inClass (topS 49) 2
abbrev s_Table_spans : Stmt := inClass (topS 49) 3
abbrev s_Table_runs : Stmt := inClass (topS 49) 4
abbrev s_Table_entries : Stmt := inClass (topS 49) 5
abbrev s_Table_line_ranges : Stmt := inClass (topS 49) 6
abbrev s_Table_lines : Stmt := inClass (topS 49) 7
abbrev s_Table_stops : Stmt := inClass (topS 49) 8
abbrev s_Table_next_line : Stmt := inClass (topS 49) 9
abbrev s_Table_covering : Stmt := inClass (topS 49) 10
abbrev s_Table_eq : Stmt := inClass (topS 49) 11
abbrev s_spans_of : Stmt := topS 50
abbrev s_moved : Stmt := topS 52
abbrev s_moved_span : Stmt := topS 53
abbrev s_moved_line : Stmt := topS 54
abbrev s_l_cell_at : Stmt := topS 56
abbrev s_l_well : Stmt := topS 57
abbrev s_l_draw : Stmt := topS 58
abbrev s_l_one : Stmt := topS 59
abbrev s_l_line : Stmt := topS 60
abbrev s_l_column : Stmt := topS 61
abbrev s_l_span : Stmt := topS 62
abbrev s_l_spans : Stmt := topS 63
abbrev s_l_groups : Stmt := topS 64
abbrev s_l_folded : Stmt := topS 65
abbrev s_l_padded : Stmt := topS 66
abbrev s_l_column_number : Stmt := topS 67
abbrev s_l_loose_entry : Stmt := topS 68
abbrev s_l_written : Stmt := topS 69
abbrev s_l_moved : Stmt := topS 70
abbrev s_l_said : Stmt := topS 71
abbrev s_l_due : Stmt := topS 72
abbrev s_l_edit : Stmt := topS 73
abbrev s_l_idle : Stmt := topS 74
abbrev s_law : Stmt := topS 75
theorem sc_wall : FnScope ["k"] ["k"] (defScope s_wall) := ⟨rfl, rfl, rfl, by decide +kernel, rfl, by decide +kernel, by decide +kernel⟩
theorem sc_BadTable_init : FnScope ["self", "at", "why"] ["self", "at", "why"] (defScope s_BadTable_init) := ⟨rfl, rfl, rfl, by decide +kernel, rfl, by decide +kernel, by decide +kernel⟩
theorem sc_BadLine_init : FnScope ["self", "line"] ["self", "line"] (defScope s_BadLine_init) := ⟨rfl, rfl, rfl, by decide +kernel, rfl, by decide +kernel, by decide +kernel⟩
theorem sc_BadSpan_init : FnScope ["self", "at"] ["self", "at"] (defScope s_BadSpan_init) := ⟨rfl, rfl, rfl, by decide +kernel, rfl, by decide +kernel, by decide +kernel⟩
theorem sc_BadCount_init : FnScope ["self", "many"] ["self", "many"] (defScope s_BadCount_init) := ⟨rfl, rfl, rfl, by decide +kernel, rfl, by decide +kernel, by decide +kernel⟩
theorem sc_is_int : FnScope ["thing"] ["thing"] (defScope s_is_int) := ⟨rfl, rfl, rfl, by decide +kernel, rfl, by decide +kernel, by decide +kernel⟩
theorem sc_is_int_from : FnScope ["thing", "low", "high"] ["thing", "low", "high"] (defScope s_is_int_from) := ⟨rfl, rfl, rfl, by decide +kernel, rfl, by decide +kernel, by decide +kernel⟩
theorem sc_is_byte_data : FnScope ["thing", "item"] ["thing"] (defScope s_is_byte_data) := ⟨rfl, rfl, rfl, by decide +kernel, rfl, by decide +kernel, by decide +kernel⟩
theorem sc_check_byte_data : FnScope ["data"] ["data"] (defScope s_check_byte_data) := ⟨rfl, rfl, rfl, by decide +kernel, rfl, by decide +kernel, by decide +kernel⟩
theorem sc_check_source_line : FnScope ["line"] ["line"] (defScope s_check_source_line) := ⟨rfl, rfl, rfl, by decide +kernel, rfl, by decide +kernel, by decide +kernel⟩
theorem sc_check_count : FnScope ["many", "low", "high"] ["many", "low", "high"] (defScope s_check_count) := ⟨rfl, rfl, rfl, by decide +kernel, rfl, by decide +kernel, by decide +kernel⟩
theorem sc_is_span : FnScope ["thing", "line", "end_line", "column", "end_column"] ["thing"] (defScope s_is_span) := ⟨rfl, rfl, rfl, by decide +kernel, rfl, by decide +kernel, by decide +kernel⟩
theorem sc_check_spans : FnScope ["spans", "at", "span"] ["spans"] (defScope s_check_spans) := ⟨rfl, rfl, rfl, by decide +kernel, rfl, by decide +kernel, by decide +kernel⟩
theorem sc_line_behind : FnScope ["span", "line"] ["span", "line"] (defScope s_line_behind) := ⟨rfl, rfl, rfl, by decide +kernel, rfl, by decide +kernel, by decide +kernel⟩
theorem sc_ranges_of : FnScope ["values", "ranges", "start", "at", "value"] ["values"] (defScope s_ranges_of) := ⟨rfl, rfl, rfl, by decide +kernel, rfl, by decide +kernel, by decide +kernel⟩
theorem sc_name_of : FnScope ["form"] ["form"] (defScope s_name_of) := ⟨rfl, rfl, rfl, by decide +kernel, rfl, by decide +kernel, by decide +kernel⟩
theorem sc_write_number : FnScope ["n", "groups", "rest"] ["n"] (defScope s_write_number) := ⟨rfl, rfl, rfl, by decide +kernel, rfl, by decide +kernel, by decide +kernel⟩
theorem sc_write_signed : FnScope ["n"] ["n"] (defScope s_write_signed) := ⟨rfl, rfl, rfl, by decide +kernel, rfl, by decide +kernel, by decide +kernel⟩
theorem sc_read_further : FnScope ["data", "at"] ["data", "at"] (defScope s_read_further) := ⟨rfl, rfl, rfl, by decide +kernel, rfl, by decide +kernel, by decide +kernel⟩
theorem sc_read_number : FnScope ["data", "at", "number", "shift", "group"] ["data", "at"] (defScope s_read_number) := ⟨rfl, rfl, rfl, by decide +kernel, rfl, by decide +kernel, by decide +kernel⟩
theorem sc_read_signed : FnScope ["data", "at", "number", "behind", "half"] ["data", "at"] (defScope s_read_signed) := ⟨rfl, rfl, rfl, by decide +kernel, rfl, by decide +kernel, by decide +kernel⟩
theorem sc_read_entries : FnScope ["data", "first_line", "entries", "at", "start", "line", "steps", "name", "span", "behind"] ["data", "first_line"] (defScope s_read_entries) := ⟨rfl, rfl, rfl, by decide +kernel, rfl, by decide +kernel, by decide +kernel⟩
theorem sc_read_entry : FnScope ["data", "at", "line", "first", "form", "span", "behind"] ["data", "at", "line"] (defScope s_read_entry) := ⟨rfl, rfl, rfl, by decide +kernel, rfl, by decide +kernel, by decide +kernel⟩
theorem sc_read_position : FnScope ["data", "at", "form", "line", "change", "behind", "first", "column", "second", "own_line"] ["data", "at", "form", "line"] (defScope s_read_position) := ⟨rfl, rfl, rfl, by decide +kernel, rfl, by decide +kernel, by decide +kernel⟩
theorem sc_read_long : FnScope ["data", "at", "line", "change", "height", "column", "end_column", "own_line"] ["data", "at", "line"] (defScope s_read_long) := ⟨rfl, rfl, rfl, by decide +kernel, rfl, by decide +kernel, by decide +kernel⟩
theorem sc_column : FnScope ["number"] ["number"] (defScope s_column) := ⟨rfl, rfl, rfl, by decide +kernel, rfl, by decide +kernel, by decide +kernel⟩
theorem sc_check_position : FnScope ["span", "at"] ["span", "at"] (defScope s_check_position) := ⟨rfl, rfl, rfl, by decide +kernel, rfl, by decide +kernel, by decide +kernel⟩
theorem sc_write_runs : FnScope ["runs", "first_line", "pieces", "line", "start", "end", "span"] ["runs", "first_line"] (defScope s_write_runs) := ⟨rfl, rfl, rfl, by decide +kernel, rfl, by decide +kernel, by decide +kernel⟩
theorem sc_write_run : FnScope ["span", "steps", "line", "pieces", "many"] ["span", "steps", "line"] (defScope s_write_run) := ⟨rfl, rfl, rfl, by decide +kernel, rfl, by decide +kernel, by decide +kernel⟩
theorem sc_write_entry : FnScope ["span", "steps", "line", "form", "further"] ["span", "steps", "line"] (defScope s_write_entry) := ⟨rfl, rfl, rfl, by decide +kernel, rfl, by decide +kernel, by decide +kernel⟩
theorem sc_form_and_bytes : FnScope ["span", "line", "own_line", "end_line", "column", "end_column", "change", "width"] ["span", "line"] (defScope s_form_and_bytes) := ⟨rfl, rfl, rfl, by decide +kernel, rfl, by decide +kernel, by decide +kernel⟩
theorem sc_write_long : FnScope ["change", "height", "column", "end_column", "numbers"] ["change", "height", "column", "end_column"] (defScope s_write_long) := ⟨rfl, rfl, rfl, by decide +kernel, rfl, by decide +kernel, by decide +kernel⟩
theorem sc_Table_init : FnScope ["self", "data", "first_line", "own_data", "entries"] ["self", "data", "first_line"] (defScope s_Table_init) := ⟨rfl, rfl, rfl, by decide +kernel, rfl, by decide +kernel, by decide +kernel⟩
theorem sc_Table_of : FnScope ["spans", "first_line"] ["spans", "first_line"] (defScope s_Table_of) := ⟨rfl, rfl, rfl, by decide +kernel, rfl, by decide +kernel, by decide +kernel⟩
theorem sc_Table_span_at : FnScope ["self", "step"] ["self", "step"] (defScope s_Table_span_at) := ⟨rfl, rfl, rfl, by decide +kernel, rfl, by decide +kernel, by decide +kernel⟩
theorem sc_Table_spans : FnScope ["self"] ["self"] (defScope s_Table_spans) := ⟨rfl, rfl, rfl, by decide +kernel, rfl, by decide +kernel, by decide +kernel⟩
theorem sc_Table_runs : FnScope ["self"] ["self"] (defScope s_Table_runs) := ⟨rfl, rfl, rfl, by decide +kernel, rfl, by decide +kernel, by decide +kernel⟩
theorem sc_Table_entries : FnScope ["self"] ["self"] (defScope s_Table_entries) := ⟨rfl, rfl, rfl, by decide +kernel, rfl, by decide +kernel, by decide +kernel⟩
theorem sc_Table_line_ranges : FnScope ["self"] ["self"] (defScope s_Table_line_ranges) := ⟨rfl, rfl, rfl, by decide +kernel, rfl, by decide +kernel, by decide +kernel⟩
theorem sc_Table_lines : FnScope ["self", "span"] ["self"] (defScope s_Table_lines) := ⟨rfl, rfl, rfl, by decide +kernel, rfl, by decide +kernel, by decide +kernel⟩
theorem sc_Table_stops : FnScope ["self", "line"] ["self", "line"] (defScope s_Table_stops) := ⟨rfl, rfl, rfl, by decide +kernel, rfl, by decide +kernel, by decide +kernel⟩
theorem sc_Table_next_line : FnScope ["self", "line"] ["self", "line"] (defScope s_Table_next_line) := ⟨rfl, rfl, rfl, by decide +kernel, rfl, by decide +kernel, by decide +kernel⟩
theorem sc_Table_covering : FnScope ["self", "line", "column"] ["self", "line", "column"] (defScope s_Table_covering) := ⟨rfl, rfl, rfl, by decide +kernel, rfl, by decide +kernel, by decide +kernel⟩
theorem sc_Table_eq : FnScope ["self", "other"] ["self", "other"] (defScope s_Table_eq) := ⟨rfl, rfl, rfl, by decide +kernel, rfl, by decide +kernel, by decide +kernel⟩
theorem sc_spans_of : FnScope ["entries", "spans", "_", "steps", "span"] ["entries"] (defScope s_spans_of) := ⟨rfl, rfl, rfl, by decide +kernel, rfl, by decide +kernel, by decide +kernel⟩
theorem sc_moved : FnScope ["table", "line", "removed", "added", "behind", "spans", "span"] ["table", "line", "removed", "added"] (defScope s_moved) := ⟨rfl, rfl, rfl, by decide +kernel, rfl, by decide +kernel, by decide +kernel⟩
theorem sc_moved_span : FnScope ["span", "start", "behind", "growth", "line", "end_line", "column", "end_column"] ["span", "start", "behind", "growth"] (defScope s_moved_span) := ⟨rfl, rfl, rfl, by decide +kernel, rfl, by decide +kernel, by decide +kernel⟩
theorem sc_moved_line : FnScope ["line", "behind", "growth", "new"] ["line", "behind", "growth"] (defScope s_moved_line) := ⟨rfl, rfl, rfl, by decide +kernel, rfl, by decide +kernel, by decide +kernel⟩
theorem sc_l_cell_at : FnScope ["_law_script", "_law_k"] ["_law_script", "_law_k"] (defScope s_l_cell_at) := ⟨rfl, rfl, rfl, by decide +kernel, rfl, by decide +kernel, by decide +kernel⟩
theorem sc_l_well : FnScope ["_law_cell"] ["_law_cell"] (defScope s_l_well) := ⟨rfl, rfl, rfl, by decide +kernel, rfl, by decide +kernel, by decide +kernel⟩
theorem sc_l_draw : FnScope ["_law_well_here", "_law_many", "_law_digit", "_law_number", "_law_more"] ["_law_well_here", "_law_many"] (defScope s_l_draw) := ⟨rfl, rfl, rfl, by decide +kernel, rfl, by decide +kernel, by decide +kernel⟩
theorem sc_l_one : FnScope ["_law_well_here", "_law_some"] ["_law_well_here", "_law_some"] (defScope s_l_one) := ⟨rfl, rfl, rfl, by decide +kernel, rfl, by decide +kernel, by decide +kernel⟩
theorem sc_l_line : FnScope ["_law_well_here", "_law_near", "_law_way"] ["_law_well_here", "_law_near"] (defScope s_l_line) := ⟨rfl, rfl, rfl, by decide +kernel, rfl, by decide +kernel, by decide +kernel⟩
theorem sc_l_column : FnScope ["_law_well_here", "_law_some"] ["_law_well_here"] (defScope s_l_column) := ⟨rfl, rfl, rfl, by decide +kernel, rfl, by decide +kernel, by decide +kernel⟩
theorem sc_l_span : FnScope ["_law_well_here", "_law_near", "_law_way", "_law_line_here", "_law_column_here", "_law_wide", "_law_end_line"] ["_law_well_here", "_law_near"] (defScope s_l_span) := ⟨rfl, rfl, rfl, by decide +kernel, rfl, by decide +kernel, by decide +kernel⟩
theorem sc_l_spans : FnScope ["_law_well_here", "_law_most", "_law_found", "_law_near", "_law_k", "_law_span_here"] ["_law_well_here", "_law_most"] (defScope s_l_spans) := ⟨rfl, rfl, rfl, by decide +kernel, rfl, by decide +kernel, by decide +kernel⟩
theorem sc_l_groups : FnScope ["_law_number", "_law_found"] ["_law_number"] (defScope s_l_groups) := ⟨rfl, rfl, rfl, by decide +kernel, rfl, by decide +kernel, by decide +kernel⟩
theorem sc_l_folded : FnScope ["_law_number"] ["_law_number"] (defScope s_l_folded) := ⟨rfl, rfl, rfl, by decide +kernel, rfl, by decide +kernel, by decide +kernel⟩
theorem sc_l_padded : FnScope ["_law_well_here", "_law_number", "_law_found", "_law_k"] ["_law_well_here", "_law_number"] (defScope s_l_padded) := ⟨rfl, rfl, rfl, by decide +kernel, rfl, by decide +kernel, by decide +kernel⟩
theorem sc_l_column_number : FnScope ["_law_column_here"] ["_law_column_here"] (defScope s_l_column_number) := ⟨rfl, rfl, rfl, by decide +kernel, rfl, by decide +kernel, by decide +kernel⟩
theorem sc_l_loose_entry : FnScope ["_law_well_here", "_law_span_here", "_law_line_here", "_law_steps", "_law_first", "_law_last", "_law_column_here", "_law_end_column", "_law_delta", "_law_some"] ["_law_well_here", "_law_span_here", "_law_line_here", "_law_steps"] (defScope s_l_loose_entry) := ⟨rfl, rfl, rfl, by decide +kernel, rfl, by decide +kernel, by decide +kernel⟩
theorem sc_l_written : FnScope ["_law_well_here", "_law_spans_here", "_law_first_line", "_law_data", "_law_line_here", "_law_at", "_law_span_here", "_law_steps", "_law_wish"] ["_law_well_here", "_law_spans_here", "_law_first_line"] (defScope s_l_written) := ⟨rfl, rfl, rfl, by decide +kernel, rfl, by decide +kernel, by decide +kernel⟩
theorem sc_l_moved : FnScope ["_law_span_here", "_law_line_here", "_law_removed", "_law_added", "_law_gone", "_law_lines", "_law_k", "_law_one_here"] ["_law_span_here", "_law_line_here", "_law_removed", "_law_added"] (defScope s_l_moved) := ⟨rfl, rfl, rfl, by decide +kernel, rfl, by decide +kernel, by decide +kernel⟩
theorem sc_l_said : FnScope ["_law_table", "_law_line_here", "_law_removed", "_law_added", "_law_found", "e"] ["_law_table", "_law_line_here", "_law_removed", "_law_added"] (defScope s_l_said) := ⟨rfl, rfl, rfl, by decide +kernel, rfl, by decide +kernel, by decide +kernel⟩
theorem sc_l_due : FnScope ["_law_spans_here", "_law_first_line", "_law_line_here", "_law_removed", "_law_added", "_law_span_here", "_law_found", "_law_one_here"] ["_law_spans_here", "_law_first_line", "_law_line_here", "_law_removed", "_law_added"] (defScope s_l_due) := ⟨rfl, rfl, rfl, by decide +kernel, rfl, by decide +kernel, by decide +kernel⟩
theorem sc_l_edit : FnScope ["_law_well_here", "_law_spans_here", "_law_lines", "_law_span_here", "_law_line_here", "_law_sizes"] ["_law_well_here", "_law_spans_here"] (defScope s_l_edit) := ⟨rfl, rfl, rfl, by decide +kernel, rfl, by decide +kernel, by decide +kernel⟩
theorem sc_l_idle : FnScope ["_law_well_here", "_law_spans_here", "_law_last", "_law_found", "_law_span_here"] ["_law_well_here", "_law_spans_here"] (defScope s_l_idle) := ⟨rfl, rfl, rfl, by decide +kernel, rfl, by decide +kernel, by decide +kernel⟩
theorem sc_law : FnScope ["_law_script", "_law_cell", "_law_well_here", "_law_first_line", "_law_spans_here", "_law_table", "_law_line_here", "_law_removed", "_law_added", "_law_none", "_law_odd", "_law_k"] ["_law_script"] (defScope s_law) := ⟨rfl, rfl, rfl, by decide +kernel, rfl, by decide +kernel, by decide +kernel⟩
def d_BadTable_init : He5.DefA := { at_ := fun K => He.ma K (He.ga K "BadTable") "__init__", name := "__init__", qual := "BadTable.__init__", params := defArgs s_BadTable_init, body := defBody s_BadTable_init, scope := defScope s_BadTable_init }
def d_BadLine_init : He5.DefA := { at_ := fun K => He.ma K (He.ga K "BadLine") "__init__", name := "__init__", qual := "BadLine.__init__", params := defArgs s_BadLine_init, body := defBody s_BadLine_init, scope := defScope s_BadLine_init }
def d_BadSpan_init : He5.DefA := { at_ := fun K => He.ma K (He.ga K "BadSpan") "__init__", name := "__init__", qual := "BadSpan.__init__", params := defArgs s_BadSpan_init, body := defBody s_BadSpan_init, scope := defScope s_BadSpan_init }
def d_BadCount_init : He5.DefA := { at_ := fun K => He.ma K (He.ga K "BadCount") "__init__", name := "__init__", qual := "BadCount.__init__", params := defArgs s_BadCount_init, body := defBody s_BadCount_init, scope := defScope s_BadCount_init }
def d_Table_init : He5.DefA := { at_ := fun K => He.ma K (He.ga K "Table") "__init__", name := "__init__", qual := "Table.__init__", params := defArgs s_Table_init, body := defBody s_Table_init, scope := defScope s_Table_init }
def d_Table_of : He5.DefA := { at_ := fun K => He5.wf K (He.ga K "Table") "staticmethod" "of", name := "of", qual := "Table.of", params := defArgs s_Table_of, body := defBody s_Table_of, scope := defScope s_Table_of }
def d_Table_span_at : He5.DefA := { at_ := fun K => He.ma K (He.ga K "Table") "span_at", name := "span_at", qual := "Table.span_at", params := defArgs s_Table_span_at, body := defBody s_Table_span_at, scope := defScope s_Table_span_at }
def d_Table_spans : He5.DefA := { at_ := fun K => He.ma K (He.ga K "Table") "spans", name := "spans", qual := "Table.spans", params := defArgs s_Table_spans, body := defBody s_Table_spans, scope := defScope s_Table_spans }
def d_Table_runs : He5.DefA := { at_ := fun K => He.ma K (He.ga K "Table") "runs", name := "runs", qual := "Table.runs", params := defArgs s_Table_runs, body := defBody s_Table_runs, scope := defScope s_Table_runs }
def d_Table_entries : He5.DefA := { at_ := fun K => He.ma K (He.ga K "Table") "entries", name := "entries", qual := "Table.entries", params := defArgs s_Table_entries, body := defBody s_Table_entries, scope := defScope s_Table_entries }
def d_Table_line_ranges : He5.DefA := { at_ := fun K => He.ma K (He.ga K "Table") "line_ranges", name := "line_ranges", qual := "Table.line_ranges", params := defArgs s_Table_line_ranges, body := defBody s_Table_line_ranges, scope := defScope s_Table_line_ranges }
def d_Table_lines : He5.DefA := { at_ := fun K => He.ma K (He.ga K "Table") "lines", name := "lines", qual := "Table.lines", params := defArgs s_Table_lines, body := defBody s_Table_lines, scope := defScope s_Table_lines }
def d_Table_stops : He5.DefA := { at_ := fun K => He.ma K (He.ga K "Table") "stops", name := "stops", qual := "Table.stops", params := defArgs s_Table_stops, body := defBody s_Table_stops, scope := defScope s_Table_stops }
def d_Table_next_line : He5.DefA := { at_ := fun K => He.ma K (He.ga K "Table") "next_line", name := "next_line", qual := "Table.next_line", params := defArgs s_Table_next_line, body := defBody s_Table_next_line, scope := defScope s_Table_next_line }
def d_Table_covering : He5.DefA := { at_ := fun K => He.ma K (He.ga K "Table") "covering", name := "covering", qual := "Table.covering", params := defArgs s_Table_covering, body := defBody s_Table_covering, scope := defScope s_Table_covering }
def d_Table_eq : He5.DefA := { at_ := fun K => He.ma K (He.ga K "Table") "__eq__", name := "__eq__", qual := "Table.__eq__", params := defArgs s_Table_eq, body := defBody s_Table_eq, scope := defScope s_Table_eq }
def d_wall : He5.DefA := { at_ := fun K => He.ga K "_wall", name := "_wall", qual := "_wall", params := defArgs s_wall, body := defBody s_wall, scope := defScope s_wall }
def d_is_int : He5.DefA := { at_ := fun K => He.ga K "is_int", name := "is_int", qual := "is_int", params := defArgs s_is_int, body := defBody s_is_int, scope := defScope s_is_int }
def d_is_int_from : He5.DefA := { at_ := fun K => He.ga K "is_int_from", name := "is_int_from", qual := "is_int_from", params := defArgs s_is_int_from, body := defBody s_is_int_from, scope := defScope s_is_int_from }
def d_is_byte_data : He5.DefA := { at_ := fun K => He.ga K "is_byte_data", name := "is_byte_data", qual := "is_byte_data", params := defArgs s_is_byte_data, body := defBody s_is_byte_data, scope := defScope s_is_byte_data }
def d_check_byte_data : He5.DefA := { at_ := fun K => He.ga K "check_byte_data", name := "check_byte_data", qual := "check_byte_data", params := defArgs s_check_byte_data, body := defBody s_check_byte_data, scope := defScope s_check_byte_data }
def d_check_source_line : He5.DefA := { at_ := fun K => He.ga K "check_source_line", name := "check_source_line", qual := "check_source_line", params := defArgs s_check_source_line, body := defBody s_check_source_line, scope := defScope s_check_source_line }
def d_check_count : He5.DefA := { at_ := fun K => He.ga K "check_count", name := "check_count", qual := "check_count", params := defArgs s_check_count, body := defBody s_check_count, scope := defScope s_check_count }
def d_is_span : He5.DefA := { at_ := fun K => He.ga K "is_span", name := "is_span", qual := "is_span", params := defArgs s_is_span, body := defBody s_is_span, scope := defScope s_is_span }
def d_check_spans : He5.DefA := { at_ := fun K => He.ga K "check_spans", name := "check_spans", qual := "check_spans", params := defArgs s_check_spans, body := defBody s_check_spans, scope := defScope s_check_spans }
def d_line_behind : He5.DefA := { at_ := fun K => He.ga K "line_behind", name := "line_behind", qual := "line_behind", params := defArgs s_line_behind, body := defBody s_line_behind, scope := defScope s_line_behind }
def d_ranges_of : He5.DefA := { at_ := fun K => He.ga K "ranges_of", name := "ranges_of", qual := "ranges_of", params := defArgs s_ranges_of, body := defBody s_ranges_of, scope := defScope s_ranges_of }
def d_name_of : He5.DefA := { at_ := fun K => He.ga K "name_of", name := "name_of", qual := "name_of", params := defArgs s_name_of, body := defBody s_name_of, scope := defScope s_name_of }
def d_write_number : He5.DefA := { at_ := fun K => He.ga K "write_number", name := "write_number", qual := "write_number", params := defArgs s_write_number, body := defBody s_write_number, scope := defScope s_write_number }
def d_write_signed : He5.DefA := { at_ := fun K => He.ga K "write_signed", name := "write_signed", qual := "write_signed", params := defArgs s_write_signed, body := defBody s_write_signed, scope := defScope s_write_signed }
def d_read_further : He5.DefA := { at_ := fun K => He.ga K "read_further", name := "read_further", qual := "read_further", params := defArgs s_read_further, body := defBody s_read_further, scope := defScope s_read_further }
def d_read_number : He5.DefA := { at_ := fun K => He.ga K "read_number", name := "read_number", qual := "read_number", params := defArgs s_read_number, body := defBody s_read_number, scope := defScope s_read_number }
def d_read_signed : He5.DefA := { at_ := fun K => He.ga K "read_signed", name := "read_signed", qual := "read_signed", params := defArgs s_read_signed, body := defBody s_read_signed, scope := defScope s_read_signed }
def d_read_entries : He5.DefA := { at_ := fun K => He.ga K "read_entries", name := "read_entries", qual := "read_entries", params := defArgs s_read_entries, body := defBody s_read_entries, scope := defScope s_read_entries }
def d_read_entry : He5.DefA := { at_ := fun K => He.ga K "read_entry", name := "read_entry", qual := "read_entry", params := defArgs s_read_entry, body := defBody s_read_entry, scope := defScope s_read_entry }
def d_read_position : He5.DefA := { at_ := fun K => He.ga K "_read_position", name := "_read_position", qual := "_read_position", params := defArgs s_read_position, body := defBody s_read_position, scope := defScope s_read_position }
def d_read_long : He5.DefA := { at_ := fun K => He.ga K "_read_long", name := "_read_long", qual := "_read_long", params := defArgs s_read_long, body := defBody s_read_long, scope := defScope s_read_long }
def d_column : He5.DefA := { at_ := fun K => He.ga K "_column", name := "_column", qual := "_column", params := defArgs s_column, body := defBody s_column, scope := defScope s_column }
def d_check_position : He5.DefA := { at_ := fun K => He.ga K "_check_position", name := "_check_position", qual := "_check_position", params := defArgs s_check_position, body := defBody s_check_position, scope := defScope s_check_position }
def d_write_runs : He5.DefA := { at_ := fun K => He.ga K "write_runs", name := "write_runs", qual := "write_runs", params := defArgs s_write_runs, body := defBody s_write_runs, scope := defScope s_write_runs }
def d_write_run : He5.DefA := { at_ := fun K => He.ga K "_write_run", name := "_write_run", qual := "_write_run", params := defArgs s_write_run, body := defBody s_write_run, scope := defScope s_write_run }
def d_write_entry : He5.DefA := { at_ := fun K => He.ga K "_write_entry", name := "_write_entry", qual := "_write_entry", params := defArgs s_write_entry, body := defBody s_write_entry, scope := defScope s_write_entry }
def d_form_and_bytes : He5.DefA := { at_ := fun K => He.ga K "_form_and_bytes", name := "_form_and_bytes", qual := "_form_and_bytes", params := defArgs s_form_and_bytes, body := defBody s_form_and_bytes, scope := defScope s_form_and_bytes }
def d_write_long : He5.DefA := { at_ := fun K => He.ga K "_write_long", name := "_write_long", qual := "_write_long", params := defArgs s_write_long, body := defBody s_write_long, scope := defScope s_write_long }
def d_spans_of : He5.DefA := { at_ := fun K => He.ga K "_spans_of", name := "_spans_of", qual := "_spans_of", params := defArgs s_spans_of, body := defBody s_spans_of, scope := defScope s_spans_of }
def d_moved : He5.DefA := { at_ := fun K => He.ga K "moved", name := "moved", qual := "moved", params := defArgs s_moved, body := defBody s_moved, scope := defScope s_moved }
def d_moved_span : He5.DefA := { at_ := fun K => He.ga K "_moved_span", name := "_moved_span", qual := "_moved_span", params := defArgs s_moved_span, body := defBody s_moved_span, scope := defScope s_moved_span }
def d_moved_line : He5.DefA := { at_ := fun K => He.ga K "_moved_line", name := "_moved_line", qual := "_moved_line", params := defArgs s_moved_line, body := defBody s_moved_line, scope := defScope s_moved_line }
def d_l_cell_at : He5.DefA := { at_ := fun K => He.ga K "_law_cell_at", name := "_law_cell_at", qual := "_law_cell_at", params := defArgs s_l_cell_at, body := defBody s_l_cell_at, scope := defScope s_l_cell_at }
def d_l_well : He5.DefA := { at_ := fun K => He.ga K "_law_well", name := "_law_well", qual := "_law_well", params := defArgs s_l_well, body := defBody s_l_well, scope := defScope s_l_well }
def d_l_draw : He5.DefA := { at_ := fun K => He.ga K "_law_draw", name := "_law_draw", qual := "_law_draw", params := defArgs s_l_draw, body := defBody s_l_draw, scope := defScope s_l_draw }
def d_l_one : He5.DefA := { at_ := fun K => He.ga K "_law_one", name := "_law_one", qual := "_law_one", params := defArgs s_l_one, body := defBody s_l_one, scope := defScope s_l_one }
def d_l_line : He5.DefA := { at_ := fun K => He.ga K "_law_line", name := "_law_line", qual := "_law_line", params := defArgs s_l_line, body := defBody s_l_line, scope := defScope s_l_line }
def d_l_column : He5.DefA := { at_ := fun K => He.ga K "_law_column", name := "_law_column", qual := "_law_column", params := defArgs s_l_column, body := defBody s_l_column, scope := defScope s_l_column }
def d_l_span : He5.DefA := { at_ := fun K => He.ga K "_law_span", name := "_law_span", qual := "_law_span", params := defArgs s_l_span, body := defBody s_l_span, scope := defScope s_l_span }
def d_l_spans : He5.DefA := { at_ := fun K => He.ga K "_law_spans", name := "_law_spans", qual := "_law_spans", params := defArgs s_l_spans, body := defBody s_l_spans, scope := defScope s_l_spans }
def d_l_groups : He5.DefA := { at_ := fun K => He.ga K "_law_groups", name := "_law_groups", qual := "_law_groups", params := defArgs s_l_groups, body := defBody s_l_groups, scope := defScope s_l_groups }
def d_l_folded : He5.DefA := { at_ := fun K => He.ga K "_law_folded", name := "_law_folded", qual := "_law_folded", params := defArgs s_l_folded, body := defBody s_l_folded, scope := defScope s_l_folded }
def d_l_padded : He5.DefA := { at_ := fun K => He.ga K "_law_padded", name := "_law_padded", qual := "_law_padded", params := defArgs s_l_padded, body := defBody s_l_padded, scope := defScope s_l_padded }
def d_l_column_number : He5.DefA := { at_ := fun K => He.ga K "_law_column_number", name := "_law_column_number", qual := "_law_column_number", params := defArgs s_l_column_number, body := defBody s_l_column_number, scope := defScope s_l_column_number }
def d_l_loose_entry : He5.DefA := { at_ := fun K => He.ga K "_law_loose_entry", name := "_law_loose_entry", qual := "_law_loose_entry", params := defArgs s_l_loose_entry, body := defBody s_l_loose_entry, scope := defScope s_l_loose_entry }
def d_l_written : He5.DefA := { at_ := fun K => He.ga K "_law_written", name := "_law_written", qual := "_law_written", params := defArgs s_l_written, body := defBody s_l_written, scope := defScope s_l_written }
def d_l_moved : He5.DefA := { at_ := fun K => He.ga K "_law_moved", name := "_law_moved", qual := "_law_moved", params := defArgs s_l_moved, body := defBody s_l_moved, scope := defScope s_l_moved }
def d_l_said : He5.DefA := { at_ := fun K => He.ga K "_law_said", name := "_law_said", qual := "_law_said", params := defArgs s_l_said, body := defBody s_l_said, scope := defScope s_l_said }
def d_l_due : He5.DefA := { at_ := fun K => He.ga K "_law_due", name := "_law_due", qual := "_law_due", params := defArgs s_l_due, body := defBody s_l_due, scope := defScope s_l_due }
def d_l_edit : He5.DefA := { at_ := fun K => He.ga K "_law_edit", name := "_law_edit", qual := "_law_edit", params := defArgs s_l_edit, body := defBody s_l_edit, scope := defScope s_l_edit }
def d_l_idle : He5.DefA := { at_ := fun K => He.ga K "_law_idle", name := "_law_idle", qual := "_law_idle", params := defArgs s_l_idle, body := defBody s_l_idle, scope := defScope s_l_idle }
def d_law : He5.DefA := { at_ := fun K => He.ga K "law", name := "law", qual := "law", params := defArgs s_law, body := defBody s_law, scope := defScope s_law }
def fn : List He5.DefA := [d_wall, d_BadTable_init, d_BadLine_init, d_BadSpan_init, d_BadCount_init, d_is_int, d_is_int_from, d_is_byte_data, d_check_byte_data, d_check_source_line, d_check_count, d_is_span, d_check_spans, d_line_behind, d_ranges_of, d_name_of, d_write_number, d_write_signed, d_read_further, d_read_number, d_read_signed, d_read_entries, d_read_entry, d_read_position, d_read_long, d_column, d_check_position, d_write_runs, d_write_run, d_write_entry, d_form_and_bytes, d_write_long, d_Table_init, d_Table_of, d_Table_span_at, d_Table_spans, d_Table_runs, d_Table_entries, d_Table_line_ranges, d_Table_lines, d_Table_stops, d_Table_next_line, d_Table_covering, d_Table_eq, d_spans_of, d_moved, d_moved_span, d_moved_line, d_l_cell_at, d_l_well, d_l_draw, d_l_one, d_l_line, d_l_column, d_l_span, d_l_spans, d_l_groups, d_l_folded, d_l_padded, d_l_column_number, d_l_loose_entry, d_l_written, d_l_moved, d_l_said, d_l_due, d_l_edit, d_l_idle, d_law]
def fa : List He.Fa := [.glo "_wall", .glo "is_int", .glo "is_int_from", .glo "is_byte_data", .glo "check_byte_data", .glo "check_source_line", .glo "check_count", .glo "is_span", .glo "check_spans", .glo "line_behind", .glo "ranges_of", .glo "name_of", .glo "write_number", .glo "write_signed", .glo "read_further", .glo "read_number", .glo "read_signed", .glo "read_entries", .glo "read_entry", .glo "_read_position", .glo "_read_long", .glo "_column", .glo "_check_position", .glo "write_runs", .glo "_write_run", .glo "_write_entry", .glo "_form_and_bytes", .glo "_write_long", .glo "_spans_of", .glo "moved", .glo "_moved_span", .glo "_moved_line", .glo "_law_cell_at", .glo "_law_well", .glo "_law_draw", .glo "_law_one", .glo "_law_line", .glo "_law_column", .glo "_law_span", .glo "_law_spans", .glo "_law_groups", .glo "_law_folded", .glo "_law_padded", .glo "_law_column_number", .glo "_law_loose_entry", .glo "_law_written", .glo "_law_moved", .glo "_law_said", .glo "_law_due", .glo "_law_edit", .glo "_law_idle", .glo "law", .free "isinstance", .free "int", .free "bool", .free "bytes", .free "list", .free "tuple", .free "all", .free "len", .free "enumerate", .free "min", .free "sorted", .free "max", .free "range", .int "MOST" 2147483647, .int "LINE" 10, .int "BARE" 13, .int "LONG" 14, .int "NONE" 15, .int "LAST_SHIFT" 42, .glo "Table", .cls "Table", .mkr "Table", .noat "Table" "data", .noat "Table" "first_line", .noat "Table" "_entries", .noat "Table" "_spans", .noat "Table" "step_count", .meth "Table" "spans", .meth "Table" "entries", .glo "HIGH_NAMES"]
def ex (K : PySem.W.Frag) : Bool := excB K "BadTable" ["at", "why"] && (excB K "BadLine" ["line"] && (excB K "BadSpan" ["at"] && (excB K "BadCount" ["many"] && (He.tupB K "HIGH_NAMES" [.str "line", .str "line", .str "line", .str "bare", .str "long", .str "none"] && (decide (PySem.W.exmOne K (.ref (He.ga K "BadCount")) (.ref (He.ga K "BadLine")) = some false) && ((He5.wrapB K (He.ga K "Table") "staticmethod" "staticmethod.__get__" "of" && (PySem.W.readsIn K (He.ga K "Table") (.type "type") && PySem.W.keepIn K (.ref (He5.wf K (He.ga K "Table") "staticmethod" "of")))) && (true)))))))
end K33
namespace K33
open PySem PySem.Spec PyProof.Rows L2 Lay Pu
/-! ### the head -/
abbrev R : PySem.W.OpenRow := PySem.W.OpenLaw.row PySem.Challenge.rw_codespans_k33_source_edits
def names0 : List Str := ["_wall", "TableError", "BadTable", "BadLine", "BadSpan", "BadCount", "MOST", "is_int", "is_int_from", "is_byte_data", "check_byte_data", "check_source_line", "check_count", "is_span", "check_spans", "line_behind", "ranges_of", "LINE", "BARE", "LONG", "NONE", "HIGH_NAMES", "name_of", "LAST_SHIFT", "write_number", "write_signed", "read_further", "read_number", "read_signed", "read_entries"]
def names1 : List Str := ["read_entry", "_read_position", "_read_long", "_column", "_check_position", "write_runs", "_write_run", "_write_entry", "_form_and_bytes", "_write_long", "Table", "_spans_of", "moved", "_moved_span", "_moved_line", "_law_cell_at", "_law_well", "_law_draw", "_law_one", "_law_line", "_law_column", "_law_span", "_law_spans", "_law_groups", "_law_folded", "_law_padded", "_law_column_number", "_law_loose_entry", "_law_written", "_law_moved"]
def names2 : List Str := ["_law_said", "_law_due", "_law_edit", "_law_idle"]
abbrev names : List Str := names0 ++ names1 ++ names2
def ob (s : PySem.W.SharedT) : LookT := lookAt fa fn ex (partOf 5 (HandSHeadRun.getT s))
theorem run (w : World) : HandSHeadRun.RunEq R (PySem.W.view R.prog [75]) (hk 5 fa fn ex) ob 5000 names w := by
  intro os
  kernel_rfl
end K33

/-! PuF: what the facts of a class ask (ahead of the head) -/
namespace Pu
open PySem PySem.Spec PyProof.Rows L2 Lay
def ownB (K : PySem.W.Frag) (C f : Addr) : Bool := (match PySem.W.findIn K (.ref C) "__eq__" with
  | some (some (.ref g)) => decide (g = f)
  | _ => false) && (PySem.W.isFn K (.ref f) && ((match PySem.W.findIn K (.ref C) "__ne__" with
  | some (some (.builtin g)) => decide (g = "object.__ne__")
  | _ => false) && (match PySem.W.mroIn K C (.type "object") with
  | some b => b
  | _ => false)))
def insB (K : PySem.W.Frag) (C : Addr) : Bool := (match PySem.W.findIn K (.ref C) "__class__" with
  | some (some (.builtin g)) => decide (g = "object.__class__")
  | _ => false) && ((match PySem.W.specialIn K (.builtin "object.__class__") "__get__" with
  | some (some (.builtin g)) => decide (g = "getset_descriptor.__get__")
  | _ => false) && (decide (PySem.W.takesIn K (.builtin "object.__class__") = some true) && (decide (PySem.W.mroIn K C (.type "object") = some true) && decide (PySem.W.kitOne K (.ref C) (.ref C) = some true))))
def kinds : List String := ["NoneType", "bool", "int", "str", "bytes", "list", "tuple", "dict"]
def notB (K : PySem.W.Frag) (C : Addr) : Bool := kinds.all fun n => decide (PySem.W.kitOne K (.type n) (.ref C) = some false)
end Pu

namespace Lay
open PySem PySem.Spec PyProof.Rows L2
def CPowW (i j : Int) : Prop := 0 ≤ j ∧ (Builtin.Int.intBits i : Int) * j ≤ 2 ^ 27
theorem op_powW {X : Cx} : OpR X (binaryOp .Pow) (rI CPowW fun i j => .int (i ^ j.toNat)) := opI fun _ _ _ _ _ _ _ hc q => pow_int hc.1 hc.2 q
/-- for i, x in enumerate(xs) -/
theorem for_enum {K : PySem.W.Frag} {a : Addr} {xs : List V} {g : TG} {tb : TS} {D : Ends} {σ : L2.St} {H : Hp} (Pv : Nat → L2.St → Hp → Prop) (h0 : Pv 0 σ H) (hl : ∀ i σ H, i ≤ xs.length → Pv i σ H → SqL K H a xs)
    (hs : ∀ (i : Nat) x T σ H, xs[i]? = some x → Pv i σ H → H T = none → g (.ref T) σ (upd H T (.tup [.int (i : Int), x])) fun σ2 H2 => tb { D with nx := Pv (i + 1), ct := Pv (i + 1), bk := D.nx } σ2 H2) (hd : ∀ σ H, Pv xs.length σ H → D.nx σ H) :
    ∃ W : Nat → Nat → L2.St → Hp → Prop, (∃ m, W 0 m σ H) ∧ ∀ i m σ H, W i m σ H →
      ((Ite K a).stop i H ∧ D.nx σ H) ∨ ((Ite K a).go i H ∧ ∃ N : L2.St → Hp → Prop, (∀ σ' H', N σ' H' → ∃ m', m' < m ∧ W (i + 1) m' σ' H') ∧ ∀ x H', (Ite K a).yld i H x H' → g x σ H' fun σ2 H2 => tb { D with nx := N, ct := N, bk := D.nx } σ2 H2) := by
  refine ⟨fun i m σ H => m + i = xs.length ∧ Pv i σ H, ⟨xs.length, by omega, h0⟩, fun i m σ H hW => ?_⟩
  obtain ⟨e, p⟩ := hW
  have q := hl i σ H (by omega) p
  by_cases hi : i < xs.length
  · have g1 : xs[i]? = some xs[i] := List.getElem?_eq_getElem hi
    refine .inr ⟨⟨xs, xs[i], q, g1⟩, Pv (i + 1), fun σ' H' p' => ⟨m - 1, by omega, by omega, p'⟩, fun v H' y => ?_⟩
    obtain ⟨T, x, rfl, nT, rfl, f⟩ := y
    have ex : x = xs[i] := Option.some.inj ((f xs q).symm.trans g1)
    rw [ex]
    exact hs i xs[i] T σ H g1 p nT
  · have ei : i = xs.length := by omega
    subst ei
    exact .inl ⟨⟨xs, q, Nat.le_refl _⟩, hd σ H p⟩
/-! ## numbers in groups of six bits -/
def groups (n : Nat) : List Int := if n < 64 then [(n : Int)] else ((64 + n % 64 : Nat) : Int) :: groups (n / 64)
termination_by n
decreasing_by omega
theorem groups_small {n : Nat} (h : n < 64) : groups n = [(n : Int)] := by
  rw [groups, if_pos h]
theorem groups_more {n : Nat} (h : ¬ n < 64) : groups n = ((64 + n % 64 : Nat) : Int) :: groups (n / 64) := by
  rw [groups, if_neg h]
theorem groups_pos (n : Nat) : 0 < (groups n).length := by
  by_cases h : n < 64
  · rw [groups_small h]; exact Nat.one_pos
  · rw [groups_more h]; exact Nat.succ_pos _
theorem groups_range (n : Nat) : ∀ g ∈ groups n, 0 ≤ g ∧ g < 128 := by
  induction n using Nat.strongRecOn with
  | ind n ih =>
    intro g hg
    by_cases h : n < 64
    · rw [groups_small h] at hg
      have e : g = (n : Int) := by simpa using hg
      rw [e]
      omega
    · rw [groups_more h] at hg
      rcases List.mem_cons.mp hg with e | hg
      · rw [e]
        omega
      · exact ih (n / 64) (by omega) g hg
theorem groups_len (k : Nat) : ∀ n : Nat, n < 64 ^ (k + 1) → (groups n).length ≤ k + 1 := by
  induction k with
  | zero =>
    intro n h
    rw [groups_small (by simpa using h)]
    exact Nat.le_refl _
  | succ k ih =>
    intro n h
    by_cases h0 : n < 64
    · rw [groups_small h0]
      show 1 ≤ _
      omega
    · rw [groups_more h0, List.length_cons]
      have h1 : n / 64 < 64 ^ (k + 1) := by
        rw [Nat.pow_succ] at h
        exact Nat.div_lt_of_lt_mul (by rw [Nat.mul_comm]; exact h)
      have := ih _ h1
      omega
/-- the last group is not 0, but of 0 alone -/
theorem groups_last : ∀ n : Nat, ∃ ys z, groups n = ys ++ [z] ∧ (ys = [] ∨ 0 < z) := by
  intro n
  induction n using Nat.strongRecOn with
  | ind n ih =>
    by_cases h : n < 64
    · exact ⟨[], n, groups_small h, .inl rfl⟩
    · obtain ⟨ys, z, e, hz⟩ := ih (n / 64) (by omega)
      refine ⟨((64 + n % 64 : Nat) : Int) :: ys, z, by rw [groups_more h, e]; rfl, .inr ?_⟩
      rcases hz with hz | hz
      · subst hz
        by_cases h2 : n / 64 < 64
        · rw [groups_small h2] at e
          have e2 : z = ((n / 64 : Nat) : Int) := by simpa using e.symm
          omega
        · rw [groups_more h2] at e
          have e2 := congrArg List.length e
          have e3 := groups_pos (n / 64 / 64)
          simp at e2
          rw [e2] at e3
          exact absurd e3 (by decide)
      · exact hz
theorem B8_groups (n : Nat) : ∀ g ∈ groups n, 0 ≤ g ∧ g < 256 := fun g hg => by
  have := groups_range n g hg
  omega
end Lay

namespace LayB
open PySem PyProof.Rows
/-! ## bytes == tuple, tuple(bytes) -/
theorem slot_byt_refl : Slot "bytes" (cmpInfo .Eq).2.2 "bytes.__eq__" := PySem.W.FB.slot_bytes_eq
theorem sub_tup_byt : isSubtype (.type "tuple") (.type "bytes") = pure false := by
  rw [isSubtype_type]
  kernel_rfl
theorem tup_declines (l : Addr) (items : Array Value) (n : Nat) (dd : Option Addr) (sl : Array (Option Value)) (b : Array UInt8) (u : Tok) :
    Meets (Builtin.«tuple.__eq__» ⟨[.ref l, .bytes b u], []⟩) (fun _ R s => s.heap.get? l = some { cls := .type "tuple", dict := dd, data := .seq items n, slots := sl } ∧ R (.ok (.ret .notImplemented)) s) :=
  .of_wp fun prog w A R s h => by
    obtain ⟨hp, g, d, tk, os⟩ := s
    obtain ⟨hl, h⟩ := h
    have f1 := F.sub_bytes_tuple
    have f2 : ∀ s' : Shared, s'.TypeIs (.bytes b u) "bytes" := fun s' => PySem.W.typeIs_bytes s' b u
    wp_walk using AutoSeq1.wpAny_loadPart' hl
    all_goals exact ⟨_, rfl, h⟩
theorem byt_declines (b : Array UInt8) (u : Tok) (l : Addr) :
    Meets (Builtin.«bytes.__eq__» ⟨[.bytes b u, .ref l], []⟩) (fun _ R s => s.TypeIs (.ref l) "tuple" ∧ R (.ok (.ret .notImplemented)) s) :=
  .of_wp fun prog w A R s h => by
    obtain ⟨hT, h⟩ := h
    show wpAny _ _ (isInstance (.ref l) (.type "bytes") >>= fun r => _) _ _ s
    refine wpAny_bind (wpAny_isInstance hT sub_tup_byt ?_)
    rw [if_pos (show (!false) = true from rfl)]
    refine wpAny_bind (wpAny_rule ?_)
    exact wpAny_pure ⟨_, rfl, h⟩
section
variable {prog : Program} {w : World} {A : Around} {E : Value → Shared → Prop} {s : Shared}
theorem eq_byt_tup {l : Addr} {items : Array Value} {b : Array UInt8} {u : Tok} {Q : Value → Shared → Prop} (hl : s.heap.IsTuple l items) (hu : A.units < cLine) (h : Q (.bool false) s) : wpAny (model prog w) A (richCompare .Eq (.bytes b u) (.ref l)) Q E s := by
  obtain ⟨⟨cls, dd, data, sl⟩, ho, hc, n, hd⟩ := hl
  have hc' : cls = .type "tuple" := hc
  have hd' : data = .seq items n := hd
  subst hc' hd'
  have hT : s.TypeIs (.ref l) "tuple" := ⟨_, ho, rfl⟩
  refine SeqAt.rc_eq_decline_or (k := false) (PySem.W.typeIs_bytes s b u) hT (by decide) sub_tup_byt PySem.W.FB.slot_bytes_eq F.slot_tuple_eq_refl (fun _ hq => ?_) (fun _ hq => ?_) (fun _ hq => wpAny_of_eq (rfl : isSame (.bytes b u) (.ref l) = pure false) hq) (.inr hu) h
  · exact call_meets PySem.W.FB.slot_bytes_eq (PySem.W.typeIs_bytes s b u) PySem.W.FB.entry_bytes_eq (PySem.W.FB.args_bytes_eq_2 _ _) (byt_declines b u l) ⟨hT, hq⟩
  · exact call_meets F.slot_tuple_eq_refl hT F.entry_tuple_eq (F.args_tuple_eq_2 _ _) (tup_declines l items n dd sl b u) ⟨ho, hq⟩
/-- the bytes' ints, collected -/
theorem collect_byt {x : Array UInt8} {t : Tok} {Q : List Value → Shared → Prop} (hh : A.handled = none) (hn : x.size ≤ sizeLine)
    (hQ : ∀ (h' : Heap) (tk : Nat) (acc : Array Value), (∀ b o, s.heap.get? b = some o → h'.get? b = some o) → ItemsOf (ZB.ByteAt x) acc x.size → Q acc.toList { s with heap := h', toks := tk }) :
    wpAny (model prog w) A (collect (.bytes x t)) Q E s := by
  unfold collect
  refine wpAny_bind (wpAny_runValue (codeAny_builtin F.entry_proto_collect ?_))
  rw [Around.under_plainId F.plain_proto_collect _]
  show wpAny _ A.in1 (newList [] >>= fun l => again (.builtin "list.__iadd__" ⟨[l, .bytes x t], []⟩)) _ _ s
  refine wpAny_bind (wpAny_newObj_type ?_)
  refine wpAny_pure ⟨plainId_quiet F.plain_list_iadd _, codeAny_builtin F.entry_list_iadd ?_⟩
  rw [Around.under_plainId F.plain_list_iadd _]
  show wpAny _ A.in1 (Builtin.List.listExtendWith (.ref s.heap.objs.size) (.bytes x t) (.ref s.heap.objs.size)) _ _ _
  let S := s.heap.objs.size
  have hS : (s.heap.push { cls := .type "list", data := .seq ([] : List Value).toArray }).get? S = some { cls := .type "list", data := .seq #[] 0 } := Heap.get?_push_size _ rfl
  let P : Shared → Prop := fun s' => ∃ (h' : Heap) (tk : Nat) (acc : Array Value) (c' : Nat), s' = { s with heap := h', toks := tk } ∧ (∀ b o, s.heap.get? b = some o → h'.get? b = some o) ∧ h'.get? S = some { cls := .type "list", dict := none, data := .seq acc c', slots := #[] } ∧ ItemsOf (ZB.ByteAt x) acc x.size
  have key := ZB.extend_bytes (prog := prog) (w := w) (A := A) (R := fun rr s' => rr = .ok (.ret (.ref S)) ∧ P s') (s := { s with heap := s.heap.push { cls := .type "list", data := .seq ([] : List Value).toArray } }) hh x t S (.ref S) 0 hS
    (fun h' tk acc c' hk e hi => ⟨rfl, h', tk, acc, c', rfl, fun b o q => hk b o (Nat.ne_of_lt (Heap.lt_size q)) (Heap.get?_push_of_some _ q), e, hi⟩) hn
  have fin : ∀ s', P s' → wpAny (model prog w) A (load S >>= fun o => match o.data with | .seq its _ => pure its.toList | _ => unsupported "proto:collect") Q E s' → True := fun _ _ _ => trivial
  refine wpAny_mono key (fun fn s' h => ?_) (fun e s' h => absurd h.1 (by simp))
  cases fn with
  | done f =>
    obtain ⟨e, h', tk, acc, c', rfl, hk, hS', hi⟩ := h
    cases e
    show wpAny _ A (load S >>= _) _ _ _
    exact wpAny_bind (wpAny_load hS' (wpAny_pure (hQ h' tk acc hk hi)))
  | again c' =>
    refine ⟨h.1, codeAny_mono h.2 fun rr s'' hr' => ?_⟩
    obtain ⟨rfl, h', tk, acc, c', rfl, hk, hS', hi⟩ := hr'
    show wpAny _ A (load S >>= _) _ _ _
    exact wpAny_bind (wpAny_load hS' (wpAny_pure (hQ h' tk acc hk hi)))
theorem tup_new_byt {x : Array UInt8} {t : Tok} {Q₁ : Value → Shared → Prop} (hh : A.handled = none) (hn : x.size ≤ sizeLine)
    (h : ∀ (h' : Heap) (tk : Nat) (acc : Array Value), (∀ b o, s.heap.get? b = some o → h'.get? b = some o) → ItemsOf (ZB.ByteAt x) acc x.size → Q₁ (.ref h'.objs.size) { s with heap := h'.push { cls := .type "tuple", data := .seq acc }, toks := tk }) :
    codeAny (model prog w) A (.call (.builtin "tuple.__new__") ⟨[.type "tuple", .bytes x t], []⟩) (wants Q₁ E) s := by
  refine codeAny_of_tree ?_
  show wpAny _ A.in1 (do checkBuiltinCall "tuple.__new__" ⟨[.type "tuple", .bytes x t], []⟩; again (.builtin "tuple.__new__" ⟨[.type "tuple", .bytes x t], []⟩)) _ _ s
  refine wpAny_bind (wpAny_of_eq (F.newCall_tuple_1 _) (wpAny_pure ⟨plainId_quiet F.plain_tuple_new _, codeAny_builtin F.entry_tuple_new ?_⟩))
  rw [Around.under_plainId F.plain_tuple_new _]
  have hsub := sub_tuple_self
  have hinit := init_tuple_lookup
  have hmh := madeHere_tuple
  have hT : s.TypeIs (.bytes x t) "bytes" := PySem.W.typeIs_bytes s x t
  have hh1 : A.in1.handled = none := hh
  wp_walk using wpAny_typeOf hT, collect_byt (A := A.in1) hh1 hn
  intro h' tk acc hk hacc
  show wpAny _ _ (Builtin.Tuple.tupleExact acc.toList.toArray >>= fun v => ret v) _ _ _
  unfold Builtin.Tuple.tupleExact
  have e : acc.toList.toArray = acc := by simp
  rw [e]
  refine wpAny_bind (wpAny_newObj_type ?_ (by show acc.size ≤ sizeLine; rw [hacc.1]; exact hn))
  exact wpAny_pure (h h' tk acc hk hacc)
theorem call_tup_byt {x : Array UInt8} {t : Tok} {Q : Value → Shared → Prop} (hh : A.handled = none) (hn : x.size ≤ sizeLine)
    (hQ : ∀ (h' : Heap) (tk : Nat) (acc : Array Value), (∀ b o, s.heap.get? b = some o → h'.get? b = some o) → ItemsOf (ZB.ByteAt x) acc x.size → Q (.ref h'.objs.size) { s with heap := h'.push { cls := .type "tuple", data := .seq acc }, toks := tk }) :
    wpAny (model prog w) A (call (.type "tuple") [.bytes x t]) Q E s := by
  have key := tup_new_byt (prog := prog) (w := w) (A := A.in1) (E := E) (s := s) (x := x) (t := t) (Q₁ := fun obj s₁ => s₁.TypeIs obj "tuple" ∧ Q obj s₁) hh hn fun h' tk acc hk hacc => ⟨⟨_, Heap.get?_push_size _ rfl, rfl⟩, hQ h' tk acc hk hacc⟩
  refine callType_codes F.called_tuple (F.typeCall_tuple_1 _) F.entry_object_init key fun obj s₁ h₁ => ?_
  exact ⟨h₁.1, F.args_object_init_2 obj _, object_init_meets F.called_tuple.init.lookup F.called_tuple.made (by decide) prog w A.in1 _ s₁ ⟨h₁.1, rfl, h₁.2⟩⟩
end
end LayB
namespace Lay
open PySem PySem.Spec PyProof.Rows L2
section
variable {X : Cx}
/-- tuple(b): a new tuple of the bytes' ints -/
def rTupB : List V → Hp → VK → Prop := fun xs H Q => ∃ b : Array UInt8, xs = [.byt b] ∧ b.size ≤ sizeLine ∧ ∀ p, H p = none → Q (.ref p) (upd H p (.tup ((bi b).map V.int)))
theorem call_tupB (hc : X.calm = true) : CallR X (.type "tuple") rTupB := by
  intro pins s σ H xs us Q I r h
  obtain ⟨b, rfl, hz, q⟩ := h
  obtain ⟨u, rfl, t, rfl⟩ := vals1 r
  refine LayB.call_tup_byt (I.ok.hd hc) hz fun h' tk acc hk hi => ?_
  have I1 : Inv X pins σ H { s with heap := h', toks := tk } := I.kept (t' := tk) hk
  have hn : H h'.objs.size = none := I1.hok.fresh (Nat.le_refl _)
  refine ⟨.ref h'.objs.size, upd H h'.objs.size (.tup ((bi b).map V.int)), I1.laid (t' := tk) (fun _ _ e => Heap.get?_push_of_some _ e) (Nat.le_refl _) ?_, rfl, q _ hn⟩
  refine ⟨by rw [List.length_map, bi_len]; exact hz, acc.toList, ?_, ⟨_, Heap.get?_push_size _ rfl, rfl, 0, by rw [Array.toArray_toList]⟩⟩
  refine vals_of_idx _ _ (by rw [List.length_map, bi_len, Array.length_toList]; exact hi.1) fun j u hj => ?_
  obtain ⟨c, t', hc', rfl⟩ := hi.2 j u (by rw [← Array.getElem?_toList]; exact hj)
  exact ⟨.int (c.toNat : Int), by simp [PySem.W.KBw.bInts, hc'], ⟨_, rfl⟩⟩
/-- b == t, t a tuple: False -/
def rEqBT (K : PySem.W.Frag) : R2 := fun x y H Q => ∃ (b : Array UInt8) (p : Addr) (xs : List V), x = .byt b ∧ y = .ref p ∧ SqT K H p xs ∧ Q (.bl false) H
theorem op_eqBT (hu : X.A.units < cLine) : OpR X (compareOp .Eq) (rEqBT X.K) := by
  intro pins s σ H x y v u Q I rx ry h
  obtain ⟨b, p, xs, rfl, rfl, hp, q⟩ := h
  obtain ⟨t, rfl⟩ := rx
  cases ry
  obtain ⟨its, rv, ht, _⟩ := I.tuple hp
  show wpAny _ _ (richCompare .Eq (.bytes b t) (.ref p)) _ _ s
  exact LayB.eq_byt_tup ht hu ⟨.bl false, H, I, rfl, q⟩
end
end Lay

namespace Lay
open PySem PySem.Spec PyProof.Rows L2
/-! ## own exceptions as values -/
section
open PySem.HandSPX
variable {prog : Program} {w : World} {A : Around} {E : Value → Shared → Prop} {R : Result → Shared → Prop} {h : Heap} {g : Array GenState} {d : PySem.Drawn} {t : Nat} {os : OsState}
variable {nm q : Str} {C N : Addr} {bs bm bmB : List Value} {hdct : Bool} {sn : List Str} {sub : List Value} {ab : Bool} {col : Option Bool} {dd : Option Addr} {k0 k1 k2 k3 k5 : Option Value} {B newId initId : String} {us : List Value} {kw : List (Str × Value)}
theorem chk_kw {M : Model} (F : ExcBaseFacts B newId initId bmB) (hT : ∀ X : String, bm.contains (.type X) = bmB.contains (.type X)) {Q : Unit → Shared → Prop} (hC : h.get? C = some (excClassObj nm q C N bs bm hdct sn sub ab col dd k0 k1 k2 k3 k5 newId)) (z : Q () ⟨h, g, d, t, os⟩)
    (hb : ∀ (a b : String) (n : Nat), Bind.check ⟨.any, B, B, .cls, [⟨"args", .varPos, false⟩, ⟨"kwargs", .varKw, false⟩]⟩ a b n (kw.map (·.1)) = pure ()) : wpAny M A (checkBuiltinCall newId ⟨.ref C :: us, kw⟩) Q E ⟨h, g, d, t, os⟩ := by
  have c1 : (Value.ref C :: bm).contains (.type B) = true := (List.contains_cons ..).trans ((congrArg (_ || ·) ((hT B).trans F.hasB)).trans (Bool.or_true _))
  have c2 := F.noStar
  simp only [checkBuiltinCall, F.newKind, F.newSplit, F.newRow, hb]
  repeat (first | refine wpAny_loadPart_at hC ?_ | (refine wpAny_isSubtype_exc hC ?_; rw [c1]) | refine wpAny_staticBase_exc hC ?_ | refine wpAny_madeBy_exc hC ?_ | simp only [bne_self_eq_false, Bool.false_eq_true, if_false] | wp_step)
  exact z
theorem new_kw (F : ExcBaseFacts B newId initId bmB) (hT : ∀ X : String, bm.contains (.type X) = bmB.contains (.type X)) (hC : h.get? C = some (excClassObj nm q C N bs bm hdct sn sub ab col dd k0 k1 k2 k3 k5 newId))
    (z : R (.ok (.ret (.ref (h.objs.size + 1)))) ⟨(h.push (PySem.W.kdv_tup us)).push (excO C h.objs.size), g, d, t, os⟩) (hl : us.length ≤ sizeLine) :
    codeAny (model prog w) A (.builtin newId ⟨.ref C :: us, kw⟩) R ⟨h, g, d, t, os⟩ := by
  have c1 : (Value.ref C :: bm).contains (.type B) = true := (List.contains_cons ..).trans ((congrArg (_ || ·) ((hT B).trans F.hasB)).trans (Bool.or_true _))
  have c2 : (Value.ref C :: bm).contains (.type "AttributeError") = false := (List.contains_cons ..).trans ((congrArg (_ || ·) ((hT _).trans F.noAttr)).trans rfl)
  have c3 : (Value.ref C :: bm).contains (.type "NameError") = false := (List.contains_cons ..).trans ((congrArg (_ || ·) ((hT _).trans F.noName)).trans rfl)
  have c4 := F.ends
  refine codeAny_builtinAt F.entry ?_
  unfold Builtin.«BaseException.__new__»
  refine PySem.wpAt_bind ?_
  show PySem.wpAt _ _ _ (stack >>= _) _ _ _
  refine PySem.wpAt_bind (PySem.wpAt_stack fun _ _ => PySem.wpAt_of_wpAny ?_)
  wp_walk
  refine PySem.wpAt_of_wpAny ?_
  rw [F.owner]
  repeat (first | with_reducible refine wpAny_madeHere_exc F.canon hC ?_ | with_reducible refine wpAny_loadPart_at hC ?_ | (with_reducible refine wpAny_isSubtype_exc hC ?_; first | rw [c1] | rw [c2] | rw [c3]) | wp_step)
  show R _ _
  rw [Heap.size_push]
  exact z
theorem tcall_kw (F : ExcBaseFacts B newId initId bmB) (hT : ∀ X : String, bm.contains (.type X) = bmB.contains (.type X)) {fI : Addr} {Q : Fin → Shared → Prop} (hC : h.get? C = some (excClassObj nm q C N bs bm hdct sn sub ab col dd k0 k1 k2 k3 k5 newId))
    (hb0 : ∀ (a b : String) (n : Nat), Bind.check ⟨.any, B, B, .cls, [⟨"args", .varPos, false⟩, ⟨"kwargs", .varKw, false⟩]⟩ a b n (kw.map (·.1)) = pure ())
    (hi : PySem.W.Looks (model prog w) h (typeLookup (.ref C) "__init__") (some (.ref fI))) (hb : ∀ self, PySem.W.Looks (model prog w) h (bindSpecial (.ref fI) self) (.ref fI, [self])) (hl : us.length ≤ sizeLine)
    (z : codeAny (model prog w) A (.call (.ref fI) ⟨.ref (h.objs.size + 1) :: us, kw⟩) (fun r s' => match r with | .ok (.ret v) => v = .none ∧ Q (.done (.ret (.ref (h.objs.size + 1)))) s' | .ok _ => False | .error e => E e s') ⟨(h.push (PySem.W.kdv_tup us)).push (excO C h.objs.size), g, d, t, os⟩) :
    wpAny (model prog w) A (Builtin.«type.__call__» ⟨.ref C :: us, kw⟩) Q E ⟨h, g, d, t, os⟩ := by
  repeat (first | with_reducible refine wpAny_loadPart_at hC ?_ | with_reducible refine wpAny_madeBy_exc hC ?_ | wp_step)
  refine codeAny_call_builtin_code (Code.quiet_builtin _ F.quiet) (chk_kw F hT hC ?_ hb0)
  refine new_kw F hT hC ?_ hl
  show wpAny _ _ _ _ _ _
  have kk : ∀ b o, h.get? b = some o → ((h.push (PySem.W.kdv_tup us)).push (excO C h.objs.size)).get? b = some o := fun _ _ e => Heap.get?_push_of_some _ (Heap.get?_push_of_some _ e)
  have g1 := kk _ _ hC
  have g2 : ((h.push (PySem.W.kdv_tup us)).push (excO C h.objs.size)).get? (h.objs.size + 1) = some (excO C h.objs.size) := by heap_get
  have g3 : (Value.ref C :: bm).contains (.ref C) = true := by simp
  have i1 := hi.keeps kk
  have b1 := (hb (.ref (h.objs.size + 1))).keeps kk
  unfold isInstance
  repeat (first | with_reducible refine wpAny_loadPart_at g2 ?_ | (with_reducible refine wpAny_isSubtype_exc g1 ?_; rw [g3]) | wp_step)
  show wpAny _ _ (typeLookup (.ref C) _) _ _ _
  refine i1.at (wpAny_holding (wpAny_bind (b1.at (wpAny_bind (wpAny_call (codeAny_mono z fun r s' y => ?_))))))
  rcases r with e | (v | _ | _ | _) <;> first | exact y | exact y.elim | skip
  obtain ⟨rfl, y⟩ := y
  first
    | exact wpAny_pure (wpAny_pure y)
    | (wp_walk; exact y)
/-- C(.., k = v, ..) for an own exception class whose __init__ is the def at fI -/
theorem call_kw (F : ExcBaseFacts B newId initId bmB) (hT : ∀ X : String, bm.contains (.type X) = bmB.contains (.type X)) {fI : Addr} (hC : h.get? C = some (excClassObj nm q C N bs bm hdct sn sub ab col dd k0 k1 k2 k3 k5 newId))
    (hb0 : ∀ (a b : String) (n : Nat), Bind.check ⟨.any, B, B, .cls, [⟨"args", .varPos, false⟩, ⟨"kwargs", .varKw, false⟩]⟩ a b n (kw.map (·.1)) = pure ())
    (hi : PySem.W.Looks (model prog w) h (typeLookup (.ref C) "__init__") (some (.ref fI))) (hb : ∀ self, PySem.W.Looks (model prog w) h (bindSpecial (.ref fI) self) (.ref fI, [self])) (hl : us.length ≤ sizeLine)
    (z : codeAny (model prog w) (A.under (.builtin "type.__call__" ⟨.ref C :: us, kw⟩)) (.call (.ref fI) ⟨.ref (h.objs.size + 1) :: us, kw⟩) (PySem.W.InitBack (h.objs.size + 1) R) ⟨(h.push (PySem.W.kdv_tup us)).push (excO C h.objs.size), g, d, t, os⟩) :
    codeAny (model prog w) A (.call (.ref C) ⟨us, kw⟩) R ⟨h, g, d, t, os⟩ := by
  have f1 := tc_lookup
  have f2 := tc_bind (.ref C)
  have f3 : (⟨h, g, d, t, os⟩ : Shared).TypeIs (.ref C) "type" := ⟨_, hC, rfl⟩
  refine codeAny_of_tree ?_
  show wpAny _ _ (callAny (.ref C) _) _ _ _
  repeat (any_goals (first | assumption | with_reducible refine wpAny_loadPart_at hC ?_ | wp_step))
  refine ⟨rfl, ?_⟩
  have ty : PySem.W.Looks (model prog w) h (isInstance (.ref C) (.type "type")) true := ((PySem.W.Looks.ld (part := none) hC).andThen .now).andThen (PySem.W.Looks.of_pure tc_sub)
  refine codeAny_call_builtin_at (Code.quiet_builtin _ (by decide +kernel)) entry_typeCall (PySem.W.check_slot (s := ⟨h, g, d, t, os⟩) tc_kind tc_split ty (PySem.W.tc_args _ _ _) (tcall_kw F hT hC hb0 hi hb hl ?_))
  refine codeAny_mono z fun r s' y => ?_
  rcases r with e | (v | _ | _ | _) <;> exact y
end
end Lay

namespace Lay
open PySem PySem.Spec PyProof.Rows L2
/-! ## how bytes are read -/
/-- what a reading gives, or the first problem: its index and its reason -/
inductive Res (α : Type) where
  | ok (a : α)
  | bad (i : Nat) (why : Str)
namespace Res
def bind {α β : Type} : Res α → (α → Res β) → Res β
  | .ok a, f => f a
  | .bad i r, _ => .bad i r
end Res
/-- one of the following bytes of an entry -/
def further (bs : List Int) (i : Nat) : Res Int := match bs[i]? with
  | none => .bad i "torn"
  | some g => if 127 < g then .bad i "inside" else .ok g
/-- a number of at most k + 1 groups from i on: its value, and the index behind it -/
def numK (bs : List Int) : Nat → Nat → Res (Nat × Nat)
  | 0, i => (further bs i).bind fun g => if 63 < g then .bad i "number" else .ok (g.toNat, i + 1)
  | k + 1, i => (further bs i).bind fun g => if 63 < g then (numK bs k (i + 1)).bind fun p => .ok (g.toNat % 64 + 64 * p.1, p.2) else .ok (g.toNat, i + 1)
def number (bs : List Int) (i : Nat) : Res (Nat × Nat) := numK bs 7 i
def sgn (n : Nat) : Int := if n % 2 = 1 then -((n / 2 : Nat) : Int) else ((n / 2 : Nat) : Int)
def signed (bs : List Int) (i : Nat) : Res (Int × Nat) := (number bs i).bind fun p => .ok (sgn p.1, p.2)
def colOf (n : Nat) : Option Int := if n = 0 then none else some ((n : Int) - 1)
def longPos (bs : List Int) (i : Nat) (line : Int) : Res (Span × Nat) :=
  (signed bs i).bind fun p => (number bs p.2).bind fun h => (number bs h.2).bind fun c => (number bs c.2).bind fun d =>
    .ok (some ⟨line + p.1, line + p.1 + h.1, colOf c.1, colOf d.1⟩, d.2)
def position (bs : List Int) (i : Nat) (form : Nat) (line : Int) : Res (Span × Nat) :=
  if form = 15 then .ok (none, i)
  else if form = 14 then longPos bs i line
  else if form = 13 then (signed bs i).bind fun p => .ok (some ⟨line + p.1, line + p.1, none, none⟩, p.2)
  else (further bs i).bind fun f =>
    if form < 10 then .ok (some ⟨line, line, some (8 * (form : Int) + f / 16), some (8 * (form : Int) + f / 16 + f % 16)⟩, i + 1)
    else (further bs (i + 1)).bind fun s => .ok (some ⟨line + form - 10, line + form - 10, some f, some s⟩, i + 2)
def inB (i lo hi : Int) : Bool := decide (lo ≤ i) && decide (i ≤ hi)
def posB (p : Pos) : Bool := span4 (.int p.l) (.int p.e) (ov p.c) (ov p.d)
def chkPos (s : Span) (i : Nat) : Res Unit := match s with
  | none => .ok ()
  | some p => if (inB p.l 1 2147483647 && inB p.e 1 2147483647) = false then .bad i "line" else if posB p = false then .bad i "columns" else .ok ()
structure Ent where
  steps : Nat
  form : Nat
  span : Span
def entry (bs : List Int) (i : Nat) (line : Int) : Res (Ent × Nat) := match bs[i]? with
  | none => .bad i "start"
  | some f => if f < 128 then .bad i "start" else
    (position bs (i + 1) ((f.toNat - 128) / 8) line).bind fun p => (chkPos p.1 i).bind fun _ => .ok (⟨f.toNat % 8 + 1, (f.toNat - 128) / 8, p.1⟩, p.2)
def lineAfter (s : Span) (line : Int) : Int := match s with
  | none => line
  | some p => p.l
/-- all entries from i on, each with its index and its first step -/
def entriesK (bs : List Int) : Nat → Nat → Nat → Int → Res (List (Nat × Nat × Ent))
  | 0, _, _, _ => .ok []
  | k + 1, i, st, line => if i < bs.length then (entry bs i line).bind fun p => (entriesK bs k p.2 (st + p.1.steps) (lineAfter p.1.span line)).bind fun r => .ok ((i, st, p.1) :: r) else .ok []
def entries (bs : List Int) (line : Int) : Res (List (Nat × Nat × Ent)) := entriesK bs bs.length 0 0 line
def formName (f : Nat) : Str := if f < 10 then "short" else if f < 13 then "line" else if f = 13 then "bare" else if f = 14 then "long" else "none"
theorem further_ok {bs : List Int} {i : Nat} {g : Int} (h : further bs i = .ok g) : bs[i]? = some g ∧ g ≤ 127 ∧ i < bs.length := by
  unfold further at h
  split at h
  · cases h
  · rename_i g' e
    split at h
    · cases h
    · cases h
      exact ⟨e, by omega, (List.getElem?_eq_some_iff.mp e).1⟩
theorem numK_lt {bs : List Int} : ∀ {k i : Nat} {p : Nat × Nat}, numK bs k i = .ok p → i < p.2 ∧ p.2 ≤ bs.length
  | 0, i, p, h => by
    unfold numK at h
    cases e : further bs i with
    | bad j r => rw [e] at h; cases h
    | ok g =>
      rw [e] at h
      have hl := (further_ok e).2.2
      have h : (if 63 < g then Res.bad i "number" else Res.ok (g.toNat, i + 1)) = Res.ok p := h
      split at h
      · cases h
      · cases h
        exact ⟨Nat.lt_succ_self _, hl⟩
  | k + 1, i, p, h => by
    unfold numK at h
    cases e : further bs i with
    | bad j r => rw [e] at h; cases h
    | ok g =>
      rw [e] at h
      have hl := (further_ok e).2.2
      have h : (if 63 < g then (numK bs k (i + 1)).bind fun p => Res.ok (g.toNat % 64 + 64 * p.1, p.2) else Res.ok (g.toNat, i + 1)) = Res.ok p := h
      split at h
      · cases e2 : numK bs k (i + 1) with
        | bad j r => rw [e2] at h; cases h
        | ok q =>
          rw [e2] at h
          cases h
          have := numK_lt e2
          exact ⟨by show i < q.2; omega, this.2⟩
      · cases h
        exact ⟨Nat.lt_succ_self _, hl⟩
/-! ## bytes by their ints -/
theorem bi_at {b : Array UInt8} {i : Nat} {g : Int} (h : (bi b)[i]? = some g) : i < b.size ∧ (((b.toList.getD i 0).toNat : Nat) : Int) = g ∧ 0 ≤ g ∧ g < 256 := by
  have hl : i < (bi b).length := (List.getElem?_eq_some_iff.mp h).1
  rw [bi_len] at hl
  have e : bi b = b.toList.map fun c => ((c.toNat : Nat) : Int) := rfl
  rw [e, List.getElem?_map] at h
  have hl2 : i < b.toList.length := by rw [Array.length_toList]; exact hl
  rw [List.getElem?_eq_getElem hl2] at h
  have h2 : (((b.toList[i]'hl2).toNat : Nat) : Int) = g := Option.some.inj h
  refine ⟨hl, ?_, ?_, ?_⟩
  · rw [List.getD_eq_getElem?_getD, List.getElem?_eq_getElem hl2]
    exact h2
  · omega
  · have := (b.toList[i]'hl2).toNat_lt
    omega
/-- b[i]: the i-th of its ints -/
def rItB : R2 := fun x y H Q => ∃ (b : Array UInt8) (i : Nat) (g : Int), x = .byt b ∧ y = .int (i : Int) ∧ b.size ≤ 16777216 ∧ (bi b)[i]? = some g ∧ Q (.int g) H
theorem pe_itB {X : Cx} {a b : Expr} {ta tb : TE} {pos : PySem.Pos} (ha : PE X a ta) (hb : PE X b tb) (hs : PlainIxT b) : PE X (.Subscript a b pos) (tOp rItB ta tb) := by
  refine ⟨fun pins s σ H Q I h => Subscript_ (binT ha hb I h fun v u s2 x y H2 I2 rx ry q => ?_)⟩
  obtain ⟨z, i, g, rfl, rfl, hz, hg, q⟩ := q
  obtain ⟨h1, h2, _, _⟩ := bi_at hg
  obtain ⟨t, rfl⟩ := rx
  obtain ⟨t', rfl⟩ := ry
  have hl : sizeLine = 16777216 := sizeLine_eq
  have ez : z.toList.length = z.size := Array.length_toList
  refine tail_any (PySem.W.typeIs_bytes s2 z t) PySem.W.FB.slot_bytes_getitem.lookup ?_ (hs _ _)
  have k : ∀ (l : List UInt8), l = z.toList → wpAny (model X.prog X.w) X.A (getItem (.bytes l.toArray t) (.int (i : Int) t')) (EP X pins σ Q) X.xe s2 := fun l el => by
    subst el
    exact PySem.W.getItem_bytes (by omega) (by omega) (by omega) ⟨.int g, H2, I2.tok _, ⟨_, by show Value.int (((z.toList.getD i 0).toNat : Nat) : Int) _ = _; rw [h2]⟩, q⟩
  exact k _ rfl
/-! ## what a raising def of the reader keeps -/
def BadE (K : PySem.W.Frag) (E : XK) (H : Hp) (j : Nat) (why : Str) : Prop := ∀ H' d, Same H H' → H d = none → H' d = some (.xd [("why", .str why), ("at", .int (j : Int))]) → E (.ref (He.ga K "BadTable")) (some d) H'
theorem BadE.same {K : PySem.W.Frag} {E : XK} {H H2 : Hp} {j : Nat} {why : Str} (h : BadE K E H j why) (s : Same H H2) : BadE K E H2 j why := fun H' d s' n e => h H' d (s.trans s') (by
  cases hd : H d with
  | none => rfl
  | some o =>
    rw [s _ _ hd] at n
    cases n) e
def Out {α : Type} (K : PySem.W.Frag) (E : XK) (H : Hp) (r : Res α) (q : α → Prop) : Prop := match r with
  | .ok a => q a
  | .bad j w => BadE K E H j w
theorem Out.bind {α β : Type} {K : PySem.W.Frag} {E : XK} {H : Hp} {r : Res α} {f : α → Res β} {q : β → Prop} (h : Out K E H (r.bind f) q) : Out K E H r fun a => Out K E H (f a) q := by
  cases r with
  | ok a => exact h
  | bad j w => exact h
theorem Out.mono {α : Type} {K : PySem.W.Frag} {E E' : XK} {H H2 : Hp} {r : Res α} {q q' : α → Prop} (h : Out K E H r q) (s : Same H H2) (i : ∀ a, r = .ok a → q a → q' a) (ie : ∀ c d H', E c d H' → E' c d H') : Out K E' H2 r q' := by
  cases r with
  | ok a => exact i a rfl h
  | bad j w => exact fun H' d s' n e => ie _ _ _ (BadE.same h s H' d s' n e)
theorem res_ok {α β : Type} {r : Res α} {f : α → Res β} {b : β} (h : r.bind f = .ok b) : ∃ a, r = .ok a ∧ f a = .ok b := by
  cases r with
  | ok a => exact ⟨a, rfl, h⟩
  | bad i w => cases h
theorem number_lt {bs : List Int} {i : Nat} {p : Nat × Nat} (h : number bs i = .ok p) : i < p.2 ∧ p.2 ≤ bs.length := numK_lt h
theorem signed_lt {bs : List Int} {i : Nat} {p : Int × Nat} (h : signed bs i = .ok p) : i < p.2 ∧ p.2 ≤ bs.length := by
  obtain ⟨a, e, h⟩ := res_ok h
  cases h
  exact number_lt e
theorem long_lt {bs : List Int} {i : Nat} {l : Int} {p : Span × Nat} (h : longPos bs i l = .ok p) : i < p.2 ∧ p.2 ≤ bs.length := by
  obtain ⟨a, e1, h⟩ := res_ok h
  obtain ⟨b, e2, h⟩ := res_ok h
  obtain ⟨c, e3, h⟩ := res_ok h
  obtain ⟨d, e4, h⟩ := res_ok h
  cases h
  have h1 := signed_lt e1
  have h2 := number_lt e2
  have h3 := number_lt e3
  have h4 := number_lt e4
  exact ⟨by show i < d.2; omega, h4.2⟩
theorem position_lt {bs : List Int} {i f : Nat} {l : Int} {p : Span × Nat} (hi : i ≤ bs.length) (h : position bs i f l = .ok p) : i ≤ p.2 ∧ p.2 ≤ bs.length := by
  unfold position at h
  split at h
  · cases h
    exact ⟨Nat.le_refl _, hi⟩
  split at h
  · have := long_lt h
    omega
  split at h
  · obtain ⟨a, e1, h⟩ := res_ok h
    cases h
    have h1 := signed_lt e1
    exact ⟨by show i ≤ a.2; omega, h1.2⟩
  obtain ⟨a, e1, h⟩ := res_ok h
  have h1 := further_ok e1
  split at h
  · cases h
    exact ⟨Nat.le_succ _, h1.2.2⟩
  · obtain ⟨c, e2, h⟩ := res_ok h
    cases h
    have h2 := further_ok e2
    exact ⟨by show i ≤ i + 2; omega, by show i + 2 ≤ _; omega⟩
theorem entry_lt {bs : List Int} {i : Nat} {l : Int} {p : Ent × Nat} (h : entry bs i l = .ok p) : i < p.2 ∧ p.2 ≤ bs.length := by
  unfold entry at h
  split at h
  · cases h
  · rename_i f e
    split at h
    · cases h
    · obtain ⟨a, e1, h⟩ := res_ok h
      obtain ⟨_, _, h⟩ := res_ok h
      cases h
      have hl := (List.getElem?_eq_some_iff.mp e).1
      have := position_lt (by omega) e1
      exact ⟨by show i < a.2; omega, this.2⟩
/-- the list of entries, as values -/
def EntV (H : Hp) (x : V) (e : Nat × Nat × Ent) : Prop := ∃ t sv, x = .ref t ∧ H t = some (.tup [.int (e.1 : Int), .int (e.2.1 : Int), .int (e.2.2.steps : Int), .str (formName e.2.2.form), sv]) ∧ SpV H sv e.2.2.span
def EntsV (H : Hp) : List V → List (Nat × Nat × Ent) → Prop
  | x :: xs, e :: es => EntV H x e ∧ EntsV H xs es
  | [], [] => True
  | _, _ => False
theorem SpV.same {H H' : Hp} {v : V} {s : Span} (h : SpV H v s) (k : Same H H') : SpV H' v s := h.keep fun a o _ e => k a o e
theorem EntV.same {H H' : Hp} {x : V} {e : Nat × Nat × Ent} (h : EntV H x e) (s : Same H H') : EntV H' x e := by
  obtain ⟨t, sv, rfl, ht, hs⟩ := h
  exact ⟨t, sv, rfl, s _ _ ht, hs.same s⟩
theorem EntsV.keep {H H' : Hp} (k : ∀ x e, EntV H x e → EntV H' x e) : ∀ {xs : List V} {es : List (Nat × Nat × Ent)}, EntsV H xs es → EntsV H' xs es
  | [], [], _ => True.intro
  | _ :: _, _ :: _, h => ⟨k _ _ h.1, EntsV.keep k h.2⟩
  | [], _ :: _, h => h.elim
  | _ :: _, [], h => h.elim
theorem EntsV.same {H H' : Hp} (s : Same H H') {xs : List V} {es : List (Nat × Nat × Ent)} (h : EntsV H xs es) : EntsV H' xs es := h.keep fun _ _ e => e.same s
theorem EntsV.snoc {H : Hp} {x : V} {e : Nat × Nat × Ent} (he : EntV H x e) : ∀ {xs : List V} {es : List (Nat × Nat × Ent)}, EntsV H xs es → EntsV H (xs ++ [x]) (es ++ [e])
  | [], [], _ => ⟨he, True.intro⟩
  | _ :: _, _ :: _, h => ⟨h.1, EntsV.snoc he h.2⟩
  | [], _ :: _, h => h.elim
  | _ :: _, [], h => h.elim
theorem EntsV.len {H : Hp} : ∀ {xs : List V} {es : List (Nat × Nat × Ent)}, EntsV H xs es → xs.length = es.length
  | [], [], _ => rfl
  | _ :: _, _ :: _, h => congrArg Nat.succ (EntsV.len h.2)
  | [], _ :: _, h => h.elim
  | _ :: _, [], h => h.elim
theorem tup_ne {H : Hp} {a p : Addr} {xs ys : List V} (h : H a = some (.tup xs)) (hp : H p = some (.lst ys)) : a ≠ p := fun z => by
  rw [z, hp] at h
  cases h
theorem SpV.app {H : Hp} {v : V} {s : Span} {p : Addr} {xs : List V} {o : HO} (h : SpV H v s) (hp : H p = some (.lst xs)) : SpV (upd H p o) v s := by
  cases s with
  | none => exact h
  | some w =>
    obtain ⟨a, e, q⟩ := h
    exact ⟨a, e, by rw [upd_ne (tup_ne q hp)]; exact q⟩
theorem EntV.app {H : Hp} {x : V} {e : Nat × Nat × Ent} {p : Addr} {xs : List V} {o : HO} (h : EntV H x e) (hp : H p = some (.lst xs)) : EntV (upd H p o) x e := by
  obtain ⟨t, sv, rfl, ht, hs⟩ := h
  exact ⟨t, sv, rfl, by rw [upd_ne (tup_ne ht hp)]; exact ht, hs.app hp⟩
theorem EntsV.app {H : Hp} {ys : List V} {es : List (Nat × Nat × Ent)} {p : Addr} {xs : List V} {o : HO} (h : EntsV H ys es) (hp : H p = some (.lst xs)) : EntsV (upd H p o) ys es := h.keep fun _ _ e => e.app hp
theorem same_app {H H2 : Hp} {p : Addr} {o : HO} (s : Same H H2) (n : H p = none) : Same H (upd H2 p o) := fun b u e => by
  rw [upd_ne (ne_of_none e n)]
  exact s b u e
theorem pi_or {X : Cx} {tg e : Expr} {w1 w2 : TI} (h1 : PI X tg e w1) (h2 : PI X tg e w2) : PI X tg e (fun σ H R => w1 σ H R ∨ w2 σ H R) :=
  ⟨fun pins s σ H R I h => h.elim (h1.run pins s σ H R I) (h2.run pins s σ H R I)⟩
/-- is it byte data -/
def bytesB (H : Hp) (v : V) : Bool := match v with
  | .byt _ => true
  | .ref a => (match H a with
    | some (.lst xs) => xs.all fun x => inR x 0 255
    | some (.tup xs) => xs.all fun x => inR x 0 255
    | _ => false)
  | _ => false
/-- the elements of a list or a tuple are of the known types -/
def ItemsV (H : Hp) (v : V) : Prop := ∀ a xs, v = .ref a → (H a = some (.lst xs) ∨ H a = some (.tup xs)) → xs.length < 16777216 ∧ ∀ x ∈ xs, ∃ m, VT H x m
/-- the spans of the steps -/
def spansOf (es : List (Nat × Nat × Ent)) : List Span := es.flatMap fun e => List.replicate e.2.2.steps e.2.2.span
def SpansV (H : Hp) : List V → List Span → Prop
  | x :: xs, e :: es => SpV H x e ∧ SpansV H xs es
  | [], [] => True
  | _, _ => False
theorem SpansV.keep {H H' : Hp} (k : ∀ x e, SpV H x e → SpV H' x e) : ∀ {xs : List V} {es : List Span}, SpansV H xs es → SpansV H' xs es
  | [], [], _ => True.intro
  | _ :: _, _ :: _, h => ⟨k _ _ h.1, SpansV.keep k h.2⟩
  | [], _ :: _, h => h.elim
  | _ :: _, [], h => h.elim
theorem SpansV.same {H H' : Hp} (s : Same H H') {xs : List V} {es : List Span} (h : SpansV H xs es) : SpansV H' xs es := h.keep fun _ _ e => e.same s
theorem SpansV.app {H : Hp} {ys : List V} {es : List Span} {p : Addr} {xs : List V} {o : HO} (h : SpansV H ys es) (hp : H p = some (.lst xs)) : SpansV (upd H p o) ys es := h.keep fun _ _ e => e.app hp
theorem SpansV.append {H : Hp} {ys : List V} {fs : List Span} (h2 : SpansV H ys fs) : ∀ {xs : List V} {es : List Span}, SpansV H xs es → SpansV H (xs ++ ys) (es ++ fs)
  | [], [], _ => h2
  | _ :: _, _ :: _, h => ⟨h.1, SpansV.append h2 h.2⟩
  | [], _ :: _, h => h.elim
  | _ :: _, [], h => h.elim
theorem SpansV.rep {H : Hp} {v : V} {s : Span} (h : SpV H v s) : ∀ n, SpansV H (List.replicate n v) (List.replicate n s)
  | 0 => True.intro
  | n + 1 => ⟨h, SpansV.rep h n⟩
theorem SpansV.len {H : Hp} : ∀ {xs : List V} {es : List Span}, SpansV H xs es → xs.length = es.length
  | [], [], _ => rfl
  | _ :: _, _ :: _, h => congrArg Nat.succ (SpansV.len h.2)
  | [], _ :: _, h => h.elim
  | _ :: _, [], h => h.elim
theorem EntsV.get {H : Hp} : ∀ {xs : List V} {es : List (Nat × Nat × Ent)} {i : Nat} {x : V}, EntsV H xs es → xs[i]? = some x → ∃ e, es[i]? = some e ∧ EntV H x e
  | [], _, i, x, _, h => by simp at h
  | _ :: _, [], _, _, h, _ => h.elim
  | y :: xs, e :: es, 0, x, h, g => by
    cases g
    exact ⟨e, rfl, h.1⟩
  | y :: xs, e :: es, i + 1, x, h, g => by
    obtain ⟨e', g', h'⟩ := EntsV.get (xs := xs) (es := es) (i := i) h.2 (by simpa using g)
    exact ⟨e', by simpa using g', h'⟩
/-! ## a class and its methods -/
theorem callR_or {X : Cx} {f : Value} {r1 r2 : List V → Hp → VK → Prop} (h1 : CallR X f r1) (h2 : CallR X f r2) : CallR X f (fun xs H Q => r1 xs H Q ∨ r2 xs H Q) := fun pins s σ H xs us Q I r h => h.elim (h1 pins s σ H xs us Q I r) (h2 pins s σ H xs us Q I r)
def MOk (P : Program) (w : World) (K : PySem.W.Frag) (mg : Str → Option Value) (base : Heap) (CX : CXT) (k : Nat) (C m : Str) (ps : List Str) (sp : Sp) : Prop :=
  ∃ fd, FnOk P w K mg base CX k (He.ma K (He.ga K C) m) fd ps sp ∧ Binds K fd ps []
section
variable {X : Cx} {CX : CXT} {k : Nat} {C m : Str} {ps : List Str} {sp : Sp} {E : XK} {p pos apos : PySem.Pos} {e o : Expr} {es : List Expr} {ta : TE} {t : TA}
theorem pe_mkc (M : Mk X.K (He.ga X.K C) (He.ma X.K (He.ga X.K C) "__init__")) (F : MOk X.prog X.w X.K X.mg X.base CX k C "__init__" ps sp) (hr : Room (k + 1) X.A) (hg : Gl X C) (hm : X.mg C = some (.ref (He.ga X.K C))) (hx : Passes CX X E)
    (ha : PA X (e :: es) t) (hdb : (C == ("__debug__" : Str)) = false := by decide) (he : starEach (e :: es) X.env = (false, eval e X.env) :: starEach es X.env := by rfl) (hpl : (backTo pos (starEach es X.env)).any (·.1) = false := by rfl) :
    PE X (.Call (.Name C p) (e :: es) [] pos) (tMake (He.ga X.K C) sp [] E t) := by
  obtain ⟨fd, F, b⟩ := F
  exact pe_make M F hr hg hm b .nil hx ha hdb he hpl
theorem pe_me (he : PE X o ta) (c : Cls X.K (He.ga X.K C)) (hm : Meth X.K (He.ga X.K C) m (He.ma X.K (He.ga X.K C) m)) (F : MOk X.prog X.w X.K X.mg X.base CX k C m ps sp) (hr : Room k X.A) (hx : Passes CX X E) (ha : PA X (e :: es) t) {pl : Sem Bool}
    (hst : starEach (e :: es) X.env = (false, eval e X.env) :: starEach es X.env := by rfl) (hpl : (backTo pos (starEach es X.env)).any (·.1) = false := by rfl)
    (ht : eval (.Call (.Attribute o m apos) (e :: es) [] pos) X.env = (do
      let ov ← eval o X.env
      standAt apos.atName
      let (f, first) ← holding [ov] (getMethod ov m pl)
      callWith pos f first (backTo pos (starEach (e :: es) X.env)) (backToKw pos (keywordEach [] X.env))) := by rfl) :
    PE X (.Call (.Attribute o m apos) (e :: es) [] pos) (tMeth (He.ga X.K C) m sp [] E ta t) := by
  obtain ⟨fd, F, b⟩ := F
  exact pe_meth he c hm F hr b .nil hx ha hst hpl ht
theorem pe_me0 (he : PE X o ta) (c : Cls X.K (He.ga X.K C)) (hm : Meth X.K (He.ga X.K C) m (He.ma X.K (He.ga X.K C) m)) (F : MOk X.prog X.w X.K X.mg X.base CX k C m ps sp) (hr : Room k X.A) (hx : Passes CX X E) {pl : Sem Bool}
    (ht : eval (.Call (.Attribute o m apos) [] [] pos) X.env = (do
      let ov ← eval o X.env
      standAt apos.atName
      let (f, first) ← holding [ov] (getMethod ov m pl)
      callWith pos f first (backTo pos (starEach [] X.env)) (backToKw pos (keywordEach [] X.env))) := by rfl) :
    PE X (.Call (.Attribute o m apos) [] [] pos) (tMeth (He.ga X.K C) m sp [] E ta tNil) := by
  obtain ⟨fd, F, b⟩ := F
  exact pe_meth0 he c hm F hr b .nil hx ht
end
end Lay

namespace Lay
open PySem PySem.Spec PyProof.Rows L2
/-! ## what is written loosely is read again -/
theorem drop_at {bs t : List Int} {i : Nat} {g : Int} (h : bs.drop i = g :: t) : bs[i]? = some g ∧ bs.drop (i + 1) = t := by
  have e : (bs.drop i)[0]? = some g := by rw [h]; rfl
  rw [List.getElem?_drop, Nat.add_zero] at e
  refine ⟨e, ?_⟩
  have e2 : (bs.drop i).drop 1 = t := by rw [h]; rfl
  rw [List.drop_drop] at e2
  exact e2
theorem drop_more {bs t r : List Int} {i : Nat} (h : bs.drop i = t ++ r) : bs.drop (i + t.length) = r := by
  have e : (bs.drop i).drop t.length = r := by rw [h, List.drop_left]
  rw [List.drop_drop] at e
  exact e
theorem further_at {bs t : List Int} {i : Nat} {g : Int} (h : bs.drop i = g :: t) (hg : g < 128) : further bs i = .ok g := by
  unfold further
  rw [(drop_at h).1]
  exact if_neg (by omega)
/-- these bytes are the number n, perhaps with leading zero groups -/
inductive NumB : List Int → Nat → Prop where
  | last {g : Nat} (h : g < 64) : NumB [(g : Int)] g
  | more {g n : Nat} {t : List Int} (h : g < 64) (k : NumB t n) : NumB ((64 + g : Nat) :: t) (g + 64 * n)
theorem NumB.pos {t : List Int} {n : Nat} (h : NumB t n) : 0 < t.length := by
  cases h <;> simp
theorem NumB.byte {t : List Int} {n : Nat} (h : NumB t n) : ∀ b ∈ t, 0 ≤ b ∧ b < 128 := by
  induction h with
  | last h => intro b hb; obtain rfl := List.mem_singleton.mp hb; omega
  | more h _ ih =>
    intro b hb
    rcases List.mem_cons.mp hb with rfl | hb
    · omega
    · exact ih b hb
theorem NumB.read {t : List Int} {n : Nat} (h : NumB t n) : ∀ {bs r : List Int} {k i : Nat}, t.length ≤ k + 1 → bs.drop i = t ++ r → numK bs k i = .ok (n, i + t.length) := by
  induction h with
  | @last g h =>
    intro bs r k i _ hd
    have e := further_at hd (by omega)
    cases k with
    | zero => unfold numK; rw [e]; exact if_neg (by omega)
    | succ k =>
      unfold numK
      rw [e]
      exact if_neg (by omega)
  | @more g n t h hk ih =>
    intro bs r k i hl hd
    have hd : bs.drop i = ((64 + g : Nat) : Int) :: (t ++ r) := hd
    have e := further_at hd (by omega)
    have hp := hk.pos
    rw [List.length_cons] at hl
    cases k with
    | zero => omega
    | succ k =>
      have e2 := ih (k := k) (by omega) (drop_at hd).2
      unfold numK
      rw [e]
      have e3 : (Res.ok ((64 + g : Nat) : Int)).bind (fun g => if 63 < g then (numK bs k (i + 1)).bind fun p => Res.ok (g.toNat % 64 + 64 * p.1, p.2) else Res.ok (g.toNat, i + 1)) = (numK bs k (i + 1)).bind fun p => Res.ok ((((64 + g : Nat) : Int)).toNat % 64 + 64 * p.1, p.2) := if_pos (by omega)
      rw [e3, e2]
      show Res.ok (_, _) = _
      have e4 : (((64 + g : Nat) : Int)).toNat % 64 + 64 * n = g + 64 * n := by omega
      have e5 : i + 1 + t.length = i + (((64 + g : Nat) : Int) :: t).length := by rw [List.length_cons]; omega
      rw [e4, e5]
theorem numB_groups (n : Nat) : NumB (groups n) n := by
  induction n using Nat.strongRecOn with
  | _ n ih =>
    by_cases h : n < 64
    · rw [groups_small h]
      exact .last h
    · rw [groups_more h]
      have k := NumB.more (g := n % 64) (Nat.mod_lt _ (by decide)) (ih (n / 64) (by omega))
      have e : n % 64 + 64 * (n / 64) = n := by omega
      rw [e] at k
      exact k
/-- a zero group more -/
theorem NumB.pad : ∀ {ys : List Int} {z : Int} {n : Nat}, NumB (ys ++ [z]) n → NumB (ys ++ [z + 64, 0]) n
  | [], z, n, h => by
    generalize e : ([] ++ [z] : List Int) = t at h
    cases h with
    | @last g hg =>
      have ez : z = (n : Int) := by simpa using e
      have k := NumB.more hg (NumB.last (g := 0) (by decide))
      rw [ez]
      have e2 : ((n : Int) + 64) = ((64 + n : Nat) : Int) := by omega
      show NumB [(n : Int) + 64, 0] n
      rw [e2]
      exact k
    | @more g n t hg k =>
      have e3 : z = ((64 + g : Nat) : Int) ∧ [] = t := by simpa using e
      have hp := k.pos
      rw [← e3.2] at hp
      exact absurd hp (by decide)
  | y :: ys, z, n, h => by
    generalize e : (y :: ys ++ [z] : List Int) = t at h
    cases h with
    | @last g hg =>
      have : (y :: ys ++ [z] : List Int).length = 1 := by rw [e]; rfl
      rw [List.length_append, List.length_cons, List.length_singleton] at this
      omega
    | @more g n t hg k =>
      have e3 : y = ((64 + g : Nat) : Int) ∧ ys ++ [z] = t := by
        have := List.cons.inj e
        exact this
      rw [← e3.2] at k
      rw [e3.1]
      exact .more hg (NumB.pad k)
theorem number_of {t bs r : List Int} {n i : Nat} (h : NumB t n) (hl : t.length ≤ 8) (hd : bs.drop i = t ++ r) : number bs i = .ok (n, i + t.length) := h.read hl hd
/-- the signed number d, folded -/
def fold1 (d : Int) : Nat := if 0 ≤ d then (2 * d).toNat else (1 - 2 * d).toNat
theorem sgn_fold (d : Int) : sgn (fold1 d) = d := by
  unfold sgn fold1
  split <;> split <;> omega
theorem signed_of {t bs r : List Int} {d : Int} {i : Nat} (h : NumB t (fold1 d)) (hl : t.length ≤ 8) (hd : bs.drop i = t ++ r) : signed bs i = .ok (d, i + t.length) := by
  unfold signed
  rw [number_of h hl hd]
  show Res.ok (sgn (fold1 d), i + t.length) = _
  rw [sgn_fold]
/-- the number of a column -/
def colN : Option Int → Nat
  | none => 0
  | some c => (c + 1).toNat
theorem colOf_colN {o : Option Int} (h : ∀ c, o = some c → 0 ≤ c) : colOf (colN o) = o := by
  cases o with
  | none => rfl
  | some c =>
    have := h c rfl
    show (if (c + 1).toNat = 0 then none else some (((c + 1).toNat : Int) - 1)) = some c
    rw [if_neg (by omega)]
    congr 1
    omega
theorem chk_ok {s : Span} {i : Nat} (h : SpanOk s) : chkPos s i = .ok () := by
  cases s with
  | none => rfl
  | some p =>
    have h : p.ok := h
    have e := spanB_ok (H := fun _ => some (.tup p.vs)) (v := .ref 0) (s := some p) ⟨0, rfl, rfl⟩ h
    have e2 : posB p = true := by
      have := spanB_tup (H := fun _ => some (.tup p.vs)) (a := 0) (l := .int p.l) (e := .int p.e) (c := ov p.c) (d := ov p.d) rfl
      rw [this] at e
      exact e
    have h1 := h.l1
    have h2 := h.le
    have h3 := h.eM
    unfold chkPos
    dsimp only
    have e3 : (inB p.l 1 2147483647 && inB p.e 1 2147483647) = true := by
      unfold inB
      rw [decide_eq_true h1, decide_eq_true (by omega), decide_eq_true (by omega), decide_eq_true h3]
      rfl
    rw [e3, e2]
    rfl
/-- these bytes are an entry of so many steps with this span, read behind the line l -/
def EntB (part : List Int) (s : Span) (l : Int) (steps : Nat) : Prop := ∃ f t, part = f :: t ∧ 128 ≤ f ∧ f < 256 ∧ (f.toNat % 8) + 1 = steps ∧ (∀ b ∈ t, 0 ≤ b ∧ b < 256) ∧ t.length ≤ 32 ∧
  ∀ bs i r, bs.drop i = part ++ r → entry bs i l = .ok (⟨steps, (f.toNat - 128) / 8, s⟩, i + part.length)
theorem entB_of {f : Int} {t : List Int} {s : Span} {l : Int} {steps : Nat} (h0 : 128 ≤ f) (h1 : f < 256) (hs : f.toNat % 8 + 1 = steps) (hb : ∀ b ∈ t, 0 ≤ b ∧ b < 256) (hl : t.length ≤ 32) (ok : SpanOk s)
    (h : ∀ bs i r, bs.drop (i + 1) = t ++ r → position bs (i + 1) ((f.toNat - 128) / 8) l = .ok (s, i + 1 + t.length)) : EntB (f :: t) s l steps := by
  refine ⟨f, t, rfl, h0, h1, hs, hb, hl, fun bs i r hd => ?_⟩
  have hd : bs.drop i = f :: (t ++ r) := hd
  obtain ⟨e1, e2⟩ := drop_at hd
  unfold entry
  rw [e1]
  dsimp only
  rw [if_neg (by omega), h bs i r e2]
  show (chkPos s i).bind _ = _
  rw [chk_ok ok]
  show Res.ok _ = Res.ok _
  rw [hs, List.length_cons]
  congr 2
  omega
theorem entB_none {l : Int} {k : Nat} (h : k < 8) : EntB [248 + (k : Int)] none l (k + 1) := by
  refine entB_of (by omega) (by omega) (by omega) (fun b hb => nomatch hb) (by decide) trivial fun bs i r hd => ?_
  have e : ((248 + (k : Int)).toNat - 128) / 8 = 15 := by omega
  rw [e]
  unfold position
  rw [if_pos rfl]
  rfl
theorem entB_bare {l x : Int} {k : Nat} {d : List Int} (h : k < 8) (hd : NumB d (fold1 (x - l))) (hl : d.length ≤ 8) (ok : SpanOk (some ⟨x, x, none, none⟩)) : EntB ((232 + (k : Int)) :: d) (some ⟨x, x, none, none⟩) l (k + 1) := by
  refine entB_of (by omega) (by omega) (by omega) (fun b hb => ⟨(hd.byte b hb).1, by have := (hd.byte b hb).2; omega⟩) (by omega) ok fun bs i r hr => ?_
  have e : ((232 + (k : Int)).toNat - 128) / 8 = 13 := by omega
  rw [e]
  unfold position
  rw [if_neg (by decide), if_neg (by decide), if_pos rfl, signed_of hd hl hr]
  show Res.ok _ = Res.ok _
  have e2 : l + (x - l) = x := by omega
  simp only [e2]
theorem entB_long {l : Int} {p : Pos} {k : Nat} {d h c c2 : List Int} (hk : k < 8) (hd : NumB d (fold1 (p.l - l))) (ld : d.length ≤ 8) (hh : NumB h (p.e - p.l).toNat) (lh : h.length ≤ 8) (hc : NumB c (colN p.c)) (lc : c.length ≤ 8) (hc2 : NumB c2 (colN p.d)) (lc2 : c2.length ≤ 8)
    (ok : SpanOk (some p)) : EntB ((240 + (k : Int)) :: (d ++ h ++ c ++ c2)) (some p) l (k + 1) := by
  have pk : p.ok := ok
  refine entB_of (by omega) (by omega) (by omega) (fun b hb => ?_) (by simp only [List.length_append]; omega) ok fun bs i r hr => ?_
  · simp only [List.mem_append] at hb
    rcases hb with ((hb | hb) | hb) | hb
    · exact ⟨(hd.byte b hb).1, by have := (hd.byte b hb).2; omega⟩
    · exact ⟨(hh.byte b hb).1, by have := (hh.byte b hb).2; omega⟩
    · exact ⟨(hc.byte b hb).1, by have := (hc.byte b hb).2; omega⟩
    · exact ⟨(hc2.byte b hb).1, by have := (hc2.byte b hb).2; omega⟩
  have e : ((240 + (k : Int)).toNat - 128) / 8 = 14 := by omega
  rw [e]
  have r1 : bs.drop (i + 1) = d ++ (h ++ (c ++ (c2 ++ r))) := by rw [hr]; simp only [List.append_assoc]
  have r2 := drop_more r1
  have r3 := drop_more r2
  have r4 := drop_more r3
  unfold position
  rw [if_neg (by decide), if_pos rfl]
  unfold longPos
  rw [signed_of hd ld r1]
  show (number bs (i + 1 + d.length)).bind _ = _
  rw [number_of hh lh r2]
  show (number bs (i + 1 + d.length + h.length)).bind _ = _
  rw [number_of hc lc r3]
  show (number bs (i + 1 + d.length + h.length + c.length)).bind _ = _
  rw [number_of hc2 lc2 r4]
  show Res.ok _ = Res.ok _
  obtain ⟨pl, pe, pc, pd⟩ := p
  have hle : pl ≤ pe := pk.le
  have x1 : l + (pl - l) = pl := by omega
  have x2 : l + (pl - l) + (((pe - pl).toNat : Nat) : Int) = pe := by omega
  have x3 : colOf (colN pc) = pc := colOf_colN fun z ez => by
    rcases pk.cd with ⟨h1, _, _⟩ | ⟨a, b, h1, h2, h3, _⟩
    · rw [show pc = none from h1] at ez; cases ez
    · rw [show pc = some a from h1] at ez; cases ez; exact h3
  have x4 : colOf (colN pd) = pd := colOf_colN fun z ez => by
    rcases pk.cd with ⟨_, h1, _⟩ | ⟨a, b, h1, h2, h3, h4, h5, _⟩
    · rw [show pd = none from h1] at ez; cases ez
    · rw [show pd = some b from h2] at ez; cases ez; exact h5
  dsimp only
  rw [x2, x1, x3, x4]
  simp only [List.length_append]
  congr 2
  omega
theorem entB_short {l c d : Int} {k : Nat} (hk : k < 8) (h0 : 0 ≤ c) (h1 : c < 80) (h2 : c ≤ d) (h3 : d - c < 16) (ok : SpanOk (some ⟨l, l, some c, some d⟩)) : EntB [128 + c / 8 * 8 + (k : Int), c % 8 * 16 + d - c] (some ⟨l, l, some c, some d⟩) l (k + 1) := by
  refine entB_of (by omega) (by omega) (by omega) (fun b hb => ?_) (by simp) ok fun bs i r hr => ?_
  · obtain rfl := List.mem_singleton.mp hb
    omega
  have e : ((128 + c / 8 * 8 + (k : Int)).toNat - 128) / 8 = (c / 8).toNat := by omega
  rw [e]
  have hr : bs.drop (i + 1) = (c % 8 * 16 + d - c) :: r := hr
  unfold position
  rw [if_neg (by omega), if_neg (by omega), if_neg (by omega), further_at hr (by omega)]
  show (if (c / 8).toNat < 10 then _ else _) = _
  rw [if_pos (by omega)]
  have x1 : 8 * (((c / 8).toNat : Nat) : Int) + (c % 8 * 16 + d - c) / 16 = c := by omega
  have x2 : c + (c % 8 * 16 + d - c) % 16 = d := by omega
  rw [x1, x2]
  rfl
theorem entB_line {l x c d : Int} {k : Nat} (hk : k < 8) (h0 : 0 ≤ x - l) (h1 : x - l < 3) (h2 : 0 ≤ c) (h3 : c ≤ d) (h4 : d < 128) (ok : SpanOk (some ⟨x, x, some c, some d⟩)) : EntB [208 + 8 * (x - l) + (k : Int), c, d] (some ⟨x, x, some c, some d⟩) l (k + 1) := by
  refine entB_of (by omega) (by omega) (by omega) (fun b hb => ?_) (by simp) ok fun bs i r hr => ?_
  · simp only [List.mem_cons, List.not_mem_nil, or_false] at hb
    rcases hb with rfl | rfl <;> omega
  have e : ((208 + 8 * (x - l) + (k : Int)).toNat - 128) / 8 = 10 + (x - l).toNat := by omega
  rw [e]
  have hr : bs.drop (i + 1) = c :: (d :: r) := hr
  unfold position
  rw [if_neg (by omega), if_neg (by omega), if_neg (by omega), further_at hr (by omega)]
  show (if 10 + (x - l).toNat < 10 then _ else _) = _
  rw [if_neg (by omega), further_at (drop_at hr).2 (by omega)]
  show Res.ok _ = Res.ok _
  have x1 : l + ((10 + (x - l).toNat : Nat) : Int) - 10 = x := by omega
  rw [x1]
  rfl
/-! ## rows of entries -/
structure Row where
  st : Nat
  steps : Nat
  span : Span
  part : List Int
def RowsOk : Int → Nat → List Row → Prop
  | _, _, [] => True
  | l, st, r :: rs => r.st = st ∧ EntB r.part r.span l r.steps ∧ RowsOk (lineAfter r.span l) (st + r.steps) rs
def formOf (part : List Int) : Nat := ((part.headD 0).toNat - 128) / 8
/-- what the entries of the rows are, the first byte at i -/
def rowEnts : Nat → List Row → List (Nat × Nat × Ent)
  | _, [] => []
  | i, r :: rs => (i, r.st, ⟨r.steps, formOf r.part, r.span⟩) :: rowEnts (i + r.part.length) rs
def rowBytes (rs : List Row) : List Int := rs.flatMap Row.part
theorem EntB.pos {part : List Int} {s : Span} {l : Int} {k : Nat} (h : EntB part s l k) : 0 < part.length := by
  obtain ⟨f, t, rfl, _⟩ := h
  exact Nat.succ_pos _
theorem rows_read : ∀ {rs : List Row} {l : Int} {st i k : Nat} {bs : List Int}, RowsOk l st rs → bs.drop i = rowBytes rs → rs.length ≤ k → (rs ≠ [] ∨ bs.length ≤ i) → entriesK bs k i st l = .ok (rowEnts i rs)
  | [], l, st, i, k, bs, _, hd, _, hn => by
    have hl : ¬ i < bs.length := by
      intro z
      have : (bs.drop i).length = 0 := by rw [hd]; rfl
      rw [List.length_drop] at this
      omega
    cases k with
    | zero => rfl
    | succ k =>
      unfold entriesK
      rw [if_neg hl]
      rfl
  | r :: rs, l, st, i, k, bs, h, hd, hk, _ => by
    obtain ⟨h1, h2, h3⟩ := h
    have hd : bs.drop i = r.part ++ rowBytes rs := hd
    have hp := h2.pos
    have hlt : i < bs.length := by
      have : (bs.drop i).length = (r.part ++ rowBytes rs).length := by rw [hd]
      rw [List.length_drop, List.length_append] at this
      omega
    cases k with
    | zero => exact absurd hk (by rw [List.length_cons]; omega)
    | succ k =>
      obtain ⟨f, t, ep, _, _, _, _, _, he⟩ := h2
      unfold entriesK
      rw [if_pos hlt, he bs i _ hd]
      show (entriesK bs k (i + r.part.length) (st + r.steps) (lineAfter r.span l)).bind _ = _
      rw [rows_read h3 (drop_more hd) (by rw [List.length_cons] at hk; omega) ?_]
      · show Res.ok _ = Res.ok _
        have ef : formOf r.part = (f.toNat - 128) / 8 := by
          unfold formOf
          rw [ep]
          rfl
        show Res.ok _ = Res.ok ((i, r.st, ⟨r.steps, formOf r.part, r.span⟩) :: rowEnts (i + r.part.length) rs)
        rw [h1, ef]
      · cases rs with
        | nil =>
          refine .inr ?_
          have := drop_more hd
          have e2 : (bs.drop (i + r.part.length)).length = 0 := by rw [this]; rfl
          rw [List.length_drop] at e2
          omega
        | cons a b => exact .inl (fun z => nomatch z)
theorem rows_len : ∀ {rs : List Row} {l : Int} {st : Nat}, RowsOk l st rs → rs.length ≤ (rowBytes rs).length
  | [], _, _, _ => Nat.le_refl _
  | r :: rs, l, st, h => by
    have hp := h.2.1.pos
    have := rows_len h.2.2
    show rs.length + 1 ≤ (r.part ++ rowBytes rs).length
    rw [List.length_append]
    omega
theorem rows_entries {rs : List Row} {l : Int} (h : RowsOk l 0 rs) : entries (rowBytes rs) l = .ok (rowEnts 0 rs) := by
  unfold entries
  refine rows_read h rfl (rows_len h) ?_
  cases rs with
  | nil => exact .inr (Nat.le_refl _)
  | cons a b => exact .inl (fun z => nomatch z)
/-- all spans of the rows -/
def rowSpans (rs : List Row) : List Span := rs.flatMap fun r => List.replicate r.steps r.span
theorem spansOf_rows : ∀ {rs : List Row} {i : Nat}, spansOf (rowEnts i rs) = rowSpans rs
  | [], _ => rfl
  | r :: rs, i => by
    show List.replicate r.steps r.span ++ spansOf (rowEnts (i + r.part.length) rs) = List.replicate r.steps r.span ++ rowSpans rs
    rw [spansOf_rows]
theorem Drawn.own {w l : Addr} {H H2 : Hp} {o : HO} (d : Drawn w H H2) (n : H l = none) (h : l ≠ w) : Drawn w H (upd H2 l o) := by
  refine ⟨?_, fun b u e nb => ?_⟩
  · obtain ⟨x, y, e⟩ := d.w
    exact ⟨x, y, by rw [upd_ne h.symm]; exact e⟩
  · rw [upd_ne (ne_of_none e n)]
    exact d.b b u e nb
end Lay

namespace Lay
open PySem PySem.Spec PyProof.Rows L2
theorem Drawn.fresh {w x : Addr} {H H2 : Hp} (hw : Well H w) (d : Drawn w H H2) (n : H2 x = none) : H x = none ∧ x ≠ w := by
  have h : x ≠ w := d.w.ne n
  refine ⟨?_, h⟩
  cases e : H x with
  | none => rfl
  | some o =>
    rw [d.b x o e h] at n
    cases n
theorem fold_lt {a b : Int} (h0 : 1 ≤ a) (h1 : a ≤ 2147483647) (h2 : 1 ≤ b) (h3 : b ≤ 2147483647) : fold1 (a - b) < 64 ^ 6 := by
  unfold fold1
  split <;> omega
theorem colN_lt {o : Option Int} (h : ∀ c, o = some c → 0 ≤ c ∧ c ≤ 2147483647) : colN o < 64 ^ 6 := by
  cases o with
  | none => exact Nat.zero_lt_succ _
  | some c =>
    have := h c rfl
    show (c + 1).toNat < 64 ^ 6
    omega
theorem Pos.ok.cs {p : Pos} (h : p.ok) : (∀ c, p.c = some c → 0 ≤ c ∧ c ≤ 2147483647) ∧ ∀ c, p.d = some c → 0 ≤ c ∧ c ≤ 2147483647 := by
  rcases h.cd with ⟨h1, h2, _⟩ | ⟨a, b, h1, h2, h3, h4, h5, h6, _⟩
  · exact ⟨fun c e => (by rw [h1] at e; cases e), fun c e => (by rw [h2] at e; cases e)⟩
  · exact ⟨fun c e => (by rw [h1] at e; cases e; exact ⟨h3, h4⟩), fun c e => (by rw [h2] at e; cases e; exact ⟨h5, h6⟩)⟩
/-- the list of the forms at sm holds the one list at b -/
structure Forms (H H2 : Hp) (w dp sm b : Addr) (d part : List Int) : Prop where
  dr : Drawn w H H2
  dw : dp ≠ w
  hd : H2 dp = some (.lst (d.map V.int))
  sw : sm ≠ w
  sn : H sm = none
  hs : H2 sm = some (.lst [.ref b])
  bw : b ≠ w
  hb : H2 b = some (.lst (part.map V.int))
theorem ref_int {b : Addr} {d : List Int} {xs : List V} (h : d.map V.int = .ref b :: xs) : False := by
  cases d with
  | nil => cases h
  | cons _ _ => cases h
theorem Forms.step {H H2 H3 : Hp} {w dp sm b b4 : Addr} {d part part' : List Int} {L : List V} (hw : Well H w) (F : Forms H H2 w dp sm b d part) (D3 : Drawn w H2 H3) (n4 : H3 b4 = none) (e : L = part'.map V.int) : Forms H (upd (upd H3 b4 (.lst L)) sm (.lst [.ref b4])) w dp sm b4 d part' := by
  have hd3 := D3.at F.hd F.dw
  have hs3 := D3.at F.hs F.sw
  have D4 := F.dr.trans D3
  have f4 := Drawn.fresh hw D4 n4
  have ds : dp ≠ sm := fun z => by
    rw [z, hs3] at hd3
    have z2 := HO.lst.inj (Option.some.inj hd3)
    exact ref_int z2.symm
  have bs : b4 ≠ sm := fun z => by
    rw [z, hs3] at n4
    cases n4
  refine ⟨(D4.new n4).own F.sn F.sw, F.dw, ?_, F.sw, F.sn, upd_same, f4.2, ?_⟩
  · rw [upd_ne ds]
    exact up hd3 n4
  · rw [upd_ne bs, upd_same, e]
/-- the list of the forms at sm holds these entries -/
structure Alls (H H2 : Hp) (w sm : Addr) (xs : List V) (s : Span) (l : Int) (k : Nat) : Prop where
  dr : Drawn w H H2
  sw : sm ≠ w
  sn : H sm = none
  hs : H2 sm = some (.lst xs)
  ne : 0 < xs.length
  le : xs.length ≤ 5
  all : ∀ x ∈ xs, ∃ (p : Addr) (part : List Int), x = .ref p ∧ p ≠ w ∧ H2 p = some (.lst (part.map V.int)) ∧ EntB part s l k
theorem Alls.app {H H2 : Hp} {w sm b : Addr} {xs : List V} {s : Span} {l : Int} {k : Nat} {L : List V} {part : List Int} (hw : Well H w) (A : Alls H H2 w sm xs s l k) (n : H2 b = none) (e : L = part.map V.int) (he : EntB part s l k) (hl : xs.length ≤ 4) :
    Alls H (upd (upd H2 b (.lst L)) sm (.lst (xs ++ [.ref b]))) w sm (xs ++ [.ref b]) s l k := by
  have f := Drawn.fresh hw A.dr n
  have ps : ∀ (p : Addr) (part : List Int), H2 p = some (.lst (part.map V.int)) → p ≠ sm := fun p part hp z => by
    rw [z, A.hs] at hp
    have z2 := HO.lst.inj (Option.some.inj hp)
    cases hx : xs with
    | nil => have := A.ne; rw [hx] at this; exact absurd this (by decide)
    | cons x t =>
      obtain ⟨p', _, rfl, _⟩ := A.all x (by rw [hx]; exact List.mem_cons_self ..)
      rw [hx] at z2
      exact ref_int z2.symm
  have bs : b ≠ sm := fun z => by
    rw [z, A.hs] at n
    cases n
  refine ⟨(A.dr.new n).own A.sn A.sw, A.sw, A.sn, upd_same, by simp, by rw [List.length_append, List.length_singleton]; omega, fun x hx => ?_⟩
  rcases List.mem_append.mp hx with hx | hx
  · obtain ⟨p, pt, rfl, pw, hp, h⟩ := A.all x hx
    exact ⟨p, pt, rfl, pw, by rw [upd_ne (ps p pt hp)]; exact up hp n, h⟩
  · obtain rfl := List.mem_singleton.mp hx
    exact ⟨b, part, rfl, f.2, by rw [upd_ne bs, upd_same, e], he⟩
theorem Alls.new {H H2 : Hp} {w sm x : Addr} {xs : List V} {s : Span} {l : Int} {k : Nat} {o : HO} (A : Alls H H2 w sm xs s l k) (n : H2 x = none) : Alls H (upd H2 x o) w sm xs s l k :=
  ⟨A.dr.new n, A.sw, A.sn, up A.hs n, A.ne, A.le, fun y hy => by
    obtain ⟨p, pt, rfl, pw, hp, h⟩ := A.all y hy
    exact ⟨p, pt, rfl, pw, up hp n, h⟩⟩
end Lay

namespace Lay
open PySem PySem.Spec PyProof.Rows L2
/-! ## a reading is local: what lies behind is not looked at, and a cut inside is told as torn -/
/-- f, which reads from i on, is local at bs -/
def Loc {α : Type} (f : List Int → Res (α × Nat)) (i : Nat) (bs : List Int) : Prop := ∀ a j, f bs = .ok (a, j) → i ≤ j ∧ j ≤ bs.length ∧ (∀ k, i ≤ k → k < j → ∃ g, bs[k]? = some g ∧ g ≤ 127) ∧
  ∀ m, i ≤ m → m ≤ bs.length → (j ≤ m → f (bs.take m) = .ok (a, j)) ∧ (m < j → f (bs.take m) = .bad m "torn")
theorem Loc.ok {α : Type} {a : α} {i : Nat} {bs : List Int} (h : i ≤ bs.length) : Loc (fun _ => .ok (a, i)) i bs := fun b j e => by
  cases e
  exact ⟨Nat.le_refl _, h, fun k h1 h2 => by omega, fun m h1 h2 => ⟨fun _ => rfl, fun h3 => by omega⟩⟩
theorem Loc.bind {α β : Type} {f : List Int → Res (α × Nat)} {g : α → Nat → List Int → Res (β × Nat)} {i : Nat} {bs : List Int} (hf : Loc f i bs) (hg : ∀ a j, f bs = .ok (a, j) → Loc (g a j) j bs) : Loc (fun bs => (f bs).bind fun p => g p.1 p.2 bs) i bs := fun c j h => by
  cases e : f bs with
  | bad n w =>
    have h : (f bs).bind (fun p => g p.1 p.2 bs) = .ok (c, j) := h
    rw [e] at h
    cases h
  | ok p =>
    obtain ⟨a, j1⟩ := p
    have h : (f bs).bind (fun p => g p.1 p.2 bs) = .ok (c, j) := h
    rw [e] at h
    have h : g a j1 bs = .ok (c, j) := h
    obtain ⟨a1, a2, a3, a4⟩ := hf a j1 e
    obtain ⟨b1, b2, b3, b4⟩ := hg a j1 e c j h
    refine ⟨by omega, b2, fun k h1 h2 => ?_, fun m h1 h2 => ⟨fun h3 => ?_, fun h3 => ?_⟩⟩
    · by_cases hk : k < j1
      · exact a3 k h1 hk
      · exact b3 k (by omega) h2
    · show (f (bs.take m)).bind _ = _
      rw [(a4 m h1 h2).1 (by omega)]
      exact (b4 m (by omega) h2).1 h3
    · show (f (bs.take m)).bind _ = _
      by_cases hm : m < j1
      · rw [(a4 m h1 h2).2 hm]
        rfl
      · rw [(a4 m h1 h2).1 (by omega)]
        exact (b4 m (by omega) h2).2 h3
theorem Loc.further {β : Type} {g : Int → List Int → Res (β × Nat)} {i : Nat} {bs : List Int} (hg : ∀ a, further bs i = .ok a → Loc (g a) (i + 1) bs) : Loc (fun bs => (further bs i).bind fun p => g p bs) i bs := fun c j h => by
  cases e : Lay.further bs i with
  | bad n w =>
    have h : (Lay.further bs i).bind (fun p => g p bs) = .ok (c, j) := h
    rw [e] at h
    cases h
  | ok a =>
    have h : (Lay.further bs i).bind (fun p => g p bs) = .ok (c, j) := h
    rw [e] at h
    have h : g a bs = .ok (c, j) := h
    obtain ⟨f1, f2, f3⟩ := further_ok e
    obtain ⟨b1, b2, b3, b4⟩ := hg a e c j h
    refine ⟨by omega, b2, fun k h1 h2 => ?_, fun m h1 h2 => ?_⟩
    · by_cases hk : k = i
      · subst hk
        exact ⟨a, f1, f2⟩
      · exact b3 k (by omega) h2
    by_cases hm : m = i
    · subst hm
      refine ⟨fun h3 => by omega, fun _ => ?_⟩
      have e2 : Lay.further (bs.take m) m = .bad m "torn" := by
        unfold Lay.further
        rw [List.getElem?_eq_none (by rw [List.length_take]; omega)]
      show (Lay.further (bs.take m) m).bind _ = _
      rw [e2]
      rfl
    · have e2 : Lay.further (bs.take m) i = .ok a := by
        rw [← e]
        unfold Lay.further
        rw [List.getElem?_take_of_lt (by omega)]
      refine ⟨fun h3 => ?_, fun h3 => ?_⟩
      · show (Lay.further (bs.take m) i).bind _ = _
        rw [e2]
        exact (b4 m (by omega) h2).1 h3
      · show (Lay.further (bs.take m) i).bind _ = _
        rw [e2]
        exact (b4 m (by omega) h2).2 h3
theorem Loc.bad {α : Type} {n i : Nat} {w : Str} {bs : List Int} : Loc (fun _ => (.bad n w : Res (α × Nat))) i bs := fun a j h => by cases h
theorem Loc.numK {bs : List Int} : ∀ {k i : Nat}, Loc (fun bs => numK bs k i) i bs
  | 0, i => by
    refine Loc.further (g := fun g _ => if 63 < g then .bad i "number" else .ok (g.toNat, i + 1)) fun a e => ?_
    split
    · exact Loc.bad
    · exact Loc.ok (further_ok e).2.2
  | k + 1, i => by
    refine Loc.further (g := fun g bs => if 63 < g then (Lay.numK bs k (i + 1)).bind fun p => .ok (g.toNat % 64 + 64 * p.1, p.2) else .ok (g.toNat, i + 1)) fun a e => ?_
    split
    · refine Loc.bind (g := fun (x : Nat) j _ => .ok (a.toNat % 64 + 64 * x, j)) Loc.numK fun x j ej => Loc.ok ?_
      exact (Loc.numK x j ej).2.1
    · exact Loc.ok (further_ok e).2.2
theorem Loc.number {bs : List Int} {i : Nat} : Loc (fun bs => number bs i) i bs := Loc.numK
theorem Loc.signed {bs : List Int} {i : Nat} : Loc (fun bs => signed bs i) i bs :=
  Loc.bind (g := fun (x : Nat) j _ => .ok (sgn x, j)) Loc.number fun x j ej => Loc.ok (Loc.number x j ej).2.1
theorem Loc.longPos {bs : List Int} {i : Nat} {l : Int} : Loc (fun bs => longPos bs i l) i bs :=
  Loc.bind (g := fun (p : Int) j bs => (Lay.number bs j).bind fun h => (Lay.number bs h.2).bind fun c => (Lay.number bs c.2).bind fun d => .ok ((some ⟨l + p, l + p + h.1, colOf c.1, colOf d.1⟩ : Span), d.2)) Loc.signed fun p j ej =>
  Loc.bind (g := fun (h : Nat) j bs => (Lay.number bs j).bind fun c => (Lay.number bs c.2).bind fun d => .ok ((some ⟨l + p, l + p + h, colOf c.1, colOf d.1⟩ : Span), d.2)) Loc.number fun h j ej =>
  Loc.bind (g := fun (c : Nat) j bs => (Lay.number bs j).bind fun d => .ok ((some ⟨l + p, l + p + h, colOf c, colOf d.1⟩ : Span), d.2)) Loc.number fun c j ej =>
  Loc.bind (g := fun (d : Nat) j _ => .ok ((some ⟨l + p, l + p + h, colOf c, colOf d⟩ : Span), j)) Loc.number fun d j ej => Loc.ok (Loc.number d j ej).2.1
theorem Loc.position {bs : List Int} {i f : Nat} {l : Int} (hi : i ≤ bs.length) : Loc (fun bs => position bs i f l) i bs := by
  unfold Lay.position
  split
  · exact Loc.ok hi
  · split
    · exact Loc.longPos
    · split
      · exact Loc.bind (g := fun (p : Int) j _ => .ok ((some ⟨l + p, l + p, none, none⟩ : Span), j)) Loc.signed fun p j ej => Loc.ok (Loc.signed p j ej).2.1
      · refine Loc.further (g := fun x bs => if f < 10 then .ok ((some ⟨l, l, some (8 * (f : Int) + x / 16), some (8 * (f : Int) + x / 16 + x % 16)⟩ : Span), i + 1) else (Lay.further bs (i + 1)).bind fun s => .ok ((some ⟨l + f - 10, l + f - 10, some x, some s⟩ : Span), i + 2)) fun a e => ?_
        split
        · exact Loc.ok (further_ok e).2.2
        · exact Loc.further (g := fun s _ => .ok ((some ⟨l + f - 10, l + f - 10, some a, some s⟩ : Span), i + 2)) fun s es => Loc.ok (further_ok es).2.2
/-- an entry that is read: its later bytes are below 128, and a cut inside it is told as torn -/
theorem entry_loc {bs : List Int} {i j : Nat} {l : Int} {e : Ent} (h : entry bs i l = .ok (e, j)) : i < j ∧ j ≤ bs.length ∧ (∀ k, i < k → k < j → ∃ g, bs[k]? = some g ∧ g ≤ 127) ∧ ∀ m, i < m → m < j → entry (bs.take m) i l = .bad m "torn" := by
  unfold entry at h
  split at h
  · cases h
  · rename_i f ef
    split at h
    · cases h
    rename_i hf
    have hi : i < bs.length := (List.getElem?_eq_some_iff.mp ef).1
    have L := Loc.position (bs := bs) (i := i + 1) (f := (f.toNat - 128) / 8) (l := l) hi
    cases ep : position bs (i + 1) ((f.toNat - 128) / 8) l with
    | bad n w =>
      rw [ep] at h
      cases h
    | ok p =>
      obtain ⟨s, j1⟩ := p
      rw [ep] at h
      have h : (chkPos s i).bind (fun _ => Res.ok ((⟨f.toNat % 8 + 1, (f.toNat - 128) / 8, s⟩ : Ent), j1)) = .ok (e, j) := h
      cases ec : chkPos s i with
      | bad n w =>
        rw [ec] at h
        cases h
      | ok u =>
        rw [ec] at h
        have h : Res.ok ((⟨f.toNat % 8 + 1, (f.toNat - 128) / 8, s⟩ : Ent), j1) = .ok (e, j) := h
        cases h
        obtain ⟨a1, a2, a3, a4⟩ := L _ _ ep
        refine ⟨by omega, a2, fun k h1 h2 => a3 k (by omega) h2, fun m h1 h2 => ?_⟩
        unfold entry
        rw [List.getElem?_take_of_lt h1, ef]
        dsimp only
        have e2 : position (bs.take m) (i + 1) ((f.toNat - 128) / 8) l = .bad m "torn" := (a4 m (by omega) (by omega)).2 h2
        rw [if_neg hf, e2]
        rfl
/-- where rows end: the line -/
def lineEnd : Int → List Row → Int
  | l, [] => l
  | l, r :: rs => lineEnd (lineAfter r.span l) rs
theorem rows_then : ∀ {rs : List Row} {l : Int} {st i k : Nat} {bs q : List Int}, RowsOk l st rs → bs.drop i = rowBytes rs ++ q → q ≠ [] → rs.length < k →
    ∃ k' st', entriesK bs k i st l = (entriesK bs (k' + 1) (i + (rowBytes rs).length) st' (lineEnd l rs)).bind fun es => .ok (rowEnts i rs ++ es)
  | [], l, st, i, k, bs, q, _, hd, hq, hk => by
    cases k with
    | zero => exact absurd hk (by simp)
    | succ k =>
      refine ⟨k, st, ?_⟩
      show entriesK bs (k + 1) i st l = (entriesK bs (k + 1) i st l).bind fun es => .ok es
      cases entriesK bs (k + 1) i st l <;> rfl
  | r :: rs, l, st, i, k, bs, q, h, hd, hq, hk => by
    obtain ⟨h1, h2, h3⟩ := h
    have hd : bs.drop i = r.part ++ (rowBytes rs) ++ q := hd
    rw [List.append_assoc] at hd
    have hp := h2.pos
    have hlt : i < bs.length := by
      have : (bs.drop i).length = (r.part ++ (rowBytes rs ++ q)).length := by rw [hd]
      rw [List.length_drop, List.length_append] at this
      omega
    cases k with
    | zero => exact absurd hk (by simp)
    | succ k =>
      obtain ⟨k', st', ih⟩ := rows_then (k := k) h3 (drop_more hd) hq (by rw [List.length_cons] at hk; omega)
      obtain ⟨f, t, ep, _, _, _, _, _, he⟩ := h2
      refine ⟨k', st', ?_⟩
      have e1 : entriesK bs (k + 1) i st l = (entriesK bs k (i + r.part.length) (st + r.steps) (lineAfter r.span l)).bind fun es => .ok ((i, st, ⟨r.steps, (f.toNat - 128) / 8, r.span⟩) :: es) := by
        show (if i < bs.length then _ else _) = _
        rw [if_pos hlt, he bs i _ hd]
        rfl
      have ef : formOf r.part = (f.toNat - 128) / 8 := by
        unfold formOf
        rw [ep]
        rfl
      have el : (rowBytes (r :: rs)).length = r.part.length + (rowBytes rs).length := List.length_append
      rw [e1, ih, el, ← Nat.add_assoc]
      show _ = (entriesK bs (k' + 1) (i + r.part.length + (rowBytes rs).length) st' (lineEnd (lineAfter r.span l) rs)).bind fun es => .ok ((i, r.st, ⟨r.steps, formOf r.part, r.span⟩) :: (rowEnts (i + r.part.length) rs ++ es))
      rw [h1, ef]
      cases entriesK bs (k' + 1) (i + r.part.length + (rowBytes rs).length) st' (lineEnd (lineAfter r.span l) rs) <;> rfl
/-- rows and a beginning of one more -/
theorem rows_torn {rs : List Row} {l : Int} {part : List Int} {s : Span} {steps m : Nat} (h : RowsOk l 0 rs) (he : EntB part s (lineEnd l rs) steps) (h0 : 0 < m) (h1 : m < part.length) : entries (rowBytes rs ++ part.take m) l = .bad ((rowBytes rs).length + m) "torn" := by
  have hl : (part.take m).length = m := by rw [List.length_take]; omega
  have hq : part.take m ≠ [] := fun z => by rw [z] at hl; exact absurd hl (by show ¬ 0 = m; omega)
  have hlen : rs.length < (rowBytes rs ++ part.take m).length := by
    have := rows_len h
    rw [List.length_append, hl]
    omega
  obtain ⟨k', st', e⟩ := rows_then (i := 0) (k := (rowBytes rs ++ part.take m).length) (q := part.take m) h rfl hq hlen
  unfold entries
  rw [e, Nat.zero_add]
  have ht : rowBytes rs ++ part.take m = (rowBytes rs ++ part).take ((rowBytes rs).length + m) := by
    have z1 : (rowBytes rs).take ((rowBytes rs).length + m) = rowBytes rs := List.take_of_length_le (by omega)
    have z2 : (rowBytes rs).length + m - (rowBytes rs).length = m := by omega
    rw [List.take_append, z1, z2]
  obtain ⟨f, t, ep, _, _, _, _, _, hE⟩ := he
  have e2 := hE (rowBytes rs ++ part) (rowBytes rs).length [] (by rw [List.drop_left, List.append_nil])
  have e3 := (entry_loc e2).2.2.2 ((rowBytes rs).length + m) (by omega) (by omega)
  rw [← ht] at e3
  have e4 : entriesK (rowBytes rs ++ part.take m) (k' + 1) (rowBytes rs).length st' (lineEnd l rs) = .bad ((rowBytes rs).length + m) "torn" := by
    unfold entriesK
    rw [if_pos (by rw [List.length_append, hl]; omega), e3]
    rfl
  rw [e4]
  rfl
/-- from inside an entry on -/
theorem rows_start {part q : List Int} {s : Span} {l l' : Int} {steps m : Nat} (he : EntB part s l' steps) (h0 : 0 < m) (h1 : m < part.length) : entries (part.drop m ++ q) l = .bad 0 "start" := by
  obtain ⟨f, t, ep, _, _, _, _, _, hE⟩ := he
  have e2 := hE part 0 [] (by rw [List.drop_zero, List.append_nil])
  obtain ⟨g, g1, g2⟩ := (entry_loc e2).2.2.1 m h0 (by omega)
  obtain ⟨a, u, ed⟩ : ∃ a u, part.drop m ++ q = a :: u := by
    cases ec : part.drop m with
    | nil =>
      have : (part.drop m).length = 0 := by rw [ec]; rfl
      rw [List.length_drop] at this
      omega
    | cons a u => exact ⟨a, u ++ q, rfl⟩
  have ea : a = g := by
    have : (part.drop m ++ q)[0]? = some g := by
      rw [List.getElem?_append_left (by rw [List.length_drop]; omega), List.getElem?_drop, Nat.add_zero, g1]
    rw [ed] at this
    exact Option.some.inj this
  rw [ed]
  show entriesK (a :: u) (u.length + 1) 0 0 l = _
  unfold entriesK
  rw [if_pos (by simp)]
  have e5 : entry (a :: u) 0 l = .bad 0 "start" := by
    unfold entry
    show (if a < 128 then _ else _) = _
    rw [if_pos (by omega)]
  rw [e5]
  rfl
/-- the rows, their steps counted anew from s on -/
def resetR : Nat → List Row → List Row
  | _, [] => []
  | s, r :: rs => { r with st := s } :: resetR (s + r.steps) rs
theorem resetR_ok : ∀ {rs : List Row} {l : Int} {st s : Nat}, RowsOk l st rs → RowsOk l s (resetR s rs)
  | [], _, _, _, _ => True.intro
  | _ :: _, _, _, _, h => ⟨rfl, h.2.1, resetR_ok h.2.2⟩
theorem resetR_bytes : ∀ {rs : List Row} {s : Nat}, rowBytes (resetR s rs) = rowBytes rs
  | [], _ => rfl
  | r :: rs, s => congrArg (r.part ++ ·) resetR_bytes
theorem resetR_spans : ∀ {rs : List Row} {s : Nat}, rowSpans (resetR s rs) = rowSpans rs
  | [], _ => rfl
  | r :: rs, s => congrArg (List.replicate r.steps r.span ++ ·) resetR_spans
theorem resetR_len : ∀ {rs : List Row} {s : Nat}, (resetR s rs).length = rs.length
  | [], _ => rfl
  | r :: rs, s => congrArg (· + 1) resetR_len
theorem resetR_steps {c : Nat} : ∀ {rs : List Row} {s : Nat}, (∀ r ∈ rs, r.steps ≤ c) → ∀ r ∈ resetR s rs, r.steps ≤ c
  | [], _, _, r, h => by cases h
  | x :: rs, s, h, r, hr => by
    rcases List.mem_cons.mp hr with rfl | hr
    · exact h x (List.mem_cons_self ..)
    · exact resetR_steps (fun r hr => h r (List.mem_cons_of_mem _ hr)) r hr
theorem rowsOk_drop : ∀ {rs : List Row} {l : Int} {st : Nat}, RowsOk l st rs → ∀ i, RowsOk (lineEnd l (rs.take i)) (st + (rowSpans (rs.take i)).length) (rs.drop i)
  | rs, _, _, h, 0 => h
  | [], _, _, _, i + 1 => True.intro
  | r :: rs, l, st, h, i + 1 => by
    have ih := rowsOk_drop h.2.2 i
    have e : (rowSpans ((r :: rs).take (i + 1))).length = r.steps + (rowSpans (rs.take i)).length := by
      show (List.replicate r.steps r.span ++ rowSpans (rs.take i)).length = _
      rw [List.length_append, List.length_replicate]
    rw [e, ← Nat.add_assoc]
    exact ih
theorem rowBytes_split (rs : List Row) (i : Nat) : rowBytes rs = rowBytes (rs.take i) ++ rowBytes (rs.drop i) := by
  unfold rowBytes
  rw [← List.flatMap_append, List.take_append_drop]
theorem rowSpans_split (rs : List Row) (i : Nat) : rowSpans rs = rowSpans (rs.take i) ++ rowSpans (rs.drop i) := by
  unfold rowSpans
  rw [← List.flatMap_append, List.take_append_drop]
end Lay

namespace Lay
open PySem PySem.Spec PyProof.Rows L2
/-! ## the reasons are plain texts; how many steps bytes can hold -/
def Why {α : Type} (r : Res α) : Prop := ∀ j w, r = .bad j w → PyData.canLay0 (.str w) = true
theorem Why.ok {α : Type} {a : α} : Why (.ok a) := fun _ _ h => by cases h
theorem Why.bad {α : Type} {i : Nat} {w : Str} (h : PyData.canLay0 (.str w) = true) : Why (.bad i w : Res α) := fun _ _ e => by
  cases e
  exact h
theorem Why.bind {α β : Type} {r : Res α} {f : α → Res β} (h : Why r) (k : ∀ a, Why (f a)) : Why (r.bind f) := fun j w e => by
  cases r with
  | ok a => exact k a j w e
  | bad i u =>
    have e : Res.bad i u = (.bad j w : Res β) := e
    cases e
    exact h _ _ rfl
theorem why_further {bs : List Int} {i : Nat} : Why (further bs i) := by
  unfold further
  split
  · exact .bad (by kernel_rfl)
  · split
    · exact .bad (by kernel_rfl)
    · exact .ok
theorem why_numK {bs : List Int} : ∀ {k i : Nat}, Why (numK bs k i)
  | 0, i => by
    unfold numK
    refine why_further.bind fun g => ?_
    split
    · exact .bad (by kernel_rfl)
    · exact .ok
  | k + 1, i => by
    unfold numK
    refine why_further.bind fun g => ?_
    split
    · exact why_numK.bind fun p => .ok
    · exact .ok
theorem why_number {bs : List Int} {i : Nat} : Why (number bs i) := why_numK
theorem why_signed {bs : List Int} {i : Nat} : Why (signed bs i) := why_number.bind fun p => .ok
theorem why_position {bs : List Int} {i f : Nat} {l : Int} : Why (position bs i f l) := by
  unfold position
  split
  · exact .ok
  · split
    · exact why_signed.bind fun p => why_number.bind fun h => why_number.bind fun c => why_number.bind fun d => .ok
    · split
      · exact why_signed.bind fun p => .ok
      · refine why_further.bind fun g => ?_
        split
        · exact .ok
        · exact why_further.bind fun s => .ok
theorem why_chk {s : Span} {i : Nat} : Why (chkPos s i) := by
  unfold chkPos
  split
  · exact .ok
  · split
    · exact .bad (by kernel_rfl)
    · split
      · exact .bad (by kernel_rfl)
      · exact .ok
theorem why_entry {bs : List Int} {i : Nat} {l : Int} : Why (entry bs i l) := by
  unfold entry
  split
  · exact .bad (by kernel_rfl)
  · split
    · exact .bad (by kernel_rfl)
    · exact why_position.bind fun p => why_chk.bind fun _ => .ok
theorem why_entriesK {bs : List Int} : ∀ {k i st : Nat} {l : Int}, Why (entriesK bs k i st l)
  | 0, _, _, _ => .ok
  | k + 1, i, st, l => by
    unfold entriesK
    split
    · exact why_entry.bind fun p => why_entriesK.bind fun r => .ok
    · exact .ok
theorem why_entries {bs : List Int} {l : Int} : Why (entries bs l) := why_entriesK
theorem entry_steps {bs : List Int} {i j : Nat} {l : Int} {e : Ent} (h : entry bs i l = .ok (e, j)) : e.steps ≤ 8 := by
  unfold entry at h
  split at h
  · cases h
  · rename_i f ef
    split at h
    · cases h
    cases ep : position bs (i + 1) ((f.toNat - 128) / 8) l with
    | bad n w =>
      rw [ep] at h
      cases h
    | ok p =>
      rw [ep] at h
      have h : (chkPos p.1 i).bind (fun _ => Res.ok ((⟨f.toNat % 8 + 1, (f.toNat - 128) / 8, p.1⟩ : Ent), p.2)) = .ok (e, j) := h
      cases ec : chkPos p.1 i with
      | bad n w =>
        rw [ec] at h
        cases h
      | ok u =>
        rw [ec] at h
        have h : Res.ok ((⟨f.toNat % 8 + 1, (f.toNat - 128) / 8, p.1⟩ : Ent), p.2) = .ok (e, j) := h
        cases h
        show f.toNat % 8 + 1 ≤ 8
        omega
theorem entriesK_len {bs : List Int} : ∀ {k i st : Nat} {l : Int} {es : List (Nat × Nat × Ent)}, entriesK bs k i st l = .ok es → i ≤ bs.length → (spansOf es).length + 8 * i ≤ 8 * bs.length
  | 0, i, _, _, es, h, hi => by
    cases h
    show 0 + _ ≤ _
    omega
  | k + 1, i, st, l, es, h, hi => by
    unfold entriesK at h
    split at h
    · cases e1 : entry bs i l with
      | bad n w =>
        rw [e1] at h
        cases h
      | ok p =>
        rw [e1] at h
        have h : (entriesK bs k p.2 (st + p.1.steps) (lineAfter p.1.span l)).bind (fun r => Res.ok ((i, st, p.1) :: r)) = .ok es := h
        cases e2 : entriesK bs k p.2 (st + p.1.steps) (lineAfter p.1.span l) with
        | bad n w =>
          rw [e2] at h
          cases h
        | ok r =>
          rw [e2] at h
          have h : Res.ok ((i, st, p.1) :: r) = .ok es := h
          cases h
          have kl := entry_loc e1
          have ih := entriesK_len e2 kl.2.1
          have hs := entry_steps e1
          have z : (spansOf ((i, st, p.1) :: r)).length = p.1.steps + (spansOf r).length := by
            show (List.replicate p.1.steps p.1.span ++ spansOf r).length = _
            rw [List.length_append, List.length_replicate]
          rw [z]
          have kl1 := kl.1
          omega
    · cases h
      show 0 + _ ≤ _
      omega
theorem entries_len {bs : List Int} {l : Int} {es : List (Nat × Nat × Ent)} (h : entries bs l = .ok es) : (spansOf es).length ≤ 8 * bs.length := by
  have := entriesK_len h (Nat.zero_le _)
  omega
end Lay

namespace Lay
open PySem PySem.Spec PyProof.Rows L2
/-! ## the shortest entries: their bytes, and no reading is shorter -/
instance decPos : DecidableEq Pos := fun a b => decidable_of_iff (a.l = b.l ∧ a.e = b.e ∧ a.c = b.c ∧ a.d = b.d) ⟨fun h => by
  obtain ⟨h1, h2, h3, h4⟩ := h
  cases a
  cases b
  simp_all, fun h => by
  subst h
  exact ⟨rfl, rfl, rfl, rfl⟩⟩
/-- the form and the bytes behind the first one -/
def formB (s : Span) (l : Int) : Nat × List Int := match s with
  | none => (15, [])
  | some p => match p.c, p.d with
    | some c, some d => if p.e = p.l ∧ p.l - l = 0 ∧ c < 80 ∧ d - c < 16 then ((c / 8).toNat, [16 * (c % 8) + (d - c)]) else if p.e = p.l ∧ 0 ≤ p.l - l ∧ p.l - l ≤ 2 ∧ d < 128 then (10 + (p.l - l).toNat, [c, d])
      else (14, groups (fold1 (p.l - l)) ++ groups (p.e - p.l).toNat ++ groups (c + 1).toNat ++ groups (d + 1).toNat)
    | _, _ => (13, groups (fold1 (p.l - l)))
theorem groups_b (n : Nat) : ∀ g ∈ groups n, 0 ≤ g ∧ g < 256 := fun g h => ⟨(groups_range n g h).1, by have := (groups_range n g h).2; omega⟩
theorem fold7 {d : Int} (h1 : -2147483648 < d) (h2 : d < 2147483648) : fold1 d < 64 ^ 7 := by
  have e : (64 : Nat) ^ 7 = 4398046511104 := by decide
  rw [e]
  unfold fold1
  split <;> omega
theorem num7 {n : Nat} (h : n ≤ 2147483648) : n < 64 ^ 7 := by
  have e : (64 : Nat) ^ 7 = 4398046511104 := by decide
  rw [e]
  omega
theorem lt78 {n : Nat} (h : n < 64 ^ 7) : n < 64 ^ 8 := Nat.lt_trans h (by decide)
theorem formB_ent {s : Span} {l : Int} (hs : SpanOk s) (l1 : 1 ≤ l) (l2 : l ≤ 2147483647) : (formB s l).1 ≤ 15 ∧ (∀ b ∈ (formB s l).2, 0 ≤ b ∧ b < 256) ∧ (formB s l).2.length ≤ 28 ∧ ∀ k : Nat, k < 8 → EntB ((128 + 8 * ((formB s l).1 : Int) + (k : Int)) :: (formB s l).2) s l (k + 1) := by
  cases s with
  | none =>
    refine ⟨by show 15 ≤ 15; decide, (fun b h => nomatch h), by show 0 ≤ 28; decide, fun k hk => ?_⟩
    have := entB_none (l := l) hk
    exact this
  | some p =>
    obtain ⟨pl, pe, pc, pd⟩ := p
    have pk : Pos.ok ⟨pl, pe, pc, pd⟩ := hs
    have y1 : 1 ≤ pl := pk.l1
    have y2 : pl ≤ pe := pk.le
    have y3 : pe ≤ 2147483647 := pk.eM
    have hd := fold7 (d := pl - l) (by omega) (by omega)
    rcases pk.cd with ⟨h1, h2, h3⟩ | ⟨c, d, h1, h2, h3, h4, h5, h6, h7⟩
    · obtain rfl : pc = none := h1
      obtain rfl : pd = none := h2
      have e3 : pe = pl := h3
      clear h3
      subst e3
      refine ⟨by show 13 ≤ 15; decide, groups_b _, Nat.le_trans (groups_len 6 _ hd) (by decide), fun k hk => ?_⟩
      exact entB_bare hk (numB_groups _) (Nat.le_trans (groups_len 6 _ hd) (by decide)) hs
    · obtain rfl : pc = some c := h1
      obtain rfl : pd = some d := h2
      have h7 : pe = pl → c ≤ d := h7
      by_cases A : pe = pl ∧ pl - l = 0 ∧ c < 80 ∧ d - c < 16
      · have e : formB (some ⟨pl, pe, some c, some d⟩) l = ((c / 8).toNat, [16 * (c % 8) + (d - c)]) := if_pos A
        rw [e]
        obtain ⟨A1, A2, A3, A4⟩ := A
        have hcd := h7 A1
        refine ⟨by show (c / 8).toNat ≤ 15; omega, fun b hb => ?_, by show 1 ≤ 28; decide, fun k hk => ?_⟩
        · have hb := List.mem_singleton.mp hb
          omega
        · have e1 : pe = l := by omega
          have e2 : pl = l := by omega
          subst e1 e2
          have z := entB_short (l := pl) (c := c) (d := d) hk h3 A3 hcd A4 hs
          have x1 : (128 + 8 * (((c / 8).toNat : Nat) : Int) + (k : Int)) = 128 + c / 8 * 8 + (k : Int) := by omega
          have x2 : (16 * (c % 8) + (d - c)) = c % 8 * 16 + d - c := by omega
          rw [x2]
          show EntB ((128 + 8 * (((c / 8).toNat : Nat) : Int) + (k : Int)) :: _) _ _ _
          rw [x1]
          exact z
      by_cases B : pe = pl ∧ 0 ≤ pl - l ∧ pl - l ≤ 2 ∧ d < 128
      · have e : formB (some ⟨pl, pe, some c, some d⟩) l = (10 + (pl - l).toNat, [c, d]) := (if_neg A).trans (if_pos B)
        rw [e]
        obtain ⟨B1, B2, B3, B4⟩ := B
        have hcd := h7 B1
        refine ⟨by show 10 + (pl - l).toNat ≤ 15; omega, fun b hb => ?_, by show 2 ≤ 28; decide, fun k hk => ?_⟩
        · simp only [List.mem_cons, List.not_mem_nil, or_false] at hb
          rcases hb with rfl | rfl <;> omega
        · subst B1
          have z := entB_line (l := l) (x := pe) (c := c) (d := d) hk B2 (by omega) h3 hcd B4 hs
          have x1 : (128 + 8 * ((10 + (pe - l).toNat : Nat) : Int) + (k : Int)) = 208 + 8 * (pe - l) + (k : Int) := by omega
          show EntB ((128 + 8 * ((10 + (pe - l).toNat : Nat) : Int) + (k : Int)) :: _) _ _ _
          rw [x1]
          exact z
      · have e : formB (some ⟨pl, pe, some c, some d⟩) l = (14, groups (fold1 (pl - l)) ++ groups (pe - pl).toNat ++ groups (c + 1).toNat ++ groups (d + 1).toNat) := (if_neg A).trans (if_neg B)
        rw [e]
        have g1 := groups_len 6 _ hd
        have g2 := groups_len 6 _ (num7 (n := (pe - pl).toNat) (by omega))
        have g3 := groups_len 6 _ (num7 (n := (c + 1).toNat) (by omega))
        have g4 := groups_len 6 _ (num7 (n := (d + 1).toNat) (by omega))
        refine ⟨by show 14 ≤ 15; decide, fun b hb => ?_, ?_, fun k hk => ?_⟩
        · simp only [List.mem_append] at hb
          rcases hb with ((hb | hb) | hb) | hb <;> exact groups_b _ b hb
        · show (groups (fold1 (pl - l)) ++ groups (pe - pl).toNat ++ groups (c + 1).toNat ++ groups (d + 1).toNat).length ≤ 28
          simp only [List.length_append]
          omega
        · exact entB_long (p := ⟨pl, pe, some c, some d⟩) hk (numB_groups _) (by omega) (numB_groups _) (by omega) (numB_groups (c + 1).toNat) (by omega) (numB_groups (d + 1).toNat) (by omega) hs
/-! ### the entries of one run, of all runs -/
def runRows (s : Span) : Nat → Nat → Int → List Row
  | 0, _, _ => []
  | f + 1, n, l => if n = 0 then [] else ⟨0, min n 8, s, (128 + 8 * ((formB s l).1 : Int) + ((min n 8 - 1 : Nat) : Int)) :: (formB s l).2⟩ :: runRows s f (n - min n 8) (lineAfter s l)
theorem after_ok {s : Span} {l : Int} (hs : SpanOk s) (l1 : 1 ≤ l) (l2 : l ≤ 2147483647) : 1 ≤ lineAfter s l ∧ lineAfter s l ≤ 2147483647 := by
  cases s with
  | none => exact ⟨l1, l2⟩
  | some p =>
    have pk : p.ok := hs
    have y1 := pk.l1
    have y2 := pk.le
    have y3 := pk.eM
    exact ⟨y1, by show p.l ≤ _; omega⟩
theorem after_after (s : Span) (l : Int) : lineAfter s (lineAfter s l) = lineAfter s l := by
  cases s <;> rfl
def allRows : List (Nat × Nat × Span) → Int → List Row
  | [], _ => []
  | r :: rs, l => runRows r.2.2 (r.2.1 - r.1) (r.2.1 - r.1) l ++ allRows rs (lineAfter r.2.2 l)
def endR : Int → List (Nat × Nat × Span) → Int
  | l, [] => l
  | l, r :: rs => endR (lineAfter r.2.2 l) rs
def stepsR : List (Nat × Nat × Span) → Nat
  | [] => 0
  | r :: rs => (r.2.1 - r.1) + stepsR rs
theorem endR_snoc (r : Nat × Nat × Span) : ∀ (l : Int) (rs : List (Nat × Nat × Span)), endR l (rs ++ [r]) = lineAfter r.2.2 (endR l rs)
  | _, [] => rfl
  | l, x :: rs => endR_snoc r (lineAfter x.2.2 l) rs
theorem stepsR_snoc (r : Nat × Nat × Span) : ∀ (rs : List (Nat × Nat × Span)), stepsR (rs ++ [r]) = stepsR rs + (r.2.1 - r.1)
  | [] => by show _ + 0 = 0 + _; omega
  | x :: rs => by
    show (x.2.1 - x.1) + stepsR (rs ++ [r]) = (x.2.1 - x.1) + stepsR rs + (r.2.1 - r.1)
    rw [stepsR_snoc r rs]
    omega
theorem allRows_snoc (r : Nat × Nat × Span) : ∀ (l : Int) (rs : List (Nat × Nat × Span)), allRows (rs ++ [r]) l = allRows rs l ++ runRows r.2.2 (r.2.1 - r.1) (r.2.1 - r.1) (endR l rs)
  | l, [] => by
    show runRows _ _ _ l ++ [] = [] ++ _
    rw [List.append_nil]
    rfl
  | l, x :: rs => by
    show runRows _ _ _ l ++ allRows (rs ++ [r]) (lineAfter x.2.2 l) = (runRows _ _ _ l ++ allRows rs (lineAfter x.2.2 l)) ++ _
    rw [allRows_snoc r (lineAfter x.2.2 l) rs, List.append_assoc]
    rfl
theorem rowBytes_app (a b : List Row) : rowBytes (a ++ b) = rowBytes a ++ rowBytes b := by
  unfold rowBytes
  rw [List.flatMap_append]
theorem rowSpans_app (a b : List Row) : rowSpans (a ++ b) = rowSpans a ++ rowSpans b := by
  unfold rowSpans
  rw [List.flatMap_append]
theorem runRows_len {s : Span} (hs : SpanOk s) : ∀ (f n : Nat) (l : Int), 1 ≤ l → l ≤ 2147483647 → (rowBytes (runRows s f n l)).length ≤ 29 * n
  | 0, n, l, _, _ => Nat.zero_le _
  | f + 1, n, l, l1, l2 => by
    by_cases h : n = 0
    · subst h
      exact Nat.le_refl _
    · have e1 : runRows s (f + 1) n l = ⟨0, min n 8, s, (128 + 8 * ((formB s l).1 : Int) + ((min n 8 - 1 : Nat) : Int)) :: (formB s l).2⟩ :: runRows s f (n - min n 8) (lineAfter s l) := if_neg h
      have ha := after_ok hs l1 l2
      have ih := runRows_len hs f (n - min n 8) (lineAfter s l) ha.1 ha.2
      have h28 := (formB_ent hs l1 l2).2.2.1
      rw [e1]
      show (((128 + 8 * ((formB s l).1 : Int) + ((min n 8 - 1 : Nat) : Int)) :: (formB s l).2) ++ rowBytes (runRows s f (n - min n 8) (lineAfter s l))).length ≤ _
      rw [List.length_append, List.length_cons]
      omega
/-- the entries of one run are read again -/
theorem runRows_ok {s : Span} (hs : SpanOk s) : ∀ (f n : Nat) (l : Int) (st : Nat) (q : List Row), n ≤ f → 1 ≤ l → l ≤ 2147483647 → (∀ st, RowsOk (if n = 0 then l else lineAfter s l) st (resetR st q)) → RowsOk l st (resetR st (runRows s f n l ++ q))
  | 0, n, l, st, q, hn, _, _, hq => by
    obtain rfl : n = 0 := by omega
    exact hq st
  | f + 1, n, l, st, q, hn, l1, l2, hq => by
    by_cases h : n = 0
    · subst h
      exact hq st
    · have e1 : runRows s (f + 1) n l = ⟨0, min n 8, s, (128 + 8 * ((formB s l).1 : Int) + ((min n 8 - 1 : Nat) : Int)) :: (formB s l).2⟩ :: runRows s f (n - min n 8) (lineAfter s l) := if_neg h
      have ha := after_ok hs l1 l2
      rw [e1]
      have E := (formB_ent hs l1 l2).2.2.2 (min n 8 - 1) (by omega)
      have e8 : min n 8 - 1 + 1 = min n 8 := by omega
      rw [e8] at E
      refine ⟨rfl, E, runRows_ok hs f (n - min n 8) (lineAfter s l) (st + min n 8) q (by omega) ha.1 ha.2 fun st => ?_⟩
      have hq := hq st
      rw [if_neg h] at hq
      split
      · exact hq
      · rw [after_after]
        exact hq
theorem runRows_spans {s : Span} : ∀ (f n : Nat) (l : Int), n ≤ f → rowSpans (runRows s f n l) = List.replicate n s
  | 0, n, l, hn => by
    obtain rfl : n = 0 := by omega
    rfl
  | f + 1, n, l, hn => by
    by_cases h : n = 0
    · subst h
      rfl
    · have e1 : runRows s (f + 1) n l = ⟨0, min n 8, s, (128 + 8 * ((formB s l).1 : Int) + ((min n 8 - 1 : Nat) : Int)) :: (formB s l).2⟩ :: runRows s f (n - min n 8) (lineAfter s l) := if_neg h
      rw [e1]
      show List.replicate (min n 8) s ++ rowSpans (runRows s f (n - min n 8) (lineAfter s l)) = _
      rw [runRows_spans f (n - min n 8) _ (by omega), List.replicate_append_replicate]
      congr 1
      omega
theorem stepsR_take (rs : List (Nat × Nat × Span)) (i : Nat) : stepsR (rs.take i) ≤ stepsR rs := by
  induction rs generalizing i with
  | nil => rw [List.take_nil]; exact Nat.le_refl _
  | cons r rs ih =>
    cases i with
    | zero => exact Nat.zero_le _
    | succ i =>
      have := ih i
      show (r.2.1 - r.1) + stepsR (rs.take i) ≤ (r.2.1 - r.1) + stepsR rs
      omega
def spansR (rs : List (Nat × Nat × Span)) : List Span := rs.flatMap fun r => List.replicate (r.2.1 - r.1) r.2.2
theorem allRows_ok : ∀ (rs : List (Nat × Nat × Span)) (l : Int) (st : Nat), (∀ r ∈ rs, r.1 < r.2.1 ∧ SpanOk r.2.2) → 1 ≤ l → l ≤ 2147483647 → RowsOk l st (resetR st (allRows rs l))
  | [], _, _, _, _, _ => True.intro
  | r :: rs, l, st, h, l1, l2 => by
    have hr := h r (List.mem_cons_self ..)
    have ha := after_ok hr.2 l1 l2
    refine runRows_ok hr.2 (r.2.1 - r.1) (r.2.1 - r.1) l st _ (Nat.le_refl _) l1 l2 fun st => ?_
    rw [if_neg (by have := hr.1; omega)]
    exact allRows_ok rs _ st (fun x hx => h x (List.mem_cons_of_mem _ hx)) ha.1 ha.2
theorem allRows_spans : ∀ (rs : List (Nat × Nat × Span)) (l : Int), rowSpans (allRows rs l) = spansR rs
  | [], _ => rfl
  | r :: rs, l => by
    show rowSpans (runRows _ _ _ l ++ allRows rs (lineAfter r.2.2 l)) = List.replicate (r.2.1 - r.1) r.2.2 ++ spansR rs
    rw [rowSpans_app, runRows_spans _ _ _ (Nat.le_refl _), allRows_spans]
theorem allRows_len : ∀ (rs : List (Nat × Nat × Span)) (l : Int), (∀ r ∈ rs, SpanOk r.2.2) → 1 ≤ l → l ≤ 2147483647 → (rowBytes (allRows rs l)).length ≤ 29 * stepsR rs
  | [], _, _, _, _ => Nat.zero_le _
  | r :: rs, l, h, l1, l2 => by
    have hr := h r (List.mem_cons_self ..)
    have ha := after_ok hr l1 l2
    have h1 := runRows_len hr (r.2.1 - r.1) (r.2.1 - r.1) l l1 l2
    have h2 := allRows_len rs _ (fun x hx => h x (List.mem_cons_of_mem _ hx)) ha.1 ha.2
    show (rowBytes (runRows _ _ _ l ++ allRows rs (lineAfter r.2.2 l))).length ≤ 29 * ((r.2.1 - r.1) + stepsR rs)
    rw [rowBytes_app, List.length_append]
    omega
/-! ### the ranges of equal neighbours -/
section
variable {α : Type} [DecidableEq α]
def grp : List α → List (Nat × α)
  | [] => []
  | x :: xs => match grp xs with
    | [] => [(1, x)]
    | (n, y) :: gs => if y = x then (n + 1, y) :: gs else (1, x) :: (n, y) :: gs
def posG : Nat → List (Nat × α) → List (Nat × Nat × α)
  | _, [] => []
  | st, g :: gs => (st, st + g.1, g.2) :: posG (st + g.1) gs
def rgsF (st : Nat) (xs : List α) : List (Nat × Nat × α) := posG st (grp xs)
theorem grp_head {x : α} {xs : List α} : ∃ n gs, grp (x :: xs) = (n + 1, x) :: gs := by
  show ∃ n gs, (match grp xs with | [] => [(1, x)] | (n, y) :: gs => if y = x then (n + 1, y) :: gs else (1, x) :: (n, y) :: gs) = (n + 1, x) :: gs
  cases grp xs with
  | nil => exact ⟨0, [], rfl⟩
  | cons g gs =>
    obtain ⟨n, y⟩ := g
    dsimp only
    by_cases h : y = x
    · subst h
      exact ⟨n, gs, if_pos rfl⟩
    · exact ⟨0, _, if_neg h⟩
theorem grp_new {x : α} {xs : List α} (h : xs.head? ≠ some x) : grp (x :: xs) = (1, x) :: grp xs := by
  cases xs with
  | nil => rfl
  | cons y ys =>
    obtain ⟨n, gs, e⟩ := grp_head (x := y) (xs := ys)
    show (match grp (y :: ys) with | [] => [(1, x)] | (n, y) :: gs => if y = x then (n + 1, y) :: gs else (1, x) :: (n, y) :: gs) = _
    rw [e]
    exact if_neg fun z => h (congrArg some z)
theorem grp_old {x : α} {xs : List α} {n : Nat} {gs : List (Nat × α)} (h : grp xs = (n, x) :: gs) : grp (x :: xs) = (n + 1, x) :: gs := by
  show (match grp xs with | [] => [(1, x)] | (n, y) :: gs => if y = x then (n + 1, y) :: gs else (1, x) :: (n, y) :: gs) = _
  rw [h]
  exact if_pos rfl
theorem grp_run {x : α} {xs : List α} (h : xs.head? ≠ some x) : ∀ d : Nat, grp (List.replicate (d + 1) x ++ xs) = (d + 1, x) :: grp xs
  | 0 => grp_new h
  | d + 1 => grp_old (grp_run h d)
theorem grp_add {x : α} {xs : List α} {n : Nat} {gs : List (Nat × α)} (h : grp xs = (n, x) :: gs) : ∀ d : Nat, grp (List.replicate d x ++ xs) = (n + d, x) :: gs
  | 0 => h
  | d + 1 => by
    show grp (x :: (List.replicate d x ++ xs)) = _
    exact grp_old (grp_add h d)
theorem rgs_run {x : α} {xs : List α} (h : xs.head? ≠ some x) (st d : Nat) : rgsF st (List.replicate (d + 1) x ++ xs) = (st, st + (d + 1), x) :: rgsF (st + (d + 1)) xs := by
  unfold rgsF
  rw [grp_run h]
  rfl
/-- a text of values is empty, or a maximal run and the rest -/
theorem runs_cases : ∀ xs : List α, xs = [] ∨ ∃ n x ys, xs = List.replicate (n + 1) x ++ ys ∧ ys.head? ≠ some x ∧ grp xs = (n + 1, x) :: grp ys
  | [] => .inl rfl
  | x :: xs => by
    refine .inr ?_
    rcases runs_cases xs with rfl | ⟨n, y, ys, e1, e2, e3⟩
    · exact ⟨0, x, [], rfl, (fun z => nomatch z), rfl⟩
    · by_cases h : y = x
      · subst h
        exact ⟨n + 1, y, ys, by rw [e1]; rfl, e2, grp_old e3⟩
      · refine ⟨0, x, xs, rfl, ?_, ?_⟩
        · rw [e1]
          exact fun z => h (Option.some.inj z)
        · refine grp_new ?_
          rw [e1]
          exact fun z => h (Option.some.inj z)
end
abbrev rgs (ss : List Span) : List (Nat × Nat × Span) := rgsF 0 ss
theorem posG_spans : ∀ (gs : List (Nat × Span)) (st : Nat), spansR (posG st gs) = gs.flatMap fun g => List.replicate g.1 g.2
  | [], _ => rfl
  | g :: gs, st => by
    show List.replicate (st + g.1 - st) g.2 ++ spansR (posG (st + g.1) gs) = List.replicate g.1 g.2 ++ _
    rw [posG_spans gs, Nat.add_sub_cancel_left]
    rfl
theorem grp_spans {α : Type} [DecidableEq α] : ∀ (xs : List α), (grp xs).flatMap (fun g => List.replicate g.1 g.2) = xs
  | [] => rfl
  | x :: xs => by
    have ih := grp_spans xs
    show (match grp xs with | [] => [(1, x)] | (n, y) :: gs => if y = x then (n + 1, y) :: gs else (1, x) :: (n, y) :: gs).flatMap _ = _
    cases e : grp xs with
    | nil =>
      rw [e] at ih
      show [x] = _
      rw [← ih]
      rfl
    | cons g gs =>
      obtain ⟨n, y⟩ := g
      rw [e] at ih
      dsimp only
      by_cases h : y = x
      · subst h
        rw [if_pos rfl, ← ih]
        rfl
      · rw [if_neg h, ← ih]
        rfl
theorem rgs_spans (ss : List Span) (st : Nat) : spansR (rgsF st ss) = ss := (posG_spans _ _).trans (grp_spans ss)
theorem grp_pos {α : Type} [DecidableEq α] : ∀ (xs : List α), ∀ g ∈ grp xs, 0 < g.1 ∧ g.2 ∈ xs
  | [], g, h => by cases h
  | x :: xs, g, h => by
    have ih := grp_pos xs
    have h : g ∈ (match grp xs with | [] => [(1, x)] | (n, y) :: gs => if y = x then (n + 1, y) :: gs else (1, x) :: (n, y) :: gs) := h
    cases e : grp xs with
    | nil =>
      rw [e] at h
      have h := List.mem_singleton.mp h
      subst h
      exact ⟨Nat.one_pos, List.mem_cons_self ..⟩
    | cons z gs =>
      obtain ⟨n, y⟩ := z
      rw [e] at h ih
      dsimp only at h
      by_cases hy : y = x
      · rw [if_pos hy] at h
        rcases List.mem_cons.mp h with rfl | h
        · exact ⟨Nat.succ_pos _, by subst hy; exact List.mem_cons_self ..⟩
        · have := ih g (List.mem_cons_of_mem _ h)
          exact ⟨this.1, List.mem_cons_of_mem _ this.2⟩
      · rw [if_neg hy] at h
        rcases List.mem_cons.mp h with rfl | h
        · exact ⟨Nat.one_pos, List.mem_cons_self ..⟩
        · have := ih g h
          exact ⟨this.1, List.mem_cons_of_mem _ this.2⟩
theorem posG_mem {α : Type} : ∀ (gs : List (Nat × α)) (st : Nat), ∀ r ∈ posG st gs, ∃ g ∈ gs, r.2.1 = r.1 + g.1 ∧ r.2.2 = g.2
  | [], _, r, h => by cases h
  | g :: gs, st, r, h => by
    rcases List.mem_cons.mp h with rfl | h
    · exact ⟨g, List.mem_cons_self .., rfl, rfl⟩
    · obtain ⟨y, h1, h2⟩ := posG_mem gs _ r h
      exact ⟨y, List.mem_cons_of_mem _ h1, h2⟩
theorem rgs_mem {α : Type} [DecidableEq α] {xs : List α} {st : Nat} {r : Nat × Nat × α} (h : r ∈ rgsF st xs) : r.1 < r.2.1 ∧ r.2.2 ∈ xs := by
  obtain ⟨g, h1, h2, h3⟩ := posG_mem _ _ r h
  have := grp_pos xs g h1
  exact ⟨by omega, by rw [h3]; exact this.2⟩
theorem stepsR_spans : ∀ rs : List (Nat × Nat × Span), stepsR rs = (spansR rs).length
  | [] => rfl
  | r :: rs => by
    show (r.2.1 - r.1) + stepsR rs = (List.replicate (r.2.1 - r.1) r.2.2 ++ spansR rs).length
    rw [List.length_append, List.length_replicate, stepsR_spans rs]
theorem rgs_steps (ss : List Span) : stepsR (rgs ss) = ss.length := by rw [stepsR_spans, rgs_spans]
theorem posG_len {α : Type} : ∀ (gs : List (Nat × α)) (st : Nat), (posG st gs).length = gs.length
  | [], _ => rfl
  | g :: gs, st => congrArg (· + 1) (posG_len gs _)
theorem grp_len {α : Type} [DecidableEq α] : ∀ (xs : List α), (grp xs).length ≤ xs.length
  | [] => Nat.le_refl _
  | x :: xs => by
    have ih := grp_len xs
    show (match grp xs with | [] => [(1, x)] | (n, y) :: gs => if y = x then (n + 1, y) :: gs else (1, x) :: (n, y) :: gs).length ≤ xs.length + 1
    cases e : grp xs with
    | nil => show 1 ≤ _; omega
    | cons z gs =>
      obtain ⟨n, y⟩ := z
      rw [e, List.length_cons] at ih
      dsimp only
      split
      · rw [List.length_cons]; omega
      · rw [List.length_cons, List.length_cons]; omega
theorem rgs_len {α : Type} [DecidableEq α] (xs : List α) (st : Nat) : (rgsF st xs).length ≤ xs.length := by
  unfold rgsF
  rw [posG_len]
  exact grp_len xs
/-- the rows that are written for these spans -/
def wRows (ss : List Span) (l : Int) : List Row := resetR 0 (allRows (rgs ss) l)
theorem wRows_ok {ss : List Span} {l : Int} (h : ∀ s ∈ ss, SpanOk s) (l1 : 1 ≤ l) (l2 : l ≤ 2147483647) : RowsOk l 0 (wRows ss l) := allRows_ok _ l 0 (fun r hr => ⟨(rgs_mem hr).1, h _ (rgs_mem hr).2⟩) l1 l2
theorem wRows_spans (ss : List Span) (l : Int) : rowSpans (wRows ss l) = ss := by
  unfold wRows
  rw [resetR_spans, allRows_spans, rgs_spans]
theorem wRows_bytes (ss : List Span) (l : Int) : rowBytes (wRows ss l) = rowBytes (allRows (rgs ss) l) := resetR_bytes
theorem wRows_len {ss : List Span} {l : Int} (h : ∀ s ∈ ss, SpanOk s) (l1 : 1 ≤ l) (l2 : l ≤ 2147483647) : (rowBytes (wRows ss l)).length ≤ 29 * ss.length := by
  rw [wRows_bytes]
  have := allRows_len (rgs ss) l (fun r hr => h _ (rgs_mem hr).2) l1 l2
  rw [rgs_steps] at this
  exact this
end Lay

namespace Lay
open PySem PySem.Spec PyProof.Rows L2
/-! ## no reading is shorter than what is written -/
theorem groups_le : ∀ (b a : Nat), a ≤ b → (groups a).length ≤ (groups b).length
  | b, a, h => by
    by_cases h1 : a < 64
    · rw [groups_small h1]
      exact groups_pos b
    · rw [groups_more h1, groups_more (n := b) (by omega), List.length_cons, List.length_cons]
      have := groups_le (b / 64) (a / 64) (Nat.div_le_div_right h)
      omega
termination_by b => b
decreasing_by omega
theorem numK_min {bs : List Int} : ∀ {k i : Nat} {n j : Nat}, numK bs k i = .ok (n, j) → i + (groups n).length ≤ j
  | 0, i, n, j, h => by
    obtain ⟨g, h1, h2⟩ := res_ok (show (further bs i).bind _ = _ from h)
    have h2 : (if 63 < g then Res.bad i "number" else Res.ok (g.toNat, i + 1)) = .ok (n, j) := h2
    split at h2
    · cases h2
    · cases h2
      rw [groups_small (by omega)]
      exact Nat.le_refl _
  | k + 1, i, n, j, h => by
    obtain ⟨g, h1, h2⟩ := res_ok (show (further bs i).bind _ = _ from h)
    have h2 : (if 63 < g then (numK bs k (i + 1)).bind fun p => Res.ok (g.toNat % 64 + 64 * p.1, p.2) else Res.ok (g.toNat, i + 1)) = .ok (n, j) := h2
    split at h2
    · obtain ⟨p, h3, h4⟩ := res_ok h2
      cases h4
      have ih := numK_min (n := p.1) (j := p.2) h3
      by_cases hs : g.toNat % 64 + 64 * p.1 < 64
      · rw [groups_small hs]
        show i + 1 ≤ p.2
        omega
      · rw [groups_more hs, List.length_cons]
        have e : (g.toNat % 64 + 64 * p.1) / 64 = p.1 := by omega
        rw [e]
        omega
    · cases h2
      rw [groups_small (by omega)]
      exact Nat.le_refl _
theorem number_min {bs : List Int} {i n j : Nat} (h : number bs i = .ok (n, j)) : i + (groups n).length ≤ j := numK_min h
theorem fold_sgn_le (n : Nat) : fold1 (sgn n) ≤ n := by
  unfold sgn fold1
  split <;> split <;> omega
theorem signed_min {bs : List Int} {i j : Nat} {d : Int} (h : signed bs i = .ok (d, j)) : i + (groups (fold1 d)).length ≤ j := by
  obtain ⟨p, h1, h2⟩ := res_ok (show (number bs i).bind _ = _ from h)
  cases h2
  have h3 := number_min (n := p.1) (j := p.2) h1
  have h4 := groups_le _ _ (fold_sgn_le p.1)
  show i + (groups (fold1 (sgn p.1))).length ≤ p.2
  omega
theorem colOf_num {n : Nat} {c : Int} (h : colOf n = some c) : (c + 1).toNat = n ∧ 0 ≤ c := by
  unfold colOf at h
  split at h
  · cases h
  · have := Option.some.inj h
    omega
theorem inB_iff {i lo hi : Int} : inB i lo hi = true ↔ lo ≤ i ∧ i ≤ hi := by
  unfold inB
  rw [Bool.and_eq_true, decide_eq_true_eq, decide_eq_true_eq]
theorem chk_pos {s : Span} {i : Nat} (h : chkPos s i = .ok ()) : SpanOk s := by
  cases s with
  | none => exact True.intro
  | some p =>
    obtain ⟨l, e, c, d⟩ := p
    unfold chkPos at h
    dsimp only at h
    split at h
    · cases h
    · split at h
      · cases h
      · rename_i h1 h2
        have h2 : posB ⟨l, e, c, d⟩ = true := by
          cases hh : posB ⟨l, e, c, d⟩ with
          | false => exact absurd hh h2
          | true => rfl
        have h2 : span4 (.int l) (.int e) (ov c) (ov d) = true := h2
        unfold span4 at h2
        split at h2
        · rename_i h3
          rw [Bool.and_eq_true] at h3
          obtain ⟨h3, h4⟩ := h3
          have h3 : (decide (1 ≤ l) && decide (l ≤ 2147483647)) = true := h3
          have h4 : (decide (l ≤ e) && decide (e ≤ 2147483647)) = true := h4
          simp only [Bool.and_eq_true, decide_eq_true_eq] at h3 h4
          split at h2
          · rename_i h5
            have h2 := of_decide_eq_true h2
            have hc : c = none := by
              cases c with
              | none => rfl
              | some c => exact absurd h5.1 (fun z => by cases z)
            have hd : d = none := by
              cases d with
              | none => rfl
              | some c => exact absurd h5.2 (fun z => by cases z)
            exact ⟨h3.1, h4.1, h4.2, .inl ⟨hc, hd, h2⟩⟩
          · split at h2
            · rename_i h6
              rw [Bool.and_eq_true] at h6
              obtain ⟨c', hc, c0, c1⟩ := inR_int h6.1
              obtain ⟨d', hd, d0, d1⟩ := inR_int h6.2
              have hc : c = some c' := by
                cases c with
                | none => cases hc
                | some c => exact congrArg some (v_int_inj hc)
              have hd : d = some d' := by
                cases d with
                | none => cases hd
                | some c => exact congrArg some (v_int_inj hd)
              subst hc hd
              have h2 : (decide (l < e) || decide (c' ≤ d')) = true := h2
              rw [Bool.or_eq_true, decide_eq_true_eq, decide_eq_true_eq] at h2
              refine ⟨h3.1, h4.1, h4.2, .inr ⟨c', d', rfl, rfl, c0, c1, d0, d1, fun z => ?_⟩⟩
              have z : e = l := z
              rcases h2 with h2 | h2
              · omega
              · exact h2
            · cases h2
        · cases h2
theorem position_min {bs : List Int} {i f j : Nat} {l : Int} {s : Span} (hb : ∀ b ∈ bs, 0 ≤ b) (hf : f ≤ 15) (h : position bs i f l = .ok (s, j)) (ok : SpanOk s) : i + (formB s l).2.length ≤ j := by
  unfold position at h
  split at h
  · cases h
    exact Nat.le_refl _
  split at h
  · unfold longPos at h
    obtain ⟨p1, a1, h⟩ := res_ok h
    obtain ⟨p2, a2, h⟩ := res_ok h
    obtain ⟨p3, a3, h⟩ := res_ok h
    obtain ⟨p4, a4, h⟩ := res_ok h
    cases h
    have m1 := signed_min (d := p1.1) (j := p1.2) a1
    have m2 := number_min (n := p2.1) (j := p2.2) a2
    have m3 := number_min (n := p3.1) (j := p3.2) a3
    have m4 := number_min (n := p4.1) (j := p4.2) a4
    have g1 := groups_pos (fold1 p1.1)
    have g2 := groups_pos p2.1
    have g3 := groups_pos p3.1
    have g4 := groups_pos p4.1
    have ok : Pos.ok ⟨l + p1.1, l + p1.1 + (p2.1 : Int), colOf p3.1, colOf p4.1⟩ := ok
    have ex : l + p1.1 - l = p1.1 := by omega
    rcases ok.cd with ⟨h1, h2, h3⟩ | ⟨c, d, h1, h2, _⟩
    · have h1 : colOf p3.1 = none := h1
      have h2 : colOf p4.1 = none := h2
      rw [h1, h2]
      show i + (groups (fold1 (l + p1.1 - l))).length ≤ p4.2
      rw [ex]
      omega
    · have h1 : colOf p3.1 = some c := h1
      have h2 : colOf p4.1 = some d := h2
      rw [h1, h2]
      obtain ⟨n1, _⟩ := colOf_num h1
      obtain ⟨n2, _⟩ := colOf_num h2
      show i + (if _ then _ else if _ then _ else _ : Nat × List Int).2.length ≤ p4.2
      split
      · show i + 1 ≤ _
        omega
      · split
        · show i + 2 ≤ _
          omega
        · show i + (groups (fold1 (l + p1.1 - l)) ++ groups (l + p1.1 + (p2.1 : Int) - (l + p1.1)).toNat ++ groups (c + 1).toNat ++ groups (d + 1).toNat).length ≤ _
          have e2 : (l + p1.1 + (p2.1 : Int) - (l + p1.1)).toNat = p2.1 := by omega
          rw [ex, e2, n1, n2]
          simp only [List.length_append]
          omega
  split at h
  · obtain ⟨p1, a1, h⟩ := res_ok h
    cases h
    have m1 := signed_min (d := p1.1) (j := p1.2) a1
    have ex : l + p1.1 - l = p1.1 := by omega
    show i + (groups (fold1 (l + p1.1 - l))).length ≤ p1.2
    rw [ex]
    exact m1
  · obtain ⟨a, a1, h⟩ := res_ok h
    obtain ⟨e1, a2, a3⟩ := further_ok a1
    have a0 : 0 ≤ a := hb a (List.mem_of_getElem? e1)
    split at h
    · cases h
      rename_i h10
      show i + (if _ then _ else if _ then _ else _ : Nat × List Int).2.length ≤ i + 1
      rw [if_pos ⟨rfl, by show l - l = 0; omega, by omega, by omega⟩]
      exact Nat.le_refl _
    · obtain ⟨b, b1, h⟩ := res_ok h
      obtain ⟨e2, b2, b3⟩ := further_ok b1
      cases h
      show i + (if _ then _ else if _ then _ else _ : Nat × List Int).2.length ≤ i + 2
      split
      · show i + 1 ≤ _
        omega
      · rw [if_pos ⟨rfl, by show 0 ≤ l + (f : Int) - 10 - l; omega, by show l + (f : Int) - 10 - l ≤ 2; omega, by omega⟩]
        exact Nat.le_refl _
theorem entry_min {bs : List Int} {i j : Nat} {l : Int} {e : Ent} (hb : ∀ b ∈ bs, 0 ≤ b ∧ b < 256) (h : entry bs i l = .ok (e, j)) : SpanOk e.span ∧ 1 ≤ e.steps ∧ e.steps ≤ 8 ∧ i + 1 + (formB e.span l).2.length ≤ j := by
  unfold entry at h
  split at h
  · cases h
  · rename_i g hg
    have g1 := hb g (List.mem_of_getElem? hg)
    split at h
    · cases h
    · obtain ⟨p, h1, h⟩ := res_ok h
      obtain ⟨u, h2, h⟩ := res_ok h
      cases h
      have ok := chk_pos h2
      refine ⟨ok, by show 1 ≤ g.toNat % 8 + 1; omega, by show g.toNat % 8 + 1 ≤ 8; omega, ?_⟩
      exact position_min (s := p.1) (j := p.2) (fun b h => (hb b h).1) (by omega) h1 ok
/-! ### the length of what is written -/
def wLen (ss : List Span) (l : Int) : Nat := (rowBytes (allRows (rgs ss) l)).length
theorem wLen_eq (ss : List Span) (l : Int) : (rowBytes (wRows ss l)).length = wLen ss l := congrArg List.length (wRows_bytes ss l)
def aRows : List (Nat × Span) → Int → List Row
  | [], _ => []
  | g :: gs, l => runRows g.2 g.1 g.1 l ++ aRows gs (lineAfter g.2 l)
theorem allRows_pos : ∀ (gs : List (Nat × Span)) (st : Nat) (l : Int), allRows (posG st gs) l = aRows gs l
  | [], _, _ => rfl
  | g :: gs, st, l => by
    show runRows g.2 (st + g.1 - st) (st + g.1 - st) l ++ allRows (posG (st + g.1) gs) (lineAfter g.2 l) = runRows g.2 g.1 g.1 l ++ aRows gs (lineAfter g.2 l)
    rw [Nat.add_sub_cancel_left, allRows_pos]
theorem wLen_grp (ss : List Span) (l : Int) : wLen ss l = (rowBytes (aRows (grp ss) l)).length := congrArg (fun r => (rowBytes r).length) (allRows_pos (grp ss) 0 l)
theorem run_step {s : Span} {f n : Nat} {l : Int} (h : n ≠ 0) : (rowBytes (runRows s (f + 1) n l)).length = 1 + (formB s l).2.length + (rowBytes (runRows s f (n - min n 8) (lineAfter s l))).length := by
  have e1 : runRows s (f + 1) n l = ⟨0, min n 8, s, (128 + 8 * ((formB s l).1 : Int) + ((min n 8 - 1 : Nat) : Int)) :: (formB s l).2⟩ :: runRows s f (n - min n 8) (lineAfter s l) := if_neg h
  rw [e1]
  show (((128 + 8 * ((formB s l).1 : Int) + ((min n 8 - 1 : Nat) : Int)) :: (formB s l).2) ++ rowBytes (runRows s f (n - min n 8) (lineAfter s l))).length = _
  rw [List.length_append, List.length_cons]
  omega
theorem run_len {s : Span} {l : Int} (hl : lineAfter s l = l) : ∀ (f n : Nat), n ≤ f → (rowBytes (runRows s f n l)).length = (n + 7) / 8 * (1 + (formB s l).2.length)
  | 0, n, h => by
    obtain rfl : n = 0 := by omega
    show 0 = (0 + 7) / 8 * _
    rw [Nat.zero_mul]
  | f + 1, n, h => by
    by_cases hn : n = 0
    · subst hn
      show 0 = (0 + 7) / 8 * _
      rw [Nat.zero_mul]
    · rw [run_step hn, hl, run_len hl f (n - min n 8) (by omega)]
      have e : (n + 7) / 8 = (n - min n 8 + 7) / 8 + 1 := by omega
      rw [e, Nat.add_mul, Nat.one_mul]
      omega
theorem run_len1 {s : Span} {l : Int} {n : Nat} (h : 0 < n) : (rowBytes (runRows s n n l)).length = 1 + (formB s l).2.length + (n - 1) / 8 * (1 + (formB s (lineAfter s l)).2.length) := by
  obtain ⟨f, rfl⟩ : ∃ f, n = f + 1 := ⟨n - 1, by omega⟩
  rw [run_step (by omega), run_len (after_after s l) f _ (by omega)]
  have e : (f + 1 - min (f + 1) 8 + 7) / 8 = (f + 1 - 1) / 8 := by omega
  rw [e]
theorem wLen_run {x : Span} {xs : List Span} {l : Int} {n : Nat} (h : xs.head? ≠ some x) : wLen (List.replicate (n + 1) x ++ xs) l = 1 + (formB x l).2.length + n / 8 * (1 + (formB x (lineAfter x l)).2.length) + wLen xs (lineAfter x l) := by
  rw [wLen_grp, grp_run h, wLen_grp]
  show (rowBytes (runRows x (n + 1) (n + 1) l ++ aRows (grp xs) (lineAfter x l))).length = _
  rw [rowBytes_app, List.length_append, run_len1 (Nat.succ_pos n)]
  rfl
/-- an entry ahead makes it longer by that entry at most -/
theorem wLen_cons {x : Span} {xs : List Span} {l : Int} {k : Nat} (h1 : 1 ≤ k) (h8 : k ≤ 8) : wLen (List.replicate k x ++ xs) l ≤ 1 + (formB x l).2.length + wLen xs (lineAfter x l) := by
  rcases runs_cases xs with rfl | ⟨n, y, ys, e1, e2, e3⟩
  · obtain ⟨k, rfl⟩ : ∃ m, k = m + 1 := ⟨k - 1, by omega⟩
    rw [wLen_run (xs := []) (fun z => nomatch z)]
    have : k / 8 = 0 := by omega
    rw [this, Nat.zero_mul]
    omega
  · by_cases hy : y = x
    · subst hy
      rw [e1]
      have e4 : List.replicate k y ++ (List.replicate (n + 1) y ++ ys) = List.replicate (k + n + 1) y ++ ys := by
        rw [← List.append_assoc, List.replicate_append_replicate]
        rfl
      rw [e4, wLen_run e2, wLen_run e2, after_after]
      have e5 : (k + n) / 8 ≤ n / 8 + 1 := by omega
      have e6 := Nat.mul_le_mul_right (1 + (formB y (lineAfter y l)).2.length) e5
      rw [Nat.add_mul, Nat.one_mul] at e6
      omega
    · have hh : xs.head? ≠ some x := by
        rw [e1]
        exact fun z => hy (Option.some.inj z)
      obtain ⟨k, rfl⟩ : ∃ m, k = m + 1 := ⟨k - 1, by omega⟩
      rw [wLen_run hh]
      have : k / 8 = 0 := by omega
      rw [this, Nat.zero_mul]
      omega
theorem entriesK_min {bs : List Int} (hb : ∀ b ∈ bs, 0 ≤ b ∧ b < 256) : ∀ {k i st : Nat} {l : Int} {es : List (Nat × Nat × Ent)}, entriesK bs k i st l = .ok es → i ≤ bs.length → (∀ s ∈ spansOf es, SpanOk s) ∧ i + wLen (spansOf es) l ≤ bs.length
  | 0, i, st, l, es, h, hi => by
    cases h
    exact ⟨(fun s hs => nomatch hs), hi⟩
  | k + 1, i, st, l, es, h, hi => by
    unfold entriesK at h
    split at h
    · obtain ⟨p, h1, h⟩ := res_ok h
      obtain ⟨r, h2, h⟩ := res_ok h
      cases h
      have m := entry_min (e := p.1) (j := p.2) hb h1
      have lt := entry_lt h1
      have ih := entriesK_min hb h2 lt.2
      have e : spansOf ((i, st, p.1) :: r) = List.replicate p.1.steps p.1.span ++ spansOf r := rfl
      rw [e]
      refine ⟨fun s hs => ?_, ?_⟩
      · rcases List.mem_append.mp hs with hs | hs
        · have := List.eq_of_mem_replicate hs
          rw [this]
          exact m.1
        · exact ih.1 s hs
      · have := wLen_cons (x := p.1.span) (xs := spansOf r) (l := l) m.2.1 m.2.2.1
        omega
    · cases h
      exact ⟨(fun s hs => nomatch hs), hi⟩
theorem entries_min {bs : List Int} {l : Int} {es : List (Nat × Nat × Ent)} (hb : ∀ b ∈ bs, 0 ≤ b ∧ b < 256) (h : entries bs l = .ok es) : (∀ s ∈ spansOf es, SpanOk s) ∧ wLen (spansOf es) l ≤ bs.length := by
  have := entriesK_min hb h (Nat.zero_le _)
  rwa [Nat.zero_add] at this
end Lay

namespace Lay
open PySem PySem.Spec PyProof.Rows L2
/-! ## what is written, entry by entry -/
def entryB (s : Span) (l : Int) (k : Nat) : List Int := (128 + 8 * ((formB s l).1 : Int) + ((k - 1 : Nat) : Int)) :: (formB s l).2
/-- the bytes that are written for these spans -/
def wB (ss : List Span) (l : Int) : List Int := rowBytes (allRows (rgs ss) l)
theorem wB_rows (ss : List Span) (l : Int) : rowBytes (wRows ss l) = wB ss l := wRows_bytes ss l
theorem wB_grp (ss : List Span) (l : Int) : wB ss l = rowBytes (aRows (grp ss) l) := congrArg rowBytes (allRows_pos (grp ss) 0 l)
theorem wB_nil (l : Int) : wB [] l = [] := rfl
theorem run_fuel {s : Span} : ∀ (f g n : Nat) (l : Int), n ≤ f → n ≤ g → runRows s f n l = runRows s g n l
  | 0, g, n, l, h1, h2 => by
    obtain rfl : n = 0 := by omega
    cases g <;> rfl
  | f + 1, 0, n, l, h1, h2 => by
    obtain rfl : n = 0 := by omega
    rfl
  | f + 1, g + 1, n, l, h1, h2 => by
    by_cases h : n = 0
    · subst h
      rfl
    · have e1 : ∀ f, runRows s (f + 1) n l = ⟨0, min n 8, s, (128 + 8 * ((formB s l).1 : Int) + ((min n 8 - 1 : Nat) : Int)) :: (formB s l).2⟩ :: runRows s f (n - min n 8) (lineAfter s l) := fun f => if_neg h
      rw [e1 f, e1 g, run_fuel f g _ _ (by omega) (by omega)]
theorem run_bytes {s : Span} {f n : Nat} {l : Int} (h : n ≠ 0) : rowBytes (runRows s (f + 1) n l) = entryB s l (min n 8) ++ rowBytes (runRows s f (n - min n 8) (lineAfter s l)) := by
  have e1 : runRows s (f + 1) n l = ⟨0, min n 8, s, (128 + 8 * ((formB s l).1 : Int) + ((min n 8 - 1 : Nat) : Int)) :: (formB s l).2⟩ :: runRows s f (n - min n 8) (lineAfter s l) := if_neg h
  rw [e1]
  rfl
/-- the first entry: as many equal spans as one entry can hold -/
theorem wB_step {s : Span} {rest : List Span} {k : Nat} {l : Int} (h1 : 1 ≤ k) (h8 : k ≤ 8) (h : k = 8 ∨ rest.head? ≠ some s) : wB (List.replicate k s ++ rest) l = entryB s l k ++ wB rest (lineAfter s l) := by
  obtain ⟨k, rfl⟩ : ∃ m, k = m + 1 := ⟨k - 1, by omega⟩
  by_cases hh : rest.head? = some s
  · have hk : k + 1 = 8 := h.resolve_right fun z => z hh
    rcases runs_cases rest with rfl | ⟨n, y, ys, e1, e2, e3⟩
    · cases hh
    · have hy : y = s := by
        rw [e1] at hh
        exact Option.some.inj hh
      subst hy
      have e4 : List.replicate (k + 1) y ++ rest = List.replicate (k + 1 + n + 1) y ++ ys := by
        rw [e1, ← List.append_assoc, List.replicate_append_replicate]
        rfl
      rw [e4, wB_grp, wB_grp, grp_run e2, e3]
      show rowBytes (runRows y (k + 1 + n + 1) (k + 1 + n + 1) l ++ aRows (grp ys) (lineAfter y l)) = _ ++ rowBytes (runRows y (n + 1) (n + 1) (lineAfter y l) ++ aRows (grp ys) (lineAfter y (lineAfter y l)))
      have e5 : min (k + 1 + n + 1) 8 = k + 1 := by omega
      have e6 : k + 1 + n + 1 - (k + 1) = n + 1 := by omega
      rw [rowBytes_app, rowBytes_app, run_bytes (Nat.succ_ne_zero _), e5, e6, after_after, run_fuel (k + 1 + n) (n + 1) (n + 1) _ (by omega) (Nat.le_refl _), List.append_assoc]
  · rw [wB_grp, wB_grp, grp_run hh]
    show rowBytes (runRows s (k + 1) (k + 1) l ++ aRows (grp rest) (lineAfter s l)) = _
    have e5 : min (k + 1) 8 = k + 1 := by omega
    rw [rowBytes_app, run_bytes (Nat.succ_ne_zero _), e5, Nat.sub_self]
    have e6 : rowBytes (runRows s k 0 (lineAfter s l)) = [] := by cases k <;> rfl
    rw [e6, List.append_nil]
end Lay

namespace Lay
open PySem PySem.Spec PyProof.Rows L2
/-! ## the same bytes behind another line -/
def movS (s : Span) (d : Int) : Span := match s with
  | none => none
  | some p => some ⟨p.l + d, p.e + d, p.c, p.d⟩
theorem movS_zero (s : Span) : movS s 0 = s := by
  cases s with
  | none => rfl
  | some p => show some _ = some p; rw [Int.add_zero, Int.add_zero]
def outS (s : Span) : Bool := match s with
  | none => false
  | some p => decide (p.l < 1) || decide (2147483647 < p.e)
theorem position_move {bs : List Int} {i f j : Nat} {l d : Int} {s : Span} (h : position bs i f l = .ok (s, j)) : position bs i f (l + d) = .ok (movS s d, j) := by
  have sp : ∀ (a b a' b' : Int) (c e : Option Int), a = a' → b = b' → (some ⟨a, b, c, e⟩ : Span) = some ⟨a', b', c, e⟩ := fun a b a' b' c e h1 h2 => by rw [h1, h2]
  unfold position at h ⊢
  split at h
  · rename_i h1
    rw [if_pos h1]
    cases h
    rfl
  rename_i n1
  rw [if_neg n1]
  split at h
  · rename_i h1
    rw [if_pos h1]
    unfold longPos at h ⊢
    obtain ⟨p1, a1, h⟩ := res_ok h
    obtain ⟨p2, a2, h⟩ := res_ok h
    obtain ⟨p3, a3, h⟩ := res_ok h
    obtain ⟨p4, a4, h⟩ := res_ok h
    cases h
    rw [a1]
    show (number bs p1.2).bind _ = _
    rw [a2]
    show (number bs p2.2).bind _ = _
    rw [a3]
    show (number bs p3.2).bind _ = _
    rw [a4]
    show Res.ok ((some ⟨l + d + p1.1, l + d + p1.1 + (p2.1 : Int), colOf p3.1, colOf p4.1⟩ : Span), p4.2) = Res.ok ((some ⟨l + p1.1 + d, l + p1.1 + (p2.1 : Int) + d, colOf p3.1, colOf p4.1⟩ : Span), p4.2)
    rw [sp _ _ _ _ _ _ (show l + d + p1.1 = l + p1.1 + d by omega) (show l + d + p1.1 + (p2.1 : Int) = l + p1.1 + (p2.1 : Int) + d by omega)]
  rename_i n2
  rw [if_neg n2]
  split at h
  · rename_i h1
    rw [if_pos h1]
    obtain ⟨p1, a1, h⟩ := res_ok h
    cases h
    rw [a1]
    show Res.ok ((some ⟨l + d + p1.1, l + d + p1.1, none, none⟩ : Span), p1.2) = Res.ok ((some ⟨l + p1.1 + d, l + p1.1 + d, none, none⟩ : Span), p1.2)
    rw [sp _ _ _ _ _ _ (show l + d + p1.1 = l + p1.1 + d by omega) (show l + d + p1.1 = l + p1.1 + d by omega)]
  · rename_i h1
    rw [if_neg h1]
    obtain ⟨a, a1, h⟩ := res_ok h
    rw [a1]
    split at h
    · rename_i h10
      cases h
      show (if f < 10 then _ else _) = _
      rw [if_pos h10]
      rfl
    · rename_i h10
      obtain ⟨b, b1, h⟩ := res_ok h
      cases h
      show (if f < 10 then _ else _) = _
      rw [if_neg h10, b1]
      show Res.ok ((some ⟨l + d + (f : Int) - 10, l + d + (f : Int) - 10, some a, some b⟩ : Span), i + 2) = Res.ok ((some ⟨l + (f : Int) - 10 + d, l + (f : Int) - 10 + d, some a, some b⟩ : Span), i + 2)
      rw [sp _ _ _ _ _ _ (show l + d + (f : Int) - 10 = l + (f : Int) - 10 + d by omega) (show l + d + (f : Int) - 10 = l + (f : Int) - 10 + d by omega)]
theorem entry_move {bs : List Int} {i j : Nat} {l d : Int} {e : Ent} (h : entry bs i l = .ok (e, j)) : entry bs i (l + d) = (chkPos (movS e.span d) i).bind fun _ => .ok (⟨e.steps, e.form, movS e.span d⟩, j) := by
  unfold entry at h ⊢
  split at h
  · cases h
  · rename_i g hg
    split at h
    · cases h
    · rename_i h1
      obtain ⟨p, h2, h⟩ := res_ok h
      obtain ⟨u, h3, h⟩ := res_ok h
      cases h
      have := position_move (d := d) (s := p.1) (j := p.2) h2
      show (if g < 128 then _ else _) = _
      rw [if_neg h1, this]
      rfl
theorem chk_move2 {s : Span} {d : Int} {i : Nat} (h : SpanOk s) : chkPos (movS s d) i = if outS (movS s d) = true then .bad i "line" else .ok () := by
  cases s with
  | none => rfl
  | some p =>
    have h : p.ok := h
    have y2 := h.le
    by_cases ho : p.l + d < 1 ∨ 2147483647 < p.e + d
    · have e1 : outS (movS (some p) d) = true := by
        show (decide (p.l + d < 1) || decide (2147483647 < p.e + d)) = true
        rw [Bool.or_eq_true, decide_eq_true_eq, decide_eq_true_eq]
        exact ho
      rw [if_pos e1]
      show (if (inB (p.l + d) 1 2147483647 && inB (p.e + d) 1 2147483647) = false then _ else _) = _
      rw [if_pos]
      cases hq : (inB (p.l + d) 1 2147483647 && inB (p.e + d) 1 2147483647) with
      | false => rfl
      | true =>
        rw [Bool.and_eq_true, inB_iff, inB_iff] at hq
        omega
    · have e1 : outS (movS (some p) d) = false := by
        show (decide (p.l + d < 1) || decide (2147483647 < p.e + d)) = false
        rw [decide_eq_false (by omega), decide_eq_false (by omega)]
        rfl
      rw [e1, if_neg (by decide)]
      refine chk_ok ?_
      show Pos.ok ⟨p.l + d, p.e + d, p.c, p.d⟩
      refine ⟨by show 1 ≤ p.l + d; omega, by show p.l + d ≤ p.e + d; omega, by show p.e + d ≤ 2147483647; omega, ?_⟩
      rcases h.cd with ⟨a, b, c⟩ | ⟨c, e, a1, a2, a3, a4, a5, a6, a7⟩
      · exact .inl ⟨a, b, by show p.e + d = p.l + d; omega⟩
      · exact .inr ⟨c, e, a1, a2, a3, a4, a5, a6, fun z => a7 (by have z : p.e + d = p.l + d := z; omega)⟩
theorem after_move (s : Span) (l d : Int) : lineAfter (movS s d) (l + d) = lineAfter s l + d := by
  cases s <;> rfl
/-- the spans with their lines moved, or the index of the first entry whose lines are out of range -/
def movDue (d : Int) : Nat → List Row → Res (List Span)
  | _, [] => .ok []
  | i, r :: rs => if outS (movS r.span d) = true then .bad i "line" else (movDue d (i + r.part.length) rs).bind fun t => .ok (List.replicate r.steps (movS r.span d) ++ t)
theorem entriesK_move {d : Int} : ∀ {rs : List Row} {l : Int} {st i k : Nat} {bs : List Int}, RowsOk l st rs → (∀ r ∈ rs, SpanOk r.span) → bs.drop i = rowBytes rs → rs.length ≤ k → (rs ≠ [] ∨ bs.length ≤ i) →
    (entriesK bs k i st (l + d)).bind (fun es => .ok (spansOf es)) = movDue d i rs
  | [], l, st, i, k, bs, _, _, hd, _, _ => by
    have hl : ¬ i < bs.length := by
      intro z
      have : (bs.drop i).length = 0 := by rw [hd]; rfl
      rw [List.length_drop] at this
      omega
    cases k with
    | zero => rfl
    | succ k =>
      unfold entriesK
      rw [if_neg hl]
      rfl
  | r :: rs, l, st, i, k, bs, h, hs, hd, hk, _ => by
    obtain ⟨h1, h2, h3⟩ := h
    have hd : bs.drop i = r.part ++ rowBytes rs := hd
    have hp := h2.pos
    have hlt : i < bs.length := by
      have : (bs.drop i).length = (r.part ++ rowBytes rs).length := by rw [hd]
      rw [List.length_drop, List.length_append] at this
      omega
    cases k with
    | zero => exact absurd hk (by rw [List.length_cons]; omega)
    | succ k =>
      obtain ⟨f, t, ep, _, _, _, _, _, he⟩ := h2
      have he := entry_move (d := d) (he bs i _ hd)
      have so := hs r (List.mem_cons_self ..)
      have he : entry bs i (l + d) = (chkPos (movS r.span d) i).bind fun _ => .ok (⟨r.steps, (f.toNat - 128) / 8, movS r.span d⟩, i + r.part.length) := he
      rw [chk_move2 so] at he
      unfold entriesK
      rw [if_pos hlt, he]
      show _ = if outS (movS r.span d) = true then Res.bad i "line" else (movDue d (i + r.part.length) rs).bind fun t => .ok (List.replicate r.steps (movS r.span d) ++ t)
      cases ho : outS (movS r.span d) with
      | true => rfl
      | false =>
        rw [if_neg (by decide), if_neg (by decide)]
        have ih := entriesK_move (d := d) (st := st + r.steps) (i := i + r.part.length) (k := k) (bs := bs) h3 (fun x hx => hs x (List.mem_cons_of_mem _ hx)) (drop_more hd) (by rw [List.length_cons] at hk; omega) (by
          cases rs with
          | nil =>
            refine .inr ?_
            have := drop_more hd
            have e2 : (bs.drop (i + r.part.length)).length = 0 := by rw [this]; rfl
            rw [List.length_drop] at e2
            omega
          | cons a b => exact .inl (fun z => nomatch z))
        rw [← ih]
        show ((entriesK bs k (i + r.part.length) (st + r.steps) (lineAfter (movS r.span d) (l + d))).bind _).bind _ = _
        rw [after_move]
        cases entriesK bs k (i + r.part.length) (st + r.steps) (lineAfter r.span l + d) with
        | bad j w => rfl
        | ok es => rfl
theorem entries_move {rs : List Row} {l d : Int} (h : RowsOk l 0 rs) (hs : ∀ r ∈ rs, SpanOk r.span) : (entries (rowBytes rs) (l + d)).bind (fun es => .ok (spansOf es)) = movDue d 0 rs := by
  unfold entries
  refine entriesK_move h hs rfl (rows_len h) ?_
  cases rs with
  | nil => exact .inr (Nat.le_refl _)
  | cons a b => exact .inl (fun z => nomatch z)
end Lay

namespace Lay
open PySem PySem.Spec PyProof.Rows L2
/-! ## spans behind an edit of the source -/
def mvL (x behind growth : Int) : Int := if behind ≤ x then x + growth else x
def mvS (s : Span) (start behind growth : Int) : Span := match s with
  | none => none
  | some p => if p.l < p.e + 1 ∧ p.l < behind ∧ start < p.e + 1 ∧ start < behind then none else some ⟨mvL p.l behind growth, mvL p.e behind growth, p.c, p.d⟩
theorem mvS_ok {s : Span} {start removed added : Int} (h : SpanOk s) (h1 : 1 ≤ start) (hr : 0 ≤ removed) (ha : 0 ≤ added) (hM : ∀ p, s = some p → mvL p.e (start + removed) (added - removed) ≤ 2147483647) : SpanOk (mvS s start (start + removed) (added - removed)) := by
  cases s with
  | none => trivial
  | some p =>
    have hM := hM p rfl
    obtain ⟨l, e, c, d⟩ := p
    have h : Pos.ok ⟨l, e, c, d⟩ := h
    have y1 : 1 ≤ l := h.l1
    have y2 : l ≤ e := h.le
    have y3 : e ≤ 2147483647 := h.eM
    have hM : mvL e (start + removed) (added - removed) ≤ 2147483647 := hM
    unfold mvS
    dsimp only
    split
    · trivial
    · rename_i hn
      show Pos.ok ⟨mvL l (start + removed) (added - removed), mvL e (start + removed) (added - removed), c, d⟩
      have key : 1 ≤ mvL l (start + removed) (added - removed) ∧ mvL l (start + removed) (added - removed) ≤ mvL e (start + removed) (added - removed) ∧ (mvL e (start + removed) (added - removed) = mvL l (start + removed) (added - removed) ↔ e = l) := by
        unfold mvL
        by_cases q1 : start + removed ≤ l
        · rw [if_pos q1, if_pos (show start + removed ≤ e by omega)]
          refine ⟨by omega, by omega, ?_⟩
          constructor <;> intro z <;> omega
        · rw [if_neg q1]
          by_cases q2 : start + removed ≤ e
          · rw [if_pos q2]
            refine ⟨by omega, by omega, ?_⟩
            constructor <;> intro z <;> omega
          · rw [if_neg q2]
            exact ⟨y1, y2, Iff.rfl⟩
      refine ⟨key.1, key.2.1, hM, ?_⟩
      rcases h.cd with ⟨a, b, z⟩ | ⟨c', d', a1, a2, a3, a4, a5, a6, a7⟩
      · exact .inl ⟨a, b, key.2.2.mpr z⟩
      · exact .inr ⟨c', d', a1, a2, a3, a4, a5, a6, fun z => a7 (key.2.2.mp z)⟩
/-- lines put in and taken out again -/
theorem mvS_back {s : Span} {line many : Int} (hs : SpanOk s) (hm : 1 ≤ many) : mvS (mvS s line (line + 0) (many - 0)) line (line + many) (0 - many) = match s with
    | none => none
    | some p => if p.l < line ∧ line ≤ p.e then none else some p := by
  cases s with
  | none => rfl
  | some p =>
    obtain ⟨l, e, c, d⟩ := p
    have hs : Pos.ok ⟨l, e, c, d⟩ := hs
    have y2 : l ≤ e := hs.le
    have e1 : mvS (some ⟨l, e, c, d⟩) line (line + 0) (many - 0) = some ⟨mvL l (line + 0) (many - 0), mvL e (line + 0) (many - 0), c, d⟩ := if_neg (by
      show ¬ (l < e + 1 ∧ l < line + 0 ∧ line < e + 1 ∧ line < line + 0)
      omega)
    rw [e1]
    show (if mvL l (line + 0) (many - 0) < mvL e (line + 0) (many - 0) + 1 ∧ mvL l (line + 0) (many - 0) < line + many ∧ line < mvL e (line + 0) (many - 0) + 1 ∧ line < line + many then none else some (⟨mvL (mvL l (line + 0) (many - 0)) (line + many) (0 - many), mvL (mvL e (line + 0) (many - 0)) (line + many) (0 - many), c, d⟩ : Pos)) = if l < line ∧ line ≤ e then none else some ⟨l, e, c, d⟩
    have sp : ∀ (a b a' b' : Int), a = a' → b = b' → (some (⟨a, b, c, d⟩ : Pos)) = some ⟨a', b', c, d⟩ := fun a b a' b' h1 h2 => by rw [h1, h2]
    have ml : ∀ x, mvL x (line + 0) (many - 0) = if line ≤ x then x + many else x := fun x => by
      unfold mvL
      split <;> split <;> omega
    have mb : ∀ x, mvL x (line + many) (0 - many) = if line + many ≤ x then x - many else x := fun x => by
      unfold mvL
      split <;> omega
    rw [ml, ml]
    by_cases h1 : l < line
    · by_cases h2 : line ≤ e
      · rw [if_neg (show ¬ line ≤ l by omega), if_pos h2, if_pos ⟨by omega, by omega, by omega, by omega⟩, if_pos ⟨h1, h2⟩]
      · rw [if_neg (show ¬ line ≤ l by omega), if_neg h2, mb, mb, if_neg (show ¬ line + many ≤ l by omega), if_neg (show ¬ line + many ≤ e by omega), if_neg (show ¬ (l < e + 1 ∧ l < line + many ∧ line < e + 1 ∧ line < line + many) by omega), if_neg (show ¬ (l < line ∧ line ≤ e) by omega)]
    · rw [if_pos (show line ≤ l by omega), if_pos (show line ≤ e by omega), mb, mb, if_pos (show line + many ≤ l + many by omega), if_pos (show line + many ≤ e + many by omega), if_neg (show ¬ (l + many < e + many + 1 ∧ l + many < line + many ∧ line < e + many + 1 ∧ line < line + many) by omega), if_neg (show ¬ (l < line ∧ line ≤ e) by omega)]
      exact sp _ _ _ _ (by omega) (by omega)
theorem mvS_idle {s : Span} {line : Int} : mvS s line (line + 0) (0 - 0) = s := by
  cases s with
  | none => rfl
  | some p =>
    obtain ⟨l, e, c, d⟩ := p
    have e1 : mvS (some ⟨l, e, c, d⟩) line (line + 0) (0 - 0) = some ⟨mvL l (line + 0) (0 - 0), mvL e (line + 0) (0 - 0), c, d⟩ := if_neg (by
      show ¬ (l < e + 1 ∧ l < line + 0 ∧ line < e + 1 ∧ line < line + 0)
      omega)
    rw [e1]
    have e2 : ∀ x, mvL x (line + 0) (0 - 0) = x := fun x => by
      unfold mvL
      split <;> omega
    rw [e2, e2]
theorem mvS_same {s : Span} {line many : Int} (hs : SpanOk s) (hm : 1 ≤ many) : mvS s line (line + many) (many - many) = match s with
    | none => none
    | some p => if p.l < line + many ∧ line ≤ p.e then none else some p := by
  cases s with
  | none => rfl
  | some p =>
    obtain ⟨l, e, c, d⟩ := p
    have hs : Pos.ok ⟨l, e, c, d⟩ := hs
    have y2 : l ≤ e := hs.le
    have e2 : ∀ x, mvL x (line + many) (many - many) = x := fun x => by
      unfold mvL
      split <;> omega
    show (if l < e + 1 ∧ l < line + many ∧ line < e + 1 ∧ line < line + many then none else some (⟨mvL l (line + many) (many - many), mvL e (line + many) (many - many), c, d⟩ : Pos)) = if l < line + many ∧ line ≤ e then none else some ⟨l, e, c, d⟩
    rw [e2, e2]
    by_cases h : l < line + many ∧ line ≤ e
    · rw [if_pos (by omega), if_pos h]
    · rw [if_neg (by omega), if_neg h]
/-- two edits that lie apart, in either order -/
theorem mvS_apart {s : Span} {a b r m k : Int} (hs : SpanOk s) (hr : 0 ≤ r) (hm : 0 ≤ m) (hk : 0 ≤ k) (hb : a + r ≤ b) :
    mvS (mvS s b (b + r) (k - r)) a (a + r) (m - r) = mvS (mvS s a (a + r) (m - r)) (b + m - r) (b + m - r + r) (k - r) := by
  cases s with
  | none => rfl
  | some p =>
    obtain ⟨l, e, c, d⟩ := p
    have hs : Pos.ok ⟨l, e, c, d⟩ := hs
    have y2 : l ≤ e := hs.le
    have sp : ∀ (a b a' b' : Int), a = a' → b = b' → (some (⟨a, b, c, d⟩ : Pos)) = some ⟨a', b', c, d⟩ := fun a b a' b' h1 h2 => by rw [h1, h2]
    have st : ∀ (x y u v g : Int), mvS (some ⟨x, y, c, d⟩) u v g = if x < y + 1 ∧ x < v ∧ u < y + 1 ∧ u < v then none else some ⟨mvL x v g, mvL y v g, c, d⟩ := fun _ _ _ _ _ => rfl
    have sn : ∀ (u v g : Int), mvS none u v g = none := fun _ _ _ => rfl
    have m1 : ∀ x, ¬ b + r ≤ x → mvL x (b + r) (k - r) = x := fun x h => if_neg h
    have m2 : ∀ x, b + r ≤ x → mvL x (b + r) (k - r) = x + (k - r) := fun x h => if_pos h
    have m3 : ∀ x, ¬ a + r ≤ x → mvL x (a + r) (m - r) = x := fun x h => if_neg h
    have m4 : ∀ x, a + r ≤ x → mvL x (a + r) (m - r) = x + (m - r) := fun x h => if_pos h
    have m5 : ∀ x, ¬ b + m - r + r ≤ x → mvL x (b + m - r + r) (k - r) = x := fun x h => if_neg h
    have m6 : ∀ x, b + m - r + r ≤ x → mvL x (b + m - r + r) (k - r) = x + (k - r) := fun x h => if_pos h
    rw [st, st]
    by_cases h1 : l < e + 1 ∧ l < b + r ∧ b < e + 1 ∧ b < b + r
    · rw [if_pos h1, sn]
      by_cases h2 : l < e + 1 ∧ l < a + r ∧ a < e + 1 ∧ a < a + r
      · rw [if_pos h2, sn]
      · rw [if_neg h2, m4 e (by omega), st]
        by_cases q1 : a + r ≤ l
        · rw [m4 l q1, if_pos (by omega)]
        · rw [m3 l q1, if_pos (by omega)]
    · rw [if_neg h1, st]
      by_cases h2 : l < e + 1 ∧ l < a + r ∧ a < e + 1 ∧ a < a + r
      · rw [if_pos h2, sn]
        by_cases q1 : b + r ≤ l
        · omega
        · rw [m1 l q1]
          by_cases q2 : b + r ≤ e
          · rw [m2 e q2, if_pos (by omega)]
          · rw [m1 e q2, if_pos (by omega)]
      · rw [if_neg h2, st]
        by_cases q1 : b + r ≤ l
        · rw [m2 l q1, m2 e (by omega), m4 l (by omega), m4 e (by omega), m4 (l + (k - r)) (by omega), m4 (e + (k - r)) (by omega), m6 (l + (m - r)) (by omega), m6 (e + (m - r)) (by omega), if_neg (by omega), if_neg (by omega)]
          exact sp _ _ _ _ (by omega) (by omega)
        · rw [m1 l q1]
          by_cases q2 : b + r ≤ e
          · rw [m2 e q2, m4 e (by omega), m4 (e + (k - r)) (by omega), m6 (e + (m - r)) (by omega)]
            by_cases q3 : a + r ≤ l
            · rw [m4 l q3, m5 (l + (m - r)) (by omega), if_neg (by omega), if_neg (by omega)]
              exact sp _ _ _ _ (by omega) (by omega)
            · rw [m3 l q3, m5 l (by omega), if_neg (by omega), if_neg (by omega)]
              exact sp _ _ _ _ (by omega) (by omega)
          · rw [m1 e q2]
            by_cases q3 : a + r ≤ l
            · rw [m4 l q3, m4 e (by omega), m5 (l + (m - r)) (by omega), m5 (e + (m - r)) (by omega), if_neg (by omega), if_neg (by omega)]
            · rw [m3 l q3]
              by_cases q4 : a + r ≤ e
              · rw [m4 e q4, m5 l (by omega), m5 (e + (m - r)) (by omega), if_neg (by omega), if_neg (by omega)]
              · rw [m3 e q4, m5 l (by omega), m5 e (by omega), if_neg (by omega), if_neg (by omega)]
end Lay

/-! Lay17: the smallest change between two lists -/
namespace Lay
section
variable {α : Type} [DecidableEq α]
/-- how long two lists begin the same -/
def cl : List α → List α → Nat
  | x :: xs, y :: ys => if x = y then cl xs ys + 1 else 0
  | _, _ => 0
theorem cl_le : ∀ a b : List α, cl a b ≤ a.length ∧ cl a b ≤ b.length
  | [], _ => ⟨by simp [cl], by simp [cl]⟩
  | _ :: _, [] => ⟨by simp [cl], by simp [cl]⟩
  | x :: xs, y :: ys => by
    unfold cl
    split
    · have := cl_le xs ys
      simp only [List.length_cons]
      omega
    · simp
theorem cl_take : ∀ a b : List α, a.take (cl a b) = b.take (cl a b)
  | [], [] => rfl
  | [], _ :: _ => by simp [cl]
  | _ :: _, [] => by simp [cl]
  | x :: xs, y :: ys => by
    unfold cl
    split
    · next h => rw [List.take_succ_cons, List.take_succ_cons, h, cl_take xs ys]
    · rfl
theorem cl_stop : ∀ {a b : List α} {x y : α}, a[cl a b]? = some x → b[cl a b]? = some y → x ≠ y
  | [], _, _, _, h, _ => by simp at h
  | _ :: _, [], _, _, _, h => by simp at h
  | x :: xs, y :: ys, u, v, h1, h2 => by
    unfold cl at h1 h2
    split at h1
    · rename_i e
      rw [if_pos e] at h2
      exact cl_stop (a := xs) (b := ys) (by simpa using h1) (by simpa using h2)
    · rename_i e
      rw [if_neg e] at h2
      have h1 : x = u := by simpa using h1
      have h2 : y = v := by simpa using h2
      rw [← h1, ← h2]
      exact e
theorem cl_eq : ∀ {n : Nat} {a b : List α}, a.take n = b.take n → n ≤ a.length → n ≤ b.length → (∀ x y, a[n]? = some x → b[n]? = some y → x ≠ y) → cl a b = n
  | 0, [], _, _, _, _, _ => by simp [cl]
  | 0, _ :: _, [], _, _, _, _ => by simp [cl]
  | 0, x :: xs, y :: ys, _, _, _, h => by
    unfold cl
    rw [if_neg (h x y rfl rfl)]
  | n + 1, [], _, _, h, _, _ => by simp at h
  | n + 1, _ :: _, [], _, _, h, _ => by simp at h
  | n + 1, x :: xs, y :: ys, h, h1, h2, h3 => by
    rw [List.take_succ_cons, List.take_succ_cons] at h
    obtain ⟨e, h⟩ := List.cons.inj h
    unfold cl
    rw [if_pos e, cl_eq h (by simpa using h1) (by simpa using h2) fun u v g1 g2 => h3 u v (by simpa using g1) (by simpa using g2)]
theorem cl_comm (a b : List α) : cl a b = cl b a :=
  cl_eq (cl_take b a).symm (cl_le b a).2 (cl_le b a).1 fun _ _ h1 h2 e => cl_stop h2 h1 e.symm
theorem cl_self (a : List α) : cl a a = a.length := cl_eq rfl (Nat.le_refl _) (Nat.le_refl _) fun x y h => by simp at h
/-- the end that both keep behind the common beginning -/
def pK (a b : List α) : Nat := cl (a.drop (cl a b)).reverse (b.drop (cl a b)).reverse
def pR (a b : List α) : Nat := (a.drop (cl a b)).length - pK a b
def pAd (a b : List α) : List α := (b.drop (cl a b)).take ((b.drop (cl a b)).length - pK a b)
theorem pK_comm (a b : List α) : pK a b = pK b a := by
  unfold pK
  rw [cl_comm a b, cl_comm (a.drop _).reverse]
theorem pK_le (a b : List α) : pK a b ≤ (a.drop (cl a b)).length ∧ pK a b ≤ (b.drop (cl a b)).length := by
  have := cl_le (a.drop (cl a b)).reverse (b.drop (cl a b)).reverse
  rw [List.length_reverse, List.length_reverse] at this
  exact this
theorem pAd_len (a b : List α) : (pAd a b).length = pR b a := by
  unfold pAd pR
  rw [List.length_take, cl_comm b a, pK_comm b a]
  omega
theorem pR_le (a b : List α) : cl a b + pR a b ≤ a.length := by
  have h1 := (cl_le a b).1
  unfold pR
  rw [List.length_drop]
  omega
theorem pR_back (a b : List α) : pAd b a = (a.drop (cl a b)).take (pR a b) := by
  unfold pAd pR
  rw [cl_comm b a, pK_comm b a]
theorem drop_rev (xs : List α) (k : Nat) : xs.drop (xs.length - k) = (xs.reverse.take k).reverse := by
  rw [List.take_reverse, List.reverse_reverse]
theorem pat_apply (a b : List α) : a.take (cl a b) ++ pAd a b ++ a.drop (cl a b + pR a b) = b := by
  have e1 : a.drop (cl a b + pR a b) = (b.drop (cl a b)).drop ((b.drop (cl a b)).length - pK a b) := by
    rw [← List.drop_drop]
    unfold pR
    rw [drop_rev, drop_rev]
    unfold pK
    rw [cl_take]
  rw [e1, cl_take, List.append_assoc]
  unfold pAd
  rw [List.take_append_drop, List.take_append_drop]
theorem pat_last {a b : List α} {x y : α} (h0 : pR a b ≠ 0) (hx : a[cl a b + pR a b - 1]? = some x) (hy : (pAd a b).getLast? = some y) : x ≠ y := by
  have hr := pR_le a b
  have hk := pK_le a b
  have hp : pR a b = (a.drop (cl a b)).length - pK a b := rfl
  have hq := pAd_len a b
  have hq2 : pR b a = (b.drop (cl b a)).length - pK b a := rfl
  rw [cl_comm b a, pK_comm b a] at hq2
  rw [List.getLast?_eq_getElem?] at hy
  have hne : 0 < (pAd a b).length := by
    rcases Nat.eq_zero_or_pos (pAd a b).length with h | h
    · rw [List.length_eq_zero_iff.mp h] at hy
      simp at hy
    · exact h
  refine cl_stop (a := (a.drop (cl a b)).reverse) (b := (b.drop (cl a b)).reverse) ?_ ?_
  · show (a.drop (cl a b)).reverse[pK a b]? = some x
    rw [List.getElem?_reverse (by omega), List.getElem?_drop, ← hx]
    congr 1
    omega
  · show (b.drop (cl a b)).reverse[pK a b]? = some y
    rw [List.getElem?_reverse (by omega), ← hy]
    unfold pAd
    rw [List.getElem?_take_of_lt (by rw [List.length_take]; omega)]
    congr 1
    rw [List.length_take]
    omega
theorem pat_self (a : List α) : cl a a = a.length ∧ pR a a = 0 ∧ pAd a a = [] := by
  have e := cl_self a
  have d : a.drop a.length = [] := List.drop_of_length_le (Nat.le_refl _)
  refine ⟨e, ?_, ?_⟩
  · unfold pR
    rw [e, d]
    exact Nat.zero_sub _
  · unfold pAd
    rw [e, d]
    exact List.take_nil
end
end Lay

/-! Lay18: every beginning of a table -/
namespace Lay
open PySem PySem.Spec PyProof.Rows L2
theorem rowsOk_take : ∀ {rs : List Row} {l : Int} {st : Nat}, RowsOk l st rs → ∀ i, RowsOk l st (rs.take i)
  | [], _, _, _, i => by rw [List.take_nil]; exact True.intro
  | _ :: _, _, _, _, 0 => True.intro
  | _ :: _, _, _, ⟨h1, h2, h3⟩, i + 1 => ⟨h1, h2, rowsOk_take h3 i⟩
theorem rowsOk_get : ∀ {rs : List Row} {l : Int} {st : Nat} {i : Nat} {r : Row}, RowsOk l st rs → rs[i]? = some r → EntB r.part r.span (lineEnd l (rs.take i)) r.steps
  | [], _, _, _, _, _, h => by cases h
  | _ :: _, _, _, 0, _, ⟨_, h2, _⟩, h => by cases h; exact h2
  | _ :: _, _, _, i + 1, _, ⟨_, _, h3⟩, h => rowsOk_get (i := i) h3 h
theorem ents_take : ∀ (rs : List Row) (a i : Nat), rowEnts a (rs.take i) = (rowEnts a rs).take i
  | [], _, i => by rw [List.take_nil]; exact List.take_nil.symm
  | _ :: _, _, 0 => rfl
  | r :: rs, a, i + 1 => congrArg (_ :: ·) (ents_take rs _ i)
/-- where entry j begins -/
def off (rs : List Row) (j : Nat) : Nat := (rowBytes (rs.take j)).length
theorem off_zero (rs : List Row) : off rs 0 = 0 := rfl
theorem off_succ {rs : List Row} {j : Nat} {r : Row} (h : rs[j]? = some r) : off rs (j + 1) = off rs j + r.part.length := by
  obtain ⟨h1, h2⟩ := List.getElem?_eq_some_iff.mp h
  unfold off
  rw [List.take_succ, h, rowBytes_app, List.length_append]
  show _ + (r.part ++ []).length = _
  rw [List.append_nil]
theorem off_all (rs : List Row) : off rs rs.length = (rowBytes rs).length := by
  unfold off
  rw [List.take_length]
theorem off_lt {rs : List Row} {l : Int} {st : Nat} (h : RowsOk l st rs) {i : Nat} : ∀ {j : Nat}, i < j → j ≤ rs.length → off rs i < off rs j
  | 0, h1, _ => absurd h1 (Nat.not_lt_zero _)
  | j + 1, h1, h2 => by
    have g : rs[j]? = some rs[j] := List.getElem?_eq_getElem (by omega)
    have hp := (rowsOk_get h g).pos
    have e := off_succ g
    rcases Nat.lt_or_ge i j with h3 | h3
    · have := off_lt h h3 (by omega)
      omega
    · have : i = j := by omega
      subst this
      omega
theorem off_inj {rs : List Row} {l : Int} {st : Nat} (h : RowsOk l st rs) {i j : Nat} (hi : i ≤ rs.length) (hj : j ≤ rs.length) (e : off rs i = off rs j) : i = j := by
  rcases Nat.lt_trichotomy i j with h1 | h1 | h1
  · have := off_lt h h1 hj
    omega
  · exact h1
  · have := off_lt h h1 hi
    omega
/-- a place in the bytes lies at the end of some rows, or inside the next one -/
theorem beg_cases : ∀ (rs : List Row) (n : Nat), n ≤ (rowBytes rs).length → ∃ j, j ≤ rs.length ∧ (n = off rs j ∨ ∃ r m, rs[j]? = some r ∧ 0 < m ∧ m < r.part.length ∧ n = off rs j + m)
  | [], n, h => ⟨0, Nat.le_refl _, .inl (by
      have : n ≤ 0 := h
      rw [off_zero]
      omega)⟩
  | r :: rs, n, h => by
    have hl : (rowBytes (r :: rs)).length = r.part.length + (rowBytes rs).length := List.length_append
    have ho : ∀ j, off (r :: rs) (j + 1) = r.part.length + off rs j := fun j => List.length_append
    rcases Nat.lt_or_ge n r.part.length with h1 | h1
    · rcases Nat.eq_zero_or_pos n with h2 | h2
      · exact ⟨0, Nat.zero_le _, .inl h2⟩
      · exact ⟨0, Nat.zero_le _, .inr ⟨r, n, rfl, h2, h1, by rw [off_zero]; omega⟩⟩
    · obtain ⟨j, hj, hc⟩ := beg_cases rs (n - r.part.length) (by omega)
      refine ⟨j + 1, by show j + 1 ≤ rs.length + 1; omega, ?_⟩
      rcases hc with hc | ⟨r', m, g, m0, m1, hc⟩
      · exact .inl (by rw [ho]; omega)
      · exact .inr ⟨r', m, g, m0, m1, by rw [ho]; omega⟩
theorem take_off (rs : List Row) (j : Nat) : (rowBytes rs).take (off rs j) = rowBytes (rs.take j) := by
  unfold off
  conv => lhs; rw [rowBytes_split rs j]
  rw [List.take_left]
theorem take_in {rs : List Row} {j m : Nat} {r : Row} (g : rs[j]? = some r) (hm : m < r.part.length) : (rowBytes rs).take (off rs j + m) = rowBytes (rs.take j) ++ r.part.take m := by
  obtain ⟨h1, h2⟩ := List.getElem?_eq_some_iff.mp g
  have e : rowBytes rs = rowBytes (rs.take j) ++ (r.part ++ rowBytes (rs.drop (j + 1))) := by
    conv => lhs; rw [rowBytes_split rs j]
    rw [List.drop_eq_getElem_cons h1, h2]
    rfl
  unfold off
  rw [e, List.take_append, List.take_of_length_le (by omega), Nat.add_sub_cancel_left, List.take_append_of_le_length (by omega)]
/-- a beginning that ends behind an entry is a table of the entries up to there -/
theorem beg_ok {rs : List Row} {l : Int} (h : RowsOk l 0 rs) (j : Nat) : entries ((rowBytes rs).take (off rs j)) l = .ok ((rowEnts 0 rs).take j) := by
  rw [take_off, rows_entries (rowsOk_take h j), ents_take]
theorem beg_torn {rs : List Row} {l : Int} {j m : Nat} {r : Row} (h : RowsOk l 0 rs) (g : rs[j]? = some r) (m0 : 0 < m) (m1 : m < r.part.length) : entries ((rowBytes rs).take (off rs j + m)) l = .bad (off rs j + m) "torn" := by
  rw [take_in g m1]
  exact rows_torn (rowsOk_take h j) (rowsOk_get h g) m0 m1
/-! ### beginnings of what is written -/
theorem rowSpans_pre (rs : List Row) (j : Nat) : ∃ q, rowSpans rs = rowSpans (rs.take j) ++ q := ⟨_, rowSpans_split rs j⟩
/-- the first row that is written -/
theorem aR_step {s : Span} {rest : List Span} {k : Nat} {l : Int} (h1 : 1 ≤ k) (h8 : k ≤ 8) (h : k = 8 ∨ rest.head? ≠ some s) : aRows (grp (List.replicate k s ++ rest)) l = ⟨0, k, s, entryB s l k⟩ :: aRows (grp rest) (lineAfter s l) := by
  obtain ⟨k, rfl⟩ : ∃ m, k = m + 1 := ⟨k - 1, by omega⟩
  have run : ∀ (f n : Nat) (y : Span) (l : Int), n ≠ 0 → runRows y (f + 1) n l = ⟨0, min n 8, y, entryB y l (min n 8)⟩ :: runRows y f (n - min n 8) (lineAfter y l) := fun f n y l hn => if_neg hn
  by_cases hh : rest.head? = some s
  · have hk : k + 1 = 8 := h.resolve_right fun z => z hh
    rcases runs_cases rest with rfl | ⟨n, y, ys, e1, e2, e3⟩
    · cases hh
    · have hy : y = s := by
        rw [e1] at hh
        exact Option.some.inj hh
      subst hy
      have e4 : List.replicate (k + 1) y ++ rest = List.replicate (k + 1 + n + 1) y ++ ys := by
        rw [e1, ← List.append_assoc, List.replicate_append_replicate]
        rfl
      rw [e4, grp_run e2, e3]
      show runRows y (k + 1 + n + 1) (k + 1 + n + 1) l ++ aRows (grp ys) (lineAfter y l) = _ :: (runRows y (n + 1) (n + 1) (lineAfter y l) ++ aRows (grp ys) (lineAfter y (lineAfter y l)))
      have e5 : min (k + 1 + n + 1) 8 = k + 1 := by omega
      have e6 : k + 1 + n + 1 - (k + 1) = n + 1 := by omega
      rw [run _ _ _ _ (Nat.succ_ne_zero _), e5, e6, after_after, run_fuel (k + 1 + n) (n + 1) (n + 1) _ (by omega) (Nat.le_refl _)]
      rfl
  · rw [grp_run hh]
    show runRows s (k + 1) (k + 1) l ++ aRows (grp rest) (lineAfter s l) = _
    have e5 : min (k + 1) 8 = k + 1 := by omega
    rw [run _ _ _ _ (Nat.succ_ne_zero _), e5, Nat.sub_self]
    have e6 : runRows s k 0 (lineAfter s l) = [] := by cases k <;> rfl
    rw [e6]
    rfl
theorem aR_spans (ss : List Span) (l : Int) : rowSpans (aRows (grp ss) l) = ss := by
  have h := wRows_spans ss l
  unfold wRows at h
  rw [resetR_spans] at h
  have e : allRows (rgs ss) l = aRows (grp ss) l := allRows_pos (grp ss) 0 l
  rwa [e] at h
theorem aR_beg : ∀ (n : Nat) (ss : List Span) (l : Int), ss.length ≤ n → ∀ j, aRows (grp (rowSpans ((aRows (grp ss) l).take j))) l = (aRows (grp ss) l).take j
  | n, [], l, _, j => by
    have e : aRows (grp ([] : List Span)) l = [] := rfl
    rw [e, List.take_nil]
    rfl
  | 0, s :: ss, l, h, j => absurd h (Nat.not_succ_le_zero _)
  | n + 1, s0 :: ss0, l, h, 0 => rfl
  | n + 1, s0 :: ss0, l, h, j + 1 => by
    rcases runs_cases (s0 :: ss0) with h0 | ⟨m, s, ys, e1, e2, _⟩
    · cases h0
    · obtain ⟨k, rest, k1, k8, hk, er⟩ : ∃ (k : Nat) (rest : List Span), 1 ≤ k ∧ k ≤ 8 ∧ (k = 8 ∨ rest.head? ≠ some s) ∧ s0 :: ss0 = List.replicate k s ++ rest := by
        rcases Nat.lt_or_ge (m + 1) 8 with h8 | h8
        · exact ⟨m + 1, ys, by omega, by omega, .inr e2, e1⟩
        · refine ⟨8, List.replicate (m + 1 - 8) s ++ ys, by omega, by omega, .inl rfl, ?_⟩
          rw [e1, ← List.append_assoc, List.replicate_append_replicate]
          congr 2
          omega
      have hl : rest.length ≤ n := by
        have := congrArg List.length er
        rw [List.length_append, List.length_replicate, List.length_cons] at this
        rw [List.length_cons] at h
        omega
      have ih := aR_beg n rest (lineAfter s l) hl j
      rw [er, aR_step k1 k8 hk, List.take_succ_cons]
      have es : rowSpans ((⟨0, k, s, entryB s l k⟩ : Row) :: (aRows (grp rest) (lineAfter s l)).take j) = List.replicate k s ++ rowSpans ((aRows (grp rest) (lineAfter s l)).take j) := rfl
      have hk2 : k = 8 ∨ (rowSpans ((aRows (grp rest) (lineAfter s l)).take j)).head? ≠ some s := by
        rcases hk with hk | hk
        · exact .inl hk
        · refine .inr fun hh => hk ?_
          have e := aR_spans rest (lineAfter s l)
          rw [rowSpans_split _ j] at e
          rw [← e, List.head?_append, hh]
          rfl
      rw [es, aR_step k1 k8 hk2, ih]
theorem reset_take : ∀ (rs : List Row) (a j : Nat), (resetR a rs).take j = resetR a (rs.take j)
  | [], _, j => by rw [List.take_nil]; exact List.take_nil
  | _ :: _, _, 0 => rfl
  | r :: rs, a, j + 1 => congrArg (_ :: ·) (reset_take rs _ j)
/-- a beginning of the shortest table that ends behind an entry is the shortest table of its spans -/
theorem w_beg (ss : List Span) (l : Int) (j : Nat) : rowBytes (wRows (rowSpans ((wRows ss l).take j)) l) = rowBytes ((wRows ss l).take j) := by
  have e : allRows (rgs ss) l = aRows (grp ss) l := allRows_pos (grp ss) 0 l
  have e0 : wRows ss l = resetR 0 (aRows (grp ss) l) := by
    unfold wRows
    rw [e]
  have e1 : rowSpans ((wRows ss l).take j) = rowSpans ((aRows (grp ss) l).take j) := by rw [e0, reset_take, resetR_spans]
  have e2 : rowBytes ((wRows ss l).take j) = rowBytes ((aRows (grp ss) l).take j) := by rw [e0, reset_take, resetR_bytes]
  rw [wRows_bytes, e1, e2]
  have e3 : allRows (rgs (rowSpans ((aRows (grp ss) l).take j))) l = aRows (grp (rowSpans ((aRows (grp ss) l).take j))) l := allRows_pos (grp _) 0 l
  rw [e3, aR_beg _ ss l (Nat.le_refl _)]
end Lay

/-! Lay19: tables put together of runs; what edits keep -/
namespace Lay
open PySem PySem.Spec PyProof.Rows L2
/-- no run goes over the place between two rows -/
def Bd {α : Type} (A B : List α) : Prop := ∀ x, A.getLast? = some x → B.head? ≠ some x
theorem Bd.nil {α : Type} (B : List α) : Bd ([] : List α) B := fun _ h => nomatch h
theorem Bd.nilr {α : Type} (A : List α) : Bd A ([] : List α) := fun _ _ h => nomatch h
section
variable {α : Type} [DecidableEq α]
theorem grp_nil {xs : List α} (h : grp xs = []) : xs = [] := by
  cases xs with
  | nil => rfl
  | cons x xs =>
    obtain ⟨n, gs, e⟩ := grp_head (x := x) (xs := xs)
    rw [e] at h
    cases h
theorem grp_cons (x : α) (xs : List α) : grp (x :: xs) = match grp xs with | [] => [(1, x)] | (n, y) :: gs => if y = x then (n + 1, y) :: gs else (1, x) :: (n, y) :: gs := rfl
theorem grp_app : ∀ {A B : List α}, Bd A B → grp (A ++ B) = grp A ++ grp B
  | [], B, _ => rfl
  | [x], B, h => grp_new (h x rfl)
  | x :: y :: ys, B, h => by
    have ih := grp_app (A := y :: ys) (B := B) fun z hz => h z (by rw [List.getLast?_cons_cons]; exact hz)
    obtain ⟨n, gs, e⟩ := grp_head (x := y) (xs := ys)
    have e2 : ∀ zs, grp (x :: zs) = match grp zs with | [] => [(1, x)] | (n, y) :: gs => if y = x then (n + 1, y) :: gs else (1, x) :: (n, y) :: gs := fun zs => rfl
    show grp (x :: ((y :: ys) ++ B)) = _
    rw [e2, e2, ih, e]
    show (if y = x then (n + 1 + 1, y) :: (gs ++ grp B) else (1, x) :: (n + 1, y) :: (gs ++ grp B)) = (if y = x then (n + 1 + 1, y) :: gs else (1, x) :: (n + 1, y) :: gs) ++ grp B
    split <;> rfl
end
/-- the current line behind some spans -/
def la : Int → List Span → Int
  | l, [] => l
  | l, s :: ss => la (lineAfter s l) ss
def laG : Int → List (Nat × Span) → Int
  | l, [] => l
  | l, g :: gs => laG (lineAfter g.2 l) gs
theorem la_app : ∀ (l : Int) (A B : List Span), la l (A ++ B) = la (la l A) B
  | _, [], _ => rfl
  | l, s :: A, B => la_app (lineAfter s l) A B
theorem la_rep (s : Span) : ∀ (n : Nat) (l : Int), la l (List.replicate (n + 1) s) = lineAfter s l
  | 0, _ => rfl
  | n + 1, l => by
    show la (lineAfter s l) (List.replicate (n + 1) s) = _
    rw [la_rep s n, after_after]
theorem laG_grp : ∀ (A : List Span) (l : Int), laG l (grp A) = la l A
  | [], _ => rfl
  | x :: xs, l => by
    have ih := laG_grp xs (lineAfter x l)
    show _ = la (lineAfter x l) xs
    rw [← ih, grp_cons]
    cases grp xs with
    | nil => rfl
    | cons g gs =>
      obtain ⟨n, y⟩ := g
      dsimp only
      by_cases h : y = x
      · subst h
        rw [if_pos rfl]
        show laG (lineAfter y l) gs = laG (lineAfter y (lineAfter y l)) gs
        rw [after_after]
      · rw [if_neg h]
        rfl
theorem aRows_app : ∀ (g h : List (Nat × Span)) (l : Int), aRows (g ++ h) l = aRows g l ++ aRows h (laG l g)
  | [], _, _ => rfl
  | x :: g, h, l => by
    show runRows x.2 x.1 x.1 l ++ aRows (g ++ h) (lineAfter x.2 l) = (runRows x.2 x.1 x.1 l ++ aRows g (lineAfter x.2 l)) ++ _
    rw [aRows_app g h, List.append_assoc]
    rfl
theorem wB_app {A B : List Span} (h : Bd A B) (l : Int) : wB (A ++ B) l = wB A l ++ wB B (la l A) := by
  rw [wB_grp, wB_grp, wB_grp, grp_app h, aRows_app, rowBytes_app, laG_grp]
theorem wRows_grp (ss : List Span) (l : Int) : wRows ss l = resetR 0 (aRows (grp ss) l) := by
  unfold wRows
  rw [show allRows (rgs ss) l = aRows (grp ss) l from allRows_pos (grp ss) 0 l]
theorem resetR_app : ∀ (R S : List Row) (a : Nat), resetR a (R ++ S) = resetR a R ++ resetR (a + (rowSpans R).length) S
  | [], _, _ => rfl
  | r :: R, S, a => by
    show _ :: resetR (a + r.steps) (R ++ S) = _ :: (resetR (a + r.steps) R ++ _)
    have e : (rowSpans (r :: R)).length = r.steps + (rowSpans R).length := by
      show (List.replicate r.steps r.span ++ rowSpans R).length = _
      rw [List.length_append, List.length_replicate]
    rw [resetR_app R S, e, Nat.add_assoc]
theorem wRows_app {A B : List Span} (h : Bd A B) (l : Int) : wRows (A ++ B) l = wRows A l ++ resetR A.length (aRows (grp B) (la l A)) := by
  rw [wRows_grp, wRows_grp, grp_app h, aRows_app, resetR_app, laG_grp, aR_spans, Nat.zero_add]
theorem rowEnts_app : ∀ (R S : List Row) (i : Nat), rowEnts i (R ++ S) = rowEnts i R ++ rowEnts (i + (rowBytes R).length) S
  | [], _, _ => rfl
  | r :: R, S, i => by
    show _ :: rowEnts (i + r.part.length) (R ++ S) = _ :: (rowEnts (i + r.part.length) R ++ _)
    have e : (rowBytes (r :: R)).length = r.part.length + (rowBytes R).length := List.length_append
    rw [rowEnts_app R S, e, Nat.add_assoc]
theorem reset_ge : ∀ (R : List Row) (i a : Nat), ∀ e ∈ rowEnts i (resetR a R), a ≤ e.2.1
  | [], _, _, e, h => by cases h
  | r :: R, i, a, e, h => by
    rcases List.mem_cons.mp h with rfl | h
    · exact Nat.le_refl _
    · have := reset_ge R _ _ e h
      omega
/-- an entry begins where a run begins -/
theorem ent_at {A B : List Span} (h : Bd A B) (hB : B ≠ []) (l : Int) : ∃ (E1 E2 : List (Nat × Nat × Ent)) (en : Ent), rowEnts 0 (wRows (A ++ B) l) = E1 ++ ((wB A l).length, A.length, en) :: E2 ∧ ∀ e ∈ E2, A.length < e.2.1 := by
  rcases runs_cases B with rfl | ⟨n, s, ys, e1, e2, e3⟩
  · exact absurd rfl hB
  · rw [wRows_app h, rowEnts_app, wB_rows, Nat.zero_add, e3]
    have er : aRows ((n + 1, s) :: grp ys) (la l A) = ⟨0, min (n + 1) 8, s, entryB s (la l A) (min (n + 1) 8)⟩ :: (runRows s n (n + 1 - min (n + 1) 8) (lineAfter s (la l A)) ++ aRows (grp ys) (lineAfter s (la l A))) := by
      show runRows s (n + 1) (n + 1) (la l A) ++ aRows (grp ys) (lineAfter s (la l A)) = _
      have : runRows s (n + 1) (n + 1) (la l A) = ⟨0, min (n + 1) 8, s, entryB s (la l A) (min (n + 1) 8)⟩ :: runRows s n (n + 1 - min (n + 1) 8) (lineAfter s (la l A)) := if_neg (Nat.succ_ne_zero _)
      rw [this]
      rfl
    rw [er]
    refine ⟨_, _, _, rfl, fun e he => ?_⟩
    have he : e ∈ rowEnts _ (resetR (A.length + min (n + 1) 8) _) := he
    have := reset_ge _ _ _ e he
    have h8 : 1 ≤ min (n + 1) 8 := by omega
    omega
theorem ents_lt {ss : List Span} {l : Int} (h : ∀ s ∈ ss, SpanOk s) (l1 : 1 ≤ l) (l2 : l ≤ 2147483647) : True := True.intro
/-- a run, what is ahead of it, and what is behind it -/
theorem run_at {α : Type} [DecidableEq α] : ∀ (n : Nat) (xs : List α) (st : Nat), xs.length ≤ n → ∀ r ∈ rgsF st xs, ∃ (A B : List α) (m : Nat), xs = A ++ List.replicate (m + 1) r.2.2 ++ B ∧ r.1 = st + A.length ∧ r.2.1 = st + A.length + (m + 1) ∧ A.getLast? ≠ some r.2.2 ∧ B.head? ≠ some r.2.2
  | n, xs, st, hn, r, hr => by
    rcases runs_cases xs with rfl | ⟨m, x, ys, e1, e2, e3⟩
    · cases hr
    · rw [e1, rgs_run e2] at hr
      rcases List.mem_cons.mp hr with rfl | hr
      · exact ⟨[], ys, m, e1, rfl, rfl, (fun z => nomatch z), e2⟩
      · have hl := congrArg List.length e1
        rw [List.length_append, List.length_replicate] at hl
        cases n with
        | zero => omega
        | succ n =>
          obtain ⟨A, B, k, f1, f2, f3, f4, f5⟩ := run_at n ys (st + (m + 1)) (by omega) r hr
          refine ⟨List.replicate (m + 1) x ++ A, B, k, by rw [e1, f1, List.append_assoc, List.append_assoc, List.append_assoc], ?_, ?_, ?_, f5⟩
          · rw [List.length_append, List.length_replicate]
            omega
          · rw [List.length_append, List.length_replicate]
            omega
          · cases A with
            | nil =>
              intro z
              rw [List.append_nil, List.getLast?_replicate, if_neg (Nat.succ_ne_zero _)] at z
              rw [f1] at e2
              exact e2 (by rw [← Option.some.inj z]; rfl)
            | cons a A =>
              rw [List.getLast?_append]
              intro z
              cases hA : (a :: A).getLast? with
              | none => exact absurd (List.getLast?_eq_none_iff.mp hA) (fun z => nomatch z)
              | some y =>
                rw [hA] at z
                exact f4 (by rw [hA]; exact z)
/-! ### what two lists keep -/
section
variable {α : Type} [DecidableEq α]
theorem cl_ge {n : Nat} {a b : List α} (h : a.take n = b.take n) (h1 : n ≤ a.length) (h2 : n ≤ b.length) : n ≤ cl a b := by
  rcases Nat.lt_or_ge (cl a b) n with hlt | hge
  · have g1 : a[cl a b]? = some (a[cl a b]'(by omega)) := List.getElem?_eq_getElem (by omega)
    have g2 : b[cl a b]? = some (b[cl a b]'(by omega)) := List.getElem?_eq_getElem (by omega)
    have e : a[cl a b]? = b[cl a b]? := by
      rw [← List.getElem?_take_of_lt (l := a) hlt, h, List.getElem?_take_of_lt hlt]
    rw [g1, g2] at e
    exact absurd (Option.some.inj e) (cl_stop g1 g2)
  · exact hge
theorem pK_ge {a b H m1 m2 T : List α} (ha : a = H ++ m1 ++ T) (hb : b = H ++ m2 ++ T) : H.length ≤ cl a b ∧ min T.length (min a.length b.length - cl a b) ≤ pK a b := by
  have la : a.length = H.length + m1.length + T.length := by rw [ha, List.length_append, List.length_append]
  have lb : b.length = H.length + m2.length + T.length := by rw [hb, List.length_append, List.length_append]
  have c1 := cl_le a b
  refine ⟨cl_ge ?_ (by omega) (by omega), ?_⟩
  · rw [ha, hb, List.append_assoc, List.append_assoc, List.take_left, List.take_left]
  · unfold pK
    have key : ∀ (x m : List α), x = H ++ m ++ T → cl a b ≤ x.length → ∀ n, n ≤ T.length → n ≤ x.length - cl a b → (x.drop (cl a b)).reverse.take n = T.reverse.take n := fun x m hx h0 n h1 h2 => by
      have lx : x.length = H.length + m.length + T.length := by rw [hx, List.length_append, List.length_append]
      rw [List.take_reverse, List.take_reverse, List.length_drop, List.drop_drop]
      congr 1
      have e : cl a b + (x.length - cl a b - n) = (H ++ m).length + (T.length - n) := by
        rw [List.length_append]
        omega
      rw [e, hx, ← List.drop_drop, List.drop_left]
    refine cl_ge ?_ ?_ ?_
    · rw [key a m1 ha c1.1 _ (Nat.min_le_left _ _) (by omega), key b m2 hb c1.2 _ (Nat.min_le_left _ _) (by omega)]
    · rw [List.length_reverse, List.length_drop]
      omega
    · rw [List.length_reverse, List.length_drop]
      omega
end
theorem Bd.head {α : Type} {A B C : List α} (h : Bd A B) (e : C.head? = B.head?) : Bd A C := fun x hx => by
  rw [e]
  exact h x hx
theorem wB_app3 {P Q B : List Span} (h1 : Bd P Q) (h2 : Bd (P ++ Q) B) (l : Int) : wB (P ++ Q ++ B) l = wB P l ++ wB Q (la l P) ++ wB B (la l (P ++ Q)) := by
  rw [wB_app h2, wB_app h1]
/-- an edit keeps the bytes ahead of it and behind it -/
theorem near {P Q Q' B B' : List Span} {p : Pos} (l : Int) (h1 : Bd P Q) (e1 : Q'.head? = Q.head?) (hb : B = [] ∧ B' = [] ∨ (P ++ Q).getLast? = some (some p) ∧ (P ++ Q').getLast? = some (some p) ∧ B.head? ≠ some (some p)) (eB : B' = B) :
    ∃ m1 m2 T, wB (P ++ Q ++ B) l = wB P l ++ m1 ++ T ∧ wB (P ++ Q' ++ B) l = wB P l ++ m2 ++ T ∧ (wB (P ++ Q ++ B) l).length = (wB (P ++ Q) l).length + T.length := by
  have h1' : Bd P Q' := h1.head e1
  rcases hb with ⟨rfl, _⟩ | ⟨g1, g2, g3⟩
  · refine ⟨wB Q (la l P), wB Q' (la l P), [], ?_, ?_, ?_⟩
    · rw [wB_app3 h1 (Bd.nilr _)]
      rfl
    · rw [wB_app3 h1' (Bd.nilr _)]
      rfl
    · rw [List.append_nil]
      rfl
  · have b1 : Bd (P ++ Q) B := fun x hx => by
      rw [g1] at hx
      cases hx
      exact g3
    have b2 : Bd (P ++ Q') B := fun x hx => by
      rw [g2] at hx
      cases hx
      exact g3
    have key : ∀ (X : List Span) (l : Int), X.getLast? = some (some p) → la l X = p.l := fun X l hX => by
      rcases List.eq_nil_or_concat X with rfl | ⟨ys, y, rfl⟩
      · cases hX
      · rw [List.concat_eq_append, List.getLast?_concat] at hX
        rw [List.concat_eq_append, la_app]
        cases hX
        rfl
    refine ⟨wB Q (la l P), wB Q' (la l P), wB B (la l (P ++ Q)), wB_app3 h1 b1 l, ?_, ?_⟩
    · rw [wB_app3 h1' b2, key _ _ g1, key _ _ g2]
    · rw [wB_app b1, List.length_append]
end Lay

/-! Lay20: the last run -/
namespace Lay
open PySem PySem.Spec PyProof.Rows L2
section
variable {α : Type} [DecidableEq α]
def stepsG : List (Nat × α) → Nat
  | [] => 0
  | g :: gs => g.1 + stepsG gs
theorem posG_app : ∀ (g h : List (Nat × α)) (st : Nat), posG st (g ++ h) = posG st g ++ posG (st + stepsG g) h
  | [], _, _ => rfl
  | x :: g, h, st => by
    show _ :: posG (st + x.1) (g ++ h) = _ :: (posG (st + x.1) g ++ _)
    rw [posG_app g h]
    show _ = _ :: (_ ++ posG (st + (x.1 + stepsG g)) h)
    rw [Nat.add_assoc]
theorem stepsG_grp : ∀ xs : List α, stepsG (grp xs) = xs.length
  | [] => rfl
  | x :: xs => by
    have ih := stepsG_grp xs
    rw [grp_cons, List.length_cons, ← ih]
    cases grp xs with
    | nil => rfl
    | cons g gs =>
      obtain ⟨n, y⟩ := g
      dsimp only
      split
      · show n + 1 + stepsG gs = n + stepsG gs + 1
        omega
      · show 1 + (n + stepsG gs) = n + stepsG gs + 1
        omega
/-- rows with a last run -/
theorem rgs_tail {A : List α} {x : α} (h : A.getLast? ≠ some x) (m st : Nat) : rgsF st (A ++ List.replicate (m + 1) x) = rgsF st A ++ [(st + A.length, st + A.length + (m + 1), x)] := by
  have b : Bd A (List.replicate (m + 1) x) := fun y hy z => by
    rw [List.head?_replicate, if_neg (Nat.succ_ne_zero _)] at z
    cases z
    exact h hy
  unfold rgsF
  have e : grp (List.replicate (m + 1) x) = [(m + 1, x)] := by
    have := grp_run (x := x) (xs := []) (fun z => nomatch z) m
    rw [List.append_nil] at this
    exact this
  rw [grp_app b, posG_app, stepsG_grp, e]
  rfl
theorem last_run : ∀ (n : Nat) (A : List α), A.length ≤ n → A = [] ∨ ∃ (B : List α) (m : Nat) (x : α), A = B ++ List.replicate (m + 1) x ∧ B.getLast? ≠ some x
  | 0, A, h => .inl (List.length_eq_zero_iff.mp (by omega))
  | n + 1, A, h => by
    rcases List.eq_nil_or_concat A with rfl | ⟨A', y, rfl⟩
    · exact .inl rfl
    · refine .inr ?_
      rw [List.concat_eq_append] at h ⊢
      rw [List.length_append, List.length_singleton] at h
      rcases last_run n A' (by omega) with rfl | ⟨B, m, x, rfl, hx⟩
      · exact ⟨[], 0, y, rfl, fun z => nomatch z⟩
      · by_cases e : x = y
        · subst e
          exact ⟨B, m + 1, x, by rw [List.append_assoc, List.replicate_succ' (n := m + 1)], hx⟩
        · refine ⟨B ++ List.replicate (m + 1) x, 0, y, rfl, fun z => ?_⟩
          rw [List.getLast?_append, List.getLast?_replicate, if_neg (Nat.succ_ne_zero _)] at z
          exact e (Option.some.inj z)
theorem rgs_le {xs : List α} {st : Nat} {r : Nat × Nat × α} (h : r ∈ rgsF st xs) : r.1 < r.2.1 ∧ r.2.1 ≤ st + xs.length := by
  obtain ⟨A, B, m, e, h1, h2, _, _⟩ := run_at xs.length xs st (Nat.le_refl _) r h
  have := congrArg List.length e
  rw [List.length_append, List.length_append, List.length_replicate] at this
  omega
end
end Lay

namespace Lay
open PySem PySem.Spec PyProof.Rows L2
/-! ## tables of the same spans behind other first lines -/
theorem formB_none (l : Int) : formB none l = (15, []) := rfl
theorem run_none : ∀ (f n : Nat) (l : Int), runRows none f n l = runRows none f n 0
  | 0, _, _ => rfl
  | f + 1, n, l => by
    show (if n = 0 then [] else (⟨0, min n 8, none, _⟩ :: runRows none f (n - min n 8) l : List Row)) = if n = 0 then [] else (⟨0, min n 8, none, _⟩ :: runRows none f (n - min n 8) 0 : List Row)
    rw [run_none f _ l]
    rfl
theorem run_span {s : Span} : ∀ {f n : Nat} {l : Int}, ∀ r ∈ runRows s f n l, r.span = s
  | 0, _, _, r, h => by cases h
  | f + 1, n, l, r, h => by
    have h : r ∈ (if n = 0 then [] else (⟨0, min n 8, s, (128 + 8 * ((formB s l).1 : Int) + ((min n 8 - 1 : Nat) : Int)) :: (formB s l).2⟩ :: runRows s f (n - min n 8) (lineAfter s l) : List Row)) := h
    split at h
    · cases h
    · rcases List.mem_cons.mp h with rfl | h
      · rfl
      · exact run_span r h
/-- either no span has a line, or only the first entry with one depends on the first line -/
theorem aRows_shape : ∀ gs : List (Nat × Span), (∀ g ∈ gs, 0 < g.1) → (∃ N : List Row, (∀ r ∈ N, r.span = none) ∧ ∀ l, aRows gs l = N) ∨
    ∃ (N S : List Row) (p : Pos) (k : Nat) (pt : Int → List Int), (∀ r ∈ N, r.span = none) ∧ 0 < k ∧ (∀ l, (pt l).length = 1 + (formB (some p) l).2.length) ∧ ∀ l, aRows gs l = N ++ ⟨0, k, some p, pt l⟩ :: S
  | [], _ => .inl ⟨[], (fun r h => nomatch h), fun _ => rfl⟩
  | (n, none) :: gs, h => by
    have hM : ∀ r ∈ runRows none n n 0, r.span = none := fun r hr => run_span r hr
    rcases aRows_shape gs fun g hg => h g (List.mem_cons_of_mem _ hg) with ⟨N, h1, h2⟩ | ⟨N, S, p, k, pt, h1, h2, h3, h4⟩
    · refine .inl ⟨runRows none n n 0 ++ N, fun r hr => (List.mem_append.mp hr).elim (hM r) (h1 r), fun l => ?_⟩
      show runRows none n n l ++ aRows gs l = _
      rw [run_none n n l, h2 l]
    · refine .inr ⟨runRows none n n 0 ++ N, S, p, k, pt, fun r hr => (List.mem_append.mp hr).elim (hM r) (h1 r), h2, h3, fun l => ?_⟩
      show runRows none n n l ++ aRows gs l = _
      rw [run_none n n l, h4 l, List.append_assoc]
  | (n, some p) :: gs, h => by
    have n0 : 0 < n := h _ List.mem_cons_self
    obtain ⟨m, rfl⟩ : ∃ m, n = m + 1 := ⟨n - 1, by omega⟩
    refine .inr ⟨[], runRows (some p) m (m + 1 - min (m + 1) 8) p.l ++ aRows gs p.l, p, min (m + 1) 8, fun l => (128 + 8 * ((formB (some p) l).1 : Int) + ((min (m + 1) 8 - 1 : Nat) : Int)) :: (formB (some p) l).2, (fun r h => nomatch h), by omega, fun l => ?_, fun l => ?_⟩
    · show _ + 1 = _
      omega
    · show runRows (some p) (m + 1) (m + 1) l ++ aRows gs p.l = _
      have e1 : runRows (some p) (m + 1) (m + 1) l = ⟨0, min (m + 1) 8, some p, (128 + 8 * ((formB (some p) l).1 : Int) + ((min (m + 1) 8 - 1 : Nat) : Int)) :: (formB (some p) l).2⟩ :: runRows (some p) m (m + 1 - min (m + 1) 8) (lineAfter (some p) l) := if_neg (Nat.succ_ne_zero m)
      rw [e1]
      rfl
theorem grp_ge {ss : List Span} : ∀ g ∈ grp ss, 0 < g.1 := fun g hg => (grp_pos ss g hg).1
/-- a delta of 0 is written shortest -/
theorem formB_own (p : Pos) (l : Int) : (formB (some p) p.l).2.length ≤ (formB (some p) l).2.length := by
  have e : p.l - p.l = 0 := by omega
  have g0 : (groups (fold1 0)).length = 1 := by
    have : fold1 0 = 0 := rfl
    rw [this, groups_small (by omega)]
    rfl
  have g1 := groups_pos (fold1 (p.l - l))
  have f1 := groups_pos (p.e - p.l).toNat
  unfold formB
  dsimp only
  rw [e]
  split
  · rename_i c d _ _
    have f2 := groups_pos (c + 1).toNat
    have f3 := groups_pos (d + 1).toNat
    by_cases h1 : p.e = p.l ∧ c < 80 ∧ d - c < 16
    · rw [if_pos ⟨h1.1, rfl, h1.2.1, h1.2.2⟩]
      show 1 ≤ _
      split
      · exact Nat.le_refl _
      · split
        · show 1 ≤ 2
          omega
        · show 1 ≤ (groups _ ++ groups _ ++ groups _ ++ groups _).length
          simp only [List.length_append]
          omega
    · rw [if_neg fun z => h1 ⟨z.1, z.2.2.1, z.2.2.2⟩, if_neg (c := p.e = p.l ∧ p.l - l = 0 ∧ c < 80 ∧ d - c < 16) fun z => h1 ⟨z.1, z.2.2.1, z.2.2.2⟩]
      by_cases h2 : p.e = p.l ∧ d < 128
      · rw [if_pos ⟨h2.1, by omega, by omega, h2.2⟩]
        show 2 ≤ _
        split
        · exact Nat.le_refl _
        · show 2 ≤ (groups _ ++ groups _ ++ groups _ ++ groups _).length
          simp only [List.length_append]
          omega
      · rw [if_neg fun z => h2 ⟨z.1, z.2.2.2⟩, if_neg fun z => h2 ⟨z.1, z.2.2.2⟩]
        simp only [List.length_append]
        omega
  · show (groups (fold1 0)).length ≤ (groups (fold1 (p.l - l))).length
    omega
/-! ### places of what is true -/
section
variable {α : Type}
def idxs (f : α → Bool) : Nat → List α → List Nat
  | _, [] => []
  | k, x :: xs => if f x = true then k :: idxs f (k + 1) xs else idxs f (k + 1) xs
theorem idxs_app (f : α → Bool) : ∀ (xs ys : List α) (k : Nat), idxs f k (xs ++ ys) = idxs f k xs ++ idxs f (k + xs.length) ys
  | [], _, _ => rfl
  | x :: xs, ys, k => by
    show (if f x = true then k :: idxs f (k + 1) (xs ++ ys) else idxs f (k + 1) (xs ++ ys)) = (if f x = true then k :: idxs f (k + 1) xs else idxs f (k + 1) xs) ++ _
    have e : k + (x :: xs).length = k + 1 + xs.length := by rw [List.length_cons]; omega
    rw [idxs_app f xs ys, e]
    split <;> rfl
theorem idxs_none {f : α → Bool} : ∀ {xs : List α} {k : Nat}, (∀ x ∈ xs, f x = false) → idxs f k xs = []
  | [], _, _ => rfl
  | x :: xs, k, h => by
    show (if f x = true then k :: idxs f (k + 1) xs else idxs f (k + 1) xs) = []
    rw [if_neg (by rw [h x List.mem_cons_self]; decide)]
    exact idxs_none fun y hy => h y (List.mem_cons_of_mem _ hy)
theorem idxs_snoc {f : α → Bool} {xs : List α} {i : Nat} {x : α} (h : xs[i]? = some x) : idxs f 0 (xs.take (i + 1)) = idxs f 0 (xs.take i) ++ if f x = true then [i] else [] := by
  have hi := (List.getElem?_eq_some_iff.mp h).1
  have et : xs.take (i + 1) = xs.take i ++ [x] := by rw [List.take_succ, h]; rfl
  rw [et, idxs_app]
  congr 1
  have e : 0 + (xs.take i).length = i := by rw [List.length_take]; omega
  rw [e]
  rfl
theorem idxs_len {f : α → Bool} : ∀ {xs : List α} {k : Nat}, (idxs f k xs).length ≤ xs.length
  | [], _ => Nat.le_refl _
  | x :: xs, k => by
    have := idxs_len (f := f) (xs := xs) (k := k + 1)
    show (if f x = true then k :: idxs f (k + 1) xs else idxs f (k + 1) xs).length ≤ xs.length + 1
    split
    · rw [List.length_cons]
      omega
    · omega
end

theorem reset_part : ∀ (R : List Row) (a : Nat), (resetR a R).map Row.part = R.map Row.part
  | [], _ => rfl
  | r :: R, a => congrArg (r.part :: ·) (reset_part R _)
theorem reset_span : ∀ (R : List Row) (a : Nat), (resetR a R).map Row.span = R.map Row.span
  | [], _ => rfl
  | r :: R, a => congrArg (r.span :: ·) (reset_span R _)
def unlikeR (ss : List Span) (l m : Int) : List Nat := idxs (fun q : List Int × List Int => decide (q.1 ≠ q.2)) 0 (((wRows ss l).map Row.part).zip ((wRows ss m).map Row.part))
def firstR (ss : List Span) (l : Int) : List Nat := idxs (fun s : Span => decide (s ≠ none)) 0 ((wRows ss l).map Row.span)
theorem zip_self {α : Type} : ∀ (xs : List α), ∀ q ∈ xs.zip xs, q.1 = q.2
  | [], q, h => by cases h
  | x :: xs, q, h => by
    rcases List.mem_cons.mp h with rfl | h
    · rfl
    · exact zip_self xs q h
theorem same_none (xs : List (List Int)) (k : Nat) : idxs (fun q : List Int × List Int => decide (q.1 ≠ q.2)) k (xs.zip xs) = [] :=
  idxs_none fun q hq => decide_eq_false fun z => z (zip_self xs q hq)
theorem zip_app {α β : Type} : ∀ (a : List α) (b : List β) (c : List α) (d : List β), a.length = b.length → (a ++ c).zip (b ++ d) = a.zip b ++ c.zip d
  | [], [], _, _, _ => rfl
  | [], _ :: _, _, _, h => by cases h
  | _ :: _, [], _, _, h => by cases h
  | x :: a, y :: b, c, d, h => congrArg ((x, y) :: ·) (zip_app a b c d (Nat.succ.inj h))
/-- at most the first entry with a line is unlike -/
theorem unlike_first (ss : List Span) (l m : Int) : unlikeR ss l m = [] ∨ ∃ k, unlikeR ss l m = [k] ∧ (firstR ss l).take 1 = [k] := by
  unfold unlikeR firstR
  rw [wRows_grp, wRows_grp, reset_part, reset_part, reset_span]
  rcases aRows_shape (grp ss) grp_ge with ⟨N, h1, h2⟩ | ⟨N, S, p, k, pt, h1, h2, h3, h4⟩
  · rw [h2 l, h2 m]
    exact .inl (same_none _ _)
  · rw [h4 l, h4 m, List.map_append, List.map_append, List.map_append, zip_app _ _ _ _ rfl, idxs_app, same_none, List.nil_append, idxs_app, idxs_none (xs := N.map Row.span) fun s hs => by
      obtain ⟨r, hr, rfl⟩ := List.mem_map.mp hs
      rw [h1 r hr]
      rfl]
    have eN : 0 + ((N.map Row.part).zip (N.map Row.part)).length = N.length := by rw [List.length_zip, List.length_map]; omega
    rw [eN]
    show (if decide (pt l ≠ pt m) = true then N.length :: idxs _ (N.length + 1) ((S.map Row.part).zip (S.map Row.part)) else idxs _ (N.length + 1) ((S.map Row.part).zip (S.map Row.part))) = [] ∨ _
    rw [same_none]
    by_cases h : pt l = pt m
    · rw [if_neg (by rw [decide_eq_false (fun z => z h)]; decide)]
      exact .inl rfl
    · rw [if_pos (decide_eq_true h)]
      refine .inr ⟨N.length, ?_, ?_⟩
      · show (if decide (pt l ≠ pt m) = true then N.length :: idxs _ (N.length + 1) ((S.map Row.part).zip (S.map Row.part)) else idxs _ (N.length + 1) ((S.map Row.part).zip (S.map Row.part))) = _
        rw [if_pos (decide_eq_true h), same_none]
      · have e2 : 0 + (N.map Row.span).length = N.length := by rw [List.length_map]; omega
        rw [List.nil_append, e2]
        rfl
theorem first_one (ss : List Span) (l : Int) : (firstR ss l).take 1 = [] ∨ ∃ k, (firstR ss l).take 1 = [k] := by
  cases firstR ss l with
  | nil => exact .inl rfl
  | cons k r => exact .inr ⟨k, rfl⟩
def lineOf (s : Span) : Option Int := s.map Pos.l
theorem lines_none : ∀ {R : List Row}, (∀ r ∈ R, r.span = none) → (rowSpans R).filterMap lineOf = []
  | [], _ => rfl
  | r :: R, h => by
    show (List.replicate r.steps r.span ++ rowSpans R).filterMap lineOf = []
    rw [List.filterMap_append, lines_none fun q hq => h q (List.mem_cons_of_mem _ hq), h r List.mem_cons_self, List.append_nil, List.filterMap_eq_nil_iff]
    intro s hs
    rw [List.eq_of_mem_replicate hs]
    rfl
/-- behind its own first line a table is shortest -/
theorem own_least (ss : List Span) (l o : Int) (h : (ss.filterMap lineOf ++ [7])[0]? = some o) : (rowBytes (wRows ss o)).length ≤ (rowBytes (wRows ss l)).length := by
  rw [wRows_grp, wRows_grp, resetR_bytes, resetR_bytes]
  rcases aRows_shape (grp ss) grp_ge with ⟨N, h1, h2⟩ | ⟨N, S, p, k, pt, h1, h2, h3, h4⟩
  · rw [h2 l, h2 o]
    exact Nat.le_refl _
  · have e : p.l = o := by
      have e1 := aR_spans ss l
      rw [h4 l] at e1
      have e2 : rowSpans (N ++ ⟨0, k, some p, pt l⟩ :: S) = rowSpans N ++ (List.replicate k (some p) ++ rowSpans S) := List.flatMap_append
      rw [e2] at e1
      rw [← e1, List.filterMap_append, lines_none h1] at h
      obtain ⟨j, rfl⟩ : ∃ j, k = j + 1 := ⟨k - 1, by omega⟩
      exact Option.some.inj h
    subst e
    have q := formB_own p l
    have q1 := h3 p.l
    have q2 := h3 l
    rw [h4 l, h4 p.l, rowBytes_app, rowBytes_app, List.length_append, List.length_append]
    show _ + (pt p.l ++ rowBytes S).length ≤ _ + (pt l ++ rowBytes S).length
    rw [List.length_append, List.length_append]
    omega
end Lay

/-! Pu0: values without addresses, and how they lie in the heap -/
namespace Pu
open PySem PySem.Spec PyProof.Rows L2 Lay
inductive PV where
  | non | bl (b : Bool) | int (i : Int) | str (x : Str) | byt (b : Array UInt8) | ty (n : String) | adr (a : Addr)
  | lst (xs : List PV) | tup (xs : List PV) | dic (kvs : List (Key × PV)) | obj (c : Str) (fs : List (Str × PV))
  /-- a list that is only read (the script) -/
  | ro (xs : List PV)
  /-- a caught exception and its dict -/
  | exo (a d : Addr) (c : Str) (fs : List (Str × PV))
/-- a tuple: laid, or one of the written part -/
def TupR (K : PySem.W.Frag) (G : Hp) (a : Addr) (vs : List V) : Prop := G a = some (.tup vs) ∨
  ∃ (o : Obj) (its : Array Value) (n : Nat), K.lookup a = some o ∧ o.cls = .type "tuple" ∧ o.data = .seq its n ∧ its.size ≤ sizeLine ∧ Vals vs its.toList
mutual
inductive Rep (K : PySem.W.Frag) (G : Hp) : V → PV → Prop
  | non : Rep K G .non .non
  | bl (b : Bool) : Rep K G (.bl b) (.bl b)
  | int (i : Int) : Rep K G (.int i) (.int i)
  | str (x : Str) : Rep K G (.str x) (.str x)
  | byt (b : Array UInt8) : Rep K G (.byt b) (.byt b)
  | ty (n : String) : Rep K G (.ty n) (.ty n)
  | adr (a : Addr) : Rep K G (.ref a) (.adr a)
  | lst {a : Addr} {vs : List V} {xs : List PV} (h : G a = some (.lst vs)) (r : Reps K G vs xs) : Rep K G (.ref a) (.lst xs)
  | ro {a : Addr} {vs : List V} {xs : List PV} (h : SqL K G a vs) (r : Reps K G vs xs) : Rep K G (.ref a) (.ro xs)
  | tup {a : Addr} {vs : List V} {xs : List PV} (h : TupR K G a vs) (r : Reps K G vs xs) : Rep K G (.ref a) (.tup xs)
  | dic {a : Addr} {vs : List (Key × V)} {xs : List (Key × PV)} (h : G a = some (.dK vs)) (r : RepK K G vs xs) : Rep K G (.ref a) (.dic xs)
  | obj {a dx : Addr} {c : Str} {vs : List (Str × V)} {xs : List (Str × PV)} (h : G a = some (.ins (He.ga K c) dx vs)) (r : RepF K G vs xs) : Rep K G (.ref a) (.obj c xs)
  | exo {a d : Addr} {c : Str} {vs : List (Str × V)} {xs : List (Str × PV)} (h : G d = some (.xd vs)) (r : RepF K G vs xs) : Rep K G (.ref a) (.exo a d c xs)
inductive Reps (K : PySem.W.Frag) (G : Hp) : List V → List PV → Prop
  | nil : Reps K G [] []
  | cons {v : V} {x : PV} {vs : List V} {xs : List PV} (h : Rep K G v x) (t : Reps K G vs xs) : Reps K G (v :: vs) (x :: xs)
inductive RepF (K : PySem.W.Frag) (G : Hp) : List (Str × V) → List (Str × PV) → Prop
  | nil : RepF K G [] []
  | cons {n : Str} {v : V} {x : PV} {vs : List (Str × V)} {xs : List (Str × PV)} (h : Rep K G v x) (t : RepF K G vs xs) : RepF K G ((n, v) :: vs) ((n, x) :: xs)
inductive RepK (K : PySem.W.Frag) (G : Hp) : List (Key × V) → List (Key × PV) → Prop
  | nil : RepK K G [] []
  | cons {n : Key} {v : V} {x : PV} {vs : List (Key × V)} {xs : List (Key × PV)} (h : Rep K G v x) (t : RepK K G vs xs) : RepK K G ((n, v) :: vs) ((n, x) :: xs)
end
section
variable {K : PySem.W.Frag} {R G G' H H' : Hp} {v : V} {x : PV} {a : Addr}
theorem tupr_same {vs : List V} (s : Same G G') (h : TupR K G a vs) : TupR K G' a vs := by
  rcases h with h | h
  · exact .inl (s _ _ h)
  · exact .inr h
theorem TupR.sq {vs : List V} (h : TupR K G a vs) (s : Same G G') : SqT K G' a vs := by
  rcases h with h | h
  · exact .inl (.inl (s _ _ h))
  · exact .inr h
mutual
theorem Rep.same (s : Same G G') : ∀ {v : V} {x : PV}, Rep K G v x → Rep K G' v x
  | _, _, .non => .non
  | _, _, .bl b => .bl b
  | _, _, .int b => .int b
  | _, _, .str b => .str b
  | _, _, .byt b => .byt b
  | _, _, .ty b => .ty b
  | _, _, .adr b => .adr b
  | _, _, .lst h r => .lst (s _ _ h) (Reps.same s r)
  | _, _, .ro h r => .ro (Same.seq s h) (Reps.same s r)
  | _, _, .tup h r => .tup (tupr_same s h) (Reps.same s r)
  | _, _, .dic h r => .dic (s _ _ h) (RepK.same s r)
  | _, _, .obj h r => .obj (s _ _ h) (RepF.same s r)
  | _, _, .exo h r => .exo (s _ _ h) (RepF.same s r)
theorem Reps.same (s : Same G G') : ∀ {v : List V} {x : List PV}, Reps K G v x → Reps K G' v x
  | _, _, .nil => .nil
  | _, _, .cons h t => .cons (Rep.same s h) (Reps.same s t)
theorem RepF.same (s : Same G G') : ∀ {v : List (Str × V)} {x : List (Str × PV)}, RepF K G v x → RepF K G' v x
  | _, _, .nil => .nil
  | _, _, .cons h t => .cons (Rep.same s h) (RepF.same s t)
theorem RepK.same (s : Same G G') : ∀ {v : List (Key × V)} {x : List (Key × PV)}, RepK K G v x → RepK K G' v x
  | _, _, .nil => .nil
  | _, _, .cons h t => .cons (Rep.same s h) (RepK.same s t)
end
theorem Reps.len : ∀ {vs : List V} {xs : List PV}, Reps K G vs xs → vs.length = xs.length
  | _, _, .nil => rfl
  | _, _, .cons _ t => congrArg Nat.succ (Reps.len t)
theorem Reps.append {ws : List V} {ys : List PV} (h2 : Reps K G ws ys) : ∀ {vs : List V} {xs : List PV}, Reps K G vs xs → Reps K G (vs ++ ws) (xs ++ ys)
  | _, _, .nil => h2
  | _, _, .cons h t => .cons h (Reps.append h2 t)
theorem Reps.get : ∀ {vs : List V} {xs : List PV} {i : Nat} {x : PV}, Reps K G vs xs → xs[i]? = some x → ∃ v, vs[i]? = some v ∧ Rep K G v x
  | _, _, _, _, .nil, e => by simp at e
  | _, _, 0, _, .cons h _, e => by simp at e; subst e; exact ⟨_, rfl, h⟩
  | _, _, i + 1, x, .cons _ t, e => by
    obtain ⟨v, h1, h2⟩ := Reps.get (i := i) (x := x) t (by simpa using e)
    exact ⟨v, by simpa using h1, h2⟩
theorem Reps.get' : ∀ {vs : List V} {xs : List PV} {i : Nat} {v : V}, Reps K G vs xs → vs[i]? = some v → ∃ x, xs[i]? = some x ∧ Rep K G v x
  | _, _, _, _, .nil, e => by simp at e
  | _, _, 0, _, .cons h _, e => by simp at e; subst e; exact ⟨_, rfl, h⟩
  | _, _, i + 1, v, .cons _ t, e => by
    obtain ⟨x, h1, h2⟩ := Reps.get' (i := i) (v := v) t (by simpa using e)
    exact ⟨x, by simpa using h1, h2⟩
theorem Reps.take : ∀ {vs : List V} {xs : List PV} (n : Nat), Reps K G vs xs → Reps K G (vs.take n) (xs.take n)
  | _, _, 0, _ => .nil
  | _, _, _ + 1, .nil => .nil
  | _, _, n + 1, .cons h t => .cons h (Reps.take n t)
theorem Reps.drop : ∀ {vs : List V} {xs : List PV} (n : Nat), Reps K G vs xs → Reps K G (vs.drop n) (xs.drop n)
  | _, _, 0, h => h
  | _, _, _ + 1, .nil => .nil
  | _, _, n + 1, .cons _ t => Reps.drop n t
theorem Reps.set {v : V} {x : PV} (r : Rep K G v x) : ∀ {vs : List V} {xs : List PV} (i : Nat), Reps K G vs xs → Reps K G (vs.set i v) (xs.set i x)
  | _, _, _, .nil => .nil
  | _, _, 0, .cons _ t => .cons r t
  | _, _, i + 1, .cons q t => .cons q (Reps.set r i t)
theorem Reps.ints : ∀ {vs : List V} {ns : List Int}, Reps K G vs (ns.map PV.int) → vs = ns.map V.int
  | _, [], .nil => rfl
  | _, n :: ns, .cons (.int _) t => congrArg (V.int n :: ·) (Reps.ints t)
theorem Reps.of_ints : ∀ (ns : List Int), Reps K G (ns.map V.int) (ns.map PV.int)
  | [] => .nil
  | n :: ns => .cons (.int n) (Reps.of_ints ns)
theorem Reps.rep {v : V} {x : PV} (r : Rep K G v x) : ∀ n : Nat, Reps K G (List.replicate n v) (List.replicate n x)
  | 0 => .nil
  | n + 1 => .cons r (Reps.rep r n)
theorem RepF.get : ∀ {vs : List (Str × V)} {xs : List (Str × PV)} {f : Str} {x : PV}, RepF K G vs xs → xs.lookup f = some x → ∃ v, vs.lookup f = some v ∧ Rep K G v x
  | _, _, _, _, .nil, e => by cases e
  | _, _, f, x, .cons (n := n) h t, e => by
    rw [List.lookup_cons] at e
    cases q : f == n with
    | true =>
      rw [q] at e
      cases e
      exact ⟨_, by rw [List.lookup_cons, q], h⟩
    | false =>
      rw [q] at e
      obtain ⟨v, h1, h2⟩ := RepF.get t e
      exact ⟨v, by rw [List.lookup_cons, q]; exact h1, h2⟩
theorem RepF.no : ∀ {vs : List (Str × V)} {xs : List (Str × PV)} {f : Str}, RepF K G vs xs → xs.lookup f = none → vs.lookup f = none
  | _, _, _, .nil, _ => rfl
  | _, _, f, .cons (n := n) h t, e => by
    rw [List.lookup_cons] at e ⊢
    cases q : f == n with
    | true =>
      rw [q] at e
      cases e
    | false =>
      rw [q] at e
      exact RepF.no t e
theorem RepF.len : ∀ {vs : List (Str × V)} {xs : List (Str × PV)}, RepF K G vs xs → vs.length = xs.length
  | _, _, .nil => rfl
  | _, _, .cons _ t => congrArg Nat.succ (RepF.len t)
end
/-! ## slots -/
inductive Cell where
  | lst (xs : List PV) | ins (c : Str) (fs : List (Str × PV)) | dic (kvs : List (Key × PV))
def Cell.pv : Cell → PV
  | .lst xs => .lst xs
  | .ins c fs => .obj c fs
  | .dic kvs => .dic kvs
def CellR (K : PySem.W.Frag) (G H : Hp) (a : Addr) : Cell → Prop
  | .lst xs => ∃ vs, H a = some (.lst vs) ∧ Reps K G vs xs
  | .ins c fs => ∃ dx vs, H a = some (.ins (He.ga K c) dx vs) ∧ RepF K G vs fs
  | .dic kvs => ∃ vs, H a = some (.dK vs) ∧ RepK K G vs kvs
/-- a slot: anything; a value that stays; a thing of one's own that may change -/
inductive Sl where
  | no | sh (x : PV) | ow (a : Addr) (c : Cell)
abbrev PEnv := List Sl
def Slot (K : PySem.W.Frag) (R G H : Hp) (s : Option V) : Sl → Prop
  | .no => True
  | .sh x => ∃ v, s = some v ∧ Rep K G v x
  | .ow a c => s = some (.ref a) ∧ R a = none ∧ G a = none ∧ CellR K G H a c
structure At (K : PySem.W.Frag) (R G H : Hp) (σ : L2.St) (γ : PEnv) : Prop where
  rh : Same R H
  rg : ∀ a o, R a = some o → G a = none
  gh : Same G H
  len : σ.length = γ.length
  sl : ∀ (i : Nat) (g : Sl), γ[i]? = some g → ∃ s, σ[i]? = some s ∧ Slot K R G H s g
  di : ∀ (i j : Nat) (a : Addr) (c c' : Cell), γ[i]? = some (.ow a c) → γ[j]? = some (.ow a c') → i = j
/-- a new thing of one's own -/
structure OwnR (K : PySem.W.Frag) (R G H : Hp) (γ : PEnv) (a : Addr) (c : Cell) : Prop where
  r : R a = none
  g : G a = none
  c : CellR K G H a c
  n : ∀ (j : Nat) (c' : Cell), γ[j]? ≠ some (.ow a c')
section
variable {K : PySem.W.Frag} {R G G' H H' : Hp} {σ : L2.St} {γ : PEnv} {v : V} {x : PV} {a p : Addr} {c c' : Cell} {o : HO} {i : Nat}
theorem same_trans {H1 H2 H3 : Hp} (a : Same H1 H2) (b : Same H2 H3) : Same H1 H3 := fun c o h => b c o (a c o h)
theorem same_refl {H1 : Hp} : Same H1 H1 := fun _ _ h => h
theorem none_of {H1 H2 : Hp} (s : Same H1 H2) (n : H2 a = none) : H1 a = none := by
  cases e : H1 a with
  | none => rfl
  | some o => rw [s _ _ e] at n; cases n
theorem CellR.ex (h : CellR K G H a c) : ∃ o, H a = some o := by
  cases c with
  | lst xs => obtain ⟨_, e, _⟩ := h; exact ⟨_, e⟩
  | ins c fs => obtain ⟨_, _, e, _⟩ := h; exact ⟨_, e⟩
  | dic fs => obtain ⟨_, e, _⟩ := h; exact ⟨_, e⟩
theorem CellR.mono (h : CellR K G H a c) (s : Same G G') (k : ∀ o, H a = some o → H' a = some o) : CellR K G' H' a c := by
  cases c with
  | lst xs => obtain ⟨_, e, r⟩ := h; exact ⟨_, k _ e, r.same s⟩
  | ins c fs => obtain ⟨_, _, e, r⟩ := h; exact ⟨_, _, k _ e, r.same s⟩
  | dic fs => obtain ⟨_, e, r⟩ := h; exact ⟨_, k _ e, r.same s⟩
theorem CellR.rep (h : CellR K G H a c) (s : Same G G') (k : ∀ o, H a = some o → G' a = some o) : Rep K G' (.ref a) c.pv := by
  cases c with
  | lst xs => obtain ⟨_, e, r⟩ := h; exact .lst (k _ e) (r.same s)
  | ins c fs => obtain ⟨_, _, e, r⟩ := h; exact .obj (k _ e) (r.same s)
  | dic fs => obtain ⟨_, e, r⟩ := h; exact .dic (k _ e) (r.same s)
theorem At.sh (A : At K R G H σ γ) (e : γ[i]? = some (.sh x)) : ∃ v, σ[i]? = some (some v) ∧ Rep K G v x := by
  obtain ⟨s, h1, v, rfl, h2⟩ := A.sl i _ e
  exact ⟨v, h1, h2⟩
theorem At.ow (A : At K R G H σ γ) (e : γ[i]? = some (.ow a c)) : σ[i]? = some (some (.ref a)) ∧ R a = none ∧ G a = none ∧ CellR K G H a c := by
  obtain ⟨s, h1, rfl, h2, h3, h4⟩ := A.sl i _ e
  exact ⟨h1, h2, h3, h4⟩
/-- the heap grows, nothing is changed -/
theorem At.grow (A : At K R G H σ γ) (sg : Same G G') (sh : Same H H') (gh : Same G' H') (n : ∀ b o, H b = some o → G b = none → G' b = none) : At K R G' H' σ γ := by
  refine ⟨same_trans A.rh sh, fun b o e => n b o (A.rh _ _ e) (A.rg b o e), gh, A.len, fun j g e => ?_, A.di⟩
  obtain ⟨s, h1, h2⟩ := A.sl j g e
  refine ⟨s, h1, ?_⟩
  cases g with
  | no => trivial
  | sh x => obtain ⟨v, e1, r⟩ := h2; exact ⟨v, e1, r.same sg⟩
  | ow b c =>
    obtain ⟨e1, e2, e3, e4⟩ := h2
    obtain ⟨o, eo⟩ := CellR.ex e4
    exact ⟨e1, e2, n b o eo e3, CellR.mono e4 sg fun o q => sh _ _ q⟩
/-- a new object that stays -/
theorem At.newG (A : At K R G H σ γ) (n : H p = none) : At K R (upd G p o) (upd H p o) σ γ ∧ Same G (upd G p o) ∧ (upd G p o) p = some o := by
  have ng := none_of A.gh n
  refine ⟨A.grow (same_new ng) (same_new n) (fun b u e => ?_) (fun b u e h => ?_), same_new ng, upd_same⟩
  · by_cases h : b = p
    · subst h; rw [upd_same] at e ⊢; exact e
    · rw [upd_ne h] at e ⊢; exact A.gh _ _ e
  · rw [upd_ne (ne_of_none e n)]; exact h
/-- a new object that nobody keeps -/
theorem At.newT (A : At K R G H σ γ) (n : H p = none) : At K R G (upd H p o) σ γ :=
  A.grow same_refl (same_new n) (same_trans A.gh (same_new n)) fun _ _ _ h => h
theorem At.newO (A : At K R G H σ γ) (n : H p = none) (hc : CellR K G (upd H p o) p c) : At K R G (upd H p o) σ γ ∧ OwnR K R G (upd H p o) γ p c := by
  refine ⟨A.newT n, none_of A.rh n, none_of A.gh n, hc, fun j c' e => ?_⟩
  obtain ⟨o', eo⟩ := CellR.ex (A.ow e).2.2.2
  rw [n] at eo; cases eo
theorem get_set {α : Type} {l : List α} {i j : Nat} {x g : α} (e : (l.set i x)[j]? = some g) : (j = i ∧ g = x ∧ i < l.length) ∨ (j ≠ i ∧ l[j]? = some g) := by
  rw [List.getElem?_set] at e
  split at e
  · rename_i h
    split at e
    · cases e; exact .inl ⟨h.symm, rfl, by assumption⟩
    · cases e
  · rename_i h
    exact .inr ⟨Ne.symm h, e⟩
theorem At.set (A : At K R G H σ γ) (s : Option V) (g : Sl) (hs : Slot K R G H s g) (hd : ∀ (j : Nat) a c c', g = .ow a c → γ[j]? = some (.ow a c') → j = i) : At K R G H (σ.set i s) (γ.set i g) := by
  refine ⟨A.rh, A.rg, A.gh, by simp [A.len], fun j u e => ?_, fun j k b d d' e1 e2 => ?_⟩
  · rcases get_set e with ⟨rfl, rfl, hl⟩ | ⟨hn, e⟩
    · exact ⟨s, by rw [List.getElem?_set_self (by rw [A.len]; exact hl)], hs⟩
    · obtain ⟨t, h1, h2⟩ := A.sl j u e
      exact ⟨t, by rw [List.getElem?_set_ne (Ne.symm hn)]; exact h1, h2⟩
  · rcases get_set e1 with ⟨rfl, h1, _⟩ | ⟨n1, q1⟩
    · rcases get_set e2 with ⟨rfl, h2, _⟩ | ⟨n2, q2⟩
      · rfl
      · exact (hd k b d d' h1.symm q2).symm
    · rcases get_set e2 with ⟨rfl, h2, _⟩ | ⟨n2, q2⟩
      · exact hd j b d' d h2.symm q1
      · exact A.di j k b d d' q1 q2
theorem At.setS (A : At K R G H σ γ) (r : Rep K G v x) : At K R G H (σ.set i (some v)) (γ.set i (.sh x)) :=
  A.set _ _ ⟨v, rfl, r⟩ fun _ _ _ _ e => nomatch e
theorem At.setO (A : At K R G H σ γ) (r : OwnR K R G H γ a c) : At K R G H (σ.set i (some (.ref a))) (γ.set i (.ow a c)) :=
  A.set _ _ ⟨rfl, r.r, r.g, r.c⟩ fun j b d d' e h => by
    cases e
    exact absurd h (r.n j d')
/-- the cell at a is changed -/
theorem At.write (A : At K R G H σ γ) (e : γ[i]? = some (.ow a c)) (hc : CellR K G (upd H a o) a c') : At K R G (upd H a o) σ (γ.set i (.ow a c')) := by
  obtain ⟨h1, h2, h3, h4⟩ := A.ow e
  have hl : i < γ.length := (List.getElem?_eq_some_iff.mp e).1
  refine ⟨fun b u h => ?_, A.rg, fun b u h => ?_, by simp [A.len], fun j u q => ?_, fun j k b d d' e1 e2 => ?_⟩
  · rw [upd_ne (ne_of_none h h2)]; exact A.rh _ _ h
  · rw [upd_ne (ne_of_none h h3)]; exact A.gh _ _ h
  · rcases get_set q with ⟨rfl, rfl, _⟩ | ⟨hn, q1⟩
    · exact ⟨_, h1, rfl, h2, h3, hc⟩
    · obtain ⟨s, g1, g2⟩ := A.sl j u q1
      refine ⟨s, g1, ?_⟩
      cases u with
      | no => trivial
      | sh x => exact g2
      | ow b d =>
        obtain ⟨f1, f2, f3, f4⟩ := g2
        have hb : b ≠ a := fun z => hn (by subst z; exact A.di j i b d c q1 e)
        exact ⟨f1, f2, f3, CellR.mono f4 same_refl fun o q => by rw [upd_ne hb]; exact q⟩
  · rcases get_set e1 with ⟨rfl, h1, _⟩ | ⟨n1, q1⟩
    · cases h1
      rcases get_set e2 with ⟨rfl, h2, _⟩ | ⟨n2, q2⟩
      · rfl
      · exact (A.di k j a d' c q2 e).symm
    · rcases get_set e2 with ⟨rfl, h2, _⟩ | ⟨n2, q2⟩
      · cases h2
        exact A.di j k a d c q1 e
      · exact A.di j k b d d' q1 q2
/-- from now on it stays as it is -/
theorem At.freeze (A : At K R G H σ γ) (e : γ[i]? = some (.ow a c)) : ∃ G', Same G G' ∧ At K R G' H σ (γ.set i (.sh c.pv)) ∧ Rep K G' (.ref a) c.pv := by
  obtain ⟨h1, h2, h3, h4⟩ := A.ow e
  obtain ⟨o, ho⟩ := CellR.ex h4
  have sg : Same G (upd G a o) := same_new h3
  have rp : Rep K (upd G a o) (.ref a) c.pv := CellR.rep h4 sg fun o' q => by rw [upd_same, ← ho]; exact q
  refine ⟨upd G a o, sg, ⟨A.rh, fun b u hb => ?_, fun b u hb => ?_, by simp [A.len], fun j u q => ?_, fun j k b d d' e1 e2 => ?_⟩, rp⟩
  · rw [upd_ne (ne_of_none hb h2)]; exact A.rg _ _ hb
  · by_cases h : b = a
    · subst h; rw [upd_same] at hb; cases hb; exact ho
    · rw [upd_ne h] at hb; exact A.gh _ _ hb
  · rcases get_set q with ⟨rfl, rfl, _⟩ | ⟨hn, q1⟩
    · exact ⟨_, h1, _, rfl, rp⟩
    · obtain ⟨s, g1, g2⟩ := A.sl j u q1
      refine ⟨s, g1, ?_⟩
      cases u with
      | no => trivial
      | sh x => obtain ⟨v, e1, r⟩ := g2; exact ⟨v, e1, r.same sg⟩
      | ow b d =>
        obtain ⟨f1, f2, f3, f4⟩ := g2
        have hb : b ≠ a := fun z => hn (by subst z; exact A.di j i b d c q1 e)
        exact ⟨f1, f2, by rw [upd_ne hb]; exact f3, CellR.mono f4 sg fun o q => q⟩
  · rcases get_set e1 with ⟨rfl, h1, _⟩ | ⟨n1, q1⟩
    · cases h1
    · rcases get_set e2 with ⟨rfl, h2, _⟩ | ⟨n2, q2⟩
      · cases h2
      · exact A.di j k b d d' q1 q2
/-- a new thing, from now on it stays -/
theorem OwnR.freeze (O : OwnR K R G H γ a c) (A : At K R G H σ γ) : ∃ G', Same G G' ∧ At K R G' H σ γ ∧ Rep K G' (.ref a) c.pv := by
  obtain ⟨o, ho⟩ := CellR.ex O.c
  have sg : Same G (upd G a o) := same_new O.g
  refine ⟨upd G a o, sg, ⟨A.rh, fun b u hb => ?_, fun b u hb => ?_, A.len, fun j u q => ?_, A.di⟩, CellR.rep O.c sg fun o' q => by rw [upd_same, ← ho]; exact q⟩
  · rw [upd_ne (ne_of_none hb O.r)]; exact A.rg _ _ hb
  · by_cases h : b = a
    · subst h; rw [upd_same] at hb; cases hb; exact ho
    · rw [upd_ne h] at hb; exact A.gh _ _ hb
  · obtain ⟨s, g1, g2⟩ := A.sl j u q
    refine ⟨s, g1, ?_⟩
    cases u with
    | no => trivial
    | sh x => obtain ⟨v, e1, r⟩ := g2; exact ⟨v, e1, r.same sg⟩
    | ow b d =>
      obtain ⟨f1, f2, f3, f4⟩ := g2
      have hb : b ≠ a := fun z => O.n j d (by subst z; exact q)
      exact ⟨f1, f2, by rw [upd_ne hb]; exact f3, CellR.mono f4 sg fun o q => q⟩
end
end Pu

/-! Pu1: expressions over such values -/
namespace Pu
open PySem PySem.Spec PyProof.Rows L2 Lay
abbrev EK := Str → List (Str × PV) → PEnv → Prop
abbrev PX := PEnv → (PV → PEnv → Prop) → EK → Prop
abbrev PXO := PEnv → (Addr → Cell → PEnv → Prop) → EK → Prop
abbrev PXB := PEnv → (Bool → PEnv → Prop) → EK → Prop
abbrev PXA := PEnv → (List PV → PEnv → Prop) → EK → Prop
def ExR (K : PySem.W.Frag) (R G : Hp) (σ : L2.St) (Ex : WX) (Ep : EK) : Prop :=
  ∀ (c : Str) (d : Addr) (ws : List (Str × V)) (fs : List (Str × PV)) (H' G' : Hp) (γ' : PEnv), Same G G' → At K R G' H' σ γ' → H' d = some (.xd ws) → R d = none → RepF K G' ws fs → Ep c fs γ' → Ex (.ref (He.ga K c)) (some d) σ H'
theorem ExR.mono {K : PySem.W.Frag} {R G G1 : Hp} {σ : L2.St} {Ex : WX} {Ep : EK} (h : ExR K R G σ Ex Ep) (s : Same G G1) : ExR K R G1 σ Ex Ep :=
  fun c d ws fs H' G' γ' s' A e n r q => h c d ws fs H' G' γ' (same_trans s s') A e n r q
def tP (K : PySem.W.Frag) (Ex : WX) (p : PX) : TE := fun σ H Q => ∃ (R G : Hp) (γ : PEnv) (Kp : PV → PEnv → Prop) (Ep : EK), At K R G H σ γ ∧ p γ Kp Ep ∧
  (∀ v H' G' x γ', Same G G' → At K R G' H' σ γ' → Rep K G' v x → Kp x γ' → Q v H') ∧ ExR K R G σ Ex Ep
def tO (K : PySem.W.Frag) (Ex : WX) (p : PXO) : TE := fun σ H Q => ∃ (R G : Hp) (γ : PEnv) (Kp : Addr → Cell → PEnv → Prop) (Ep : EK), At K R G H σ γ ∧ p γ Kp Ep ∧
  (∀ a H' G' c γ', Same G G' → At K R G' H' σ γ' → OwnR K R G' H' γ' a c → Kp a c γ' → Q (.ref a) H') ∧ ExR K R G σ Ex Ep
def tT (K : PySem.W.Frag) (Ex : WX) (p : PXB) : TT := fun σ H Q => ∃ (R G : Hp) (γ : PEnv) (Kp : Bool → PEnv → Prop) (Ep : EK), At K R G H σ γ ∧ p γ Kp Ep ∧
  (∀ b H' G' γ', Same G G' → At K R G' H' σ γ' → Kp b γ' → Q b H') ∧ ExR K R G σ Ex Ep
def tA (K : PySem.W.Frag) (Ex : WX) (p : PXA) : TA := fun σ H Q => ∃ (R G : Hp) (γ : PEnv) (Kp : List PV → PEnv → Prop) (Ep : EK), At K R G H σ γ ∧ p γ Kp Ep ∧
  (∀ vs H' G' xs γ', Same G G' → At K R G' H' σ γ' → Reps K G' vs xs → Kp xs γ' → Q vs H') ∧ ExR K R G σ Ex Ep
abbrev JV (X : Cx) (Ex : WX) (e : Expr) (p : PX) : Prop := PE X e (tP X.K Ex p)
abbrev JO (X : Cx) (Ex : WX) (e : Expr) (p : PXO) : Prop := PE X e (tO X.K Ex p)
abbrev JB (X : Cx) (Ex : WX) (e : Expr) (p : PXB) : Prop := PT X e (tT X.K Ex p)
abbrev JA (X : Cx) (Ex : WX) (es : List Expr) (p : PXA) : Prop := PA X es (tA X.K Ex p)
theorem PE.imp {X : Cx} {e : Expr} {t t' : TE} (h : PE X e t) (i : ∀ σ H Q, t' σ H Q → t σ H Q) : PE X e t' := ⟨fun pins s σ H Q I q => h.run pins s σ H Q I (i σ H Q q)⟩
theorem PT.imp {X : Cx} {e : Expr} {t t' : TT} (h : PT X e t) (i : ∀ σ H Q, t' σ H Q → t σ H Q) : PT X e t' := ⟨fun pins s σ H Q I q => h.run pins s σ H Q I (i σ H Q q)⟩
theorem PW.imp {X : Cx} {e : Expr} {t t' : TT} (h : PW X e t) (i : ∀ σ H Q, t' σ H Q → t σ H Q) : PW X e t' := ⟨fun wh pins s σ H Q I q => h.run wh pins s σ H Q I (i σ H Q q)⟩
theorem PA.imp {X : Cx} {es : List Expr} {t t' : TA} (h : PA X es t) (i : ∀ σ H Q, t' σ H Q → t σ H Q) : PA X es t' := ⟨fun pos pins s σ H Q I q => h.run pos pins s σ H Q I (i σ H Q q)⟩
section
variable {X : Cx} {Ex : WX} {e a b c : Expr} {es : List Expr} {p q r : PX} {pa : PXA} {pos : PySem.Pos} {i : Nat}
/-! ### names, constants -/
def pVar (i : Nat) : PX := fun γ K _ => match γ[i]? with
  | some (.sh x) => K x γ
  | _ => False
theorem pp_v (h : PE X e (tVar i)) : JV X Ex e (pVar i) := PE.imp h fun σ H Q ⟨R, G, γ, Kp, Ep, A, h, k, _⟩ => by
  unfold pVar at h
  split at h
  · rename_i x e
    obtain ⟨v, e1, r⟩ := A.sh e
    exact ⟨v, e1, k v H G x γ same_refl A r h⟩
  · exact h.elim
/-- a thing of one's own is given away: from now on it stays as it is -/
def pFz (i : Nat) : PX := fun γ K _ => match γ[i]? with
  | some (.ow _ c) => K c.pv (γ.set i (.sh c.pv))
  | _ => False
theorem pp_fz (h : PE X e (tVar i)) : JV X Ex e (pFz i) := PE.imp h fun σ H Q ⟨R, G, γ, Kp, Ep, A, h, k, _⟩ => by
  unfold pFz at h
  split at h
  · rename_i a c e
    obtain ⟨G', s, A', r⟩ := A.freeze e
    exact ⟨_, (A.ow e).1, k _ H G' _ _ s A' r h⟩
  · exact h.elim
/-- a thing of one's own moves -/
def pMv (i : Nat) : PXO := fun γ K _ => match γ[i]? with
  | some (.ow a c) => K a c (γ.set i .no)
  | _ => False
theorem pp_mv (h : PE X e (tVar i)) : JO X Ex e (pMv i) := PE.imp h fun σ H Q ⟨R, G, γ, Kp, Ep, A, h, k, _⟩ => by
  unfold pMv at h
  split at h
  · rename_i a c e
    obtain ⟨h1, h2, h3, h4⟩ := A.ow e
    refine ⟨_, h1, k a H G c _ same_refl ?_ ⟨h2, h3, h4, fun j c' q => ?_⟩ h⟩
    · refine ⟨A.rh, A.rg, A.gh, by simp [A.len], fun j g q => ?_, fun j l b d d' e1 e2 => ?_⟩
      · rcases get_set q with ⟨rfl, rfl, _⟩ | ⟨_, q⟩
        · exact ⟨_, h1, trivial⟩
        · exact A.sl j g q
      · rcases get_set e1 with ⟨_, z, _⟩ | ⟨_, q1⟩
        · cases z
        · rcases get_set e2 with ⟨_, z, _⟩ | ⟨_, q2⟩
          · cases z
          · exact A.di _ _ _ _ _ q1 q2
    · rcases get_set q with ⟨_, z, _⟩ | ⟨n, q⟩
      · cases z
      · exact n (A.di _ _ _ _ _ q e)
  · exact h.elim
def pC (x : PV) : PX := fun γ K _ => K x γ
theorem pp_c {v : V} {x : PV} (h : PE X e (tC v)) (r : ∀ G, Rep X.K G v x) : JV X Ex e (pC x) := PE.imp h fun σ H Q ⟨R, G, γ, Kp, Ep, A, h, k, _⟩ => k v H G x γ same_refl A (r G) h
theorem pp_int {i j} : JV X Ex (.Constant (.int i) j pos) (pC (.int i)) := pp_c pe_int fun _ => .int _
theorem pp_bl {b j} : JV X Ex (.Constant (.bool b) j pos) (pC (.bl b)) := pp_c pe_bl fun _ => .bl _
theorem pp_non {j} : JV X Ex (.Constant .none j pos) (pC .non) := pp_c pe_non fun _ => .non
theorem pp_str {x j} : JV X Ex (.Constant (.str x) j pos) (pC (.str x)) := pp_c pe_str fun _ => .str _
theorem pp_gi {k : Int} (h : PE X e (tC (.int k))) : JV X Ex e (pC (.int k)) := pp_c h fun _ => .int _
theorem pp_gty {n : String} (h : PE X e (tC (.ty n))) : JV X Ex e (pC (.ty n)) := pp_c h fun _ => .ty _
theorem pp_gt {a : Addr} {vs : List V} {xs : List PV} (h : PE X e (tC (.ref a))) (hs : ∀ G, TupR X.K G a vs) (r : ∀ G, Reps X.K G vs xs) : JV X Ex e (pC (.tup xs)) := pp_c h fun G => .tup (hs G) (r G)
/-- from one's own to what stays -/
def pSh (p : PXO) : PX := fun γ K E => p γ (fun _ c γ' => K c.pv γ') E
theorem pp_sh {p : PXO} (h : JO X Ex e p) : JV X Ex e (pSh p) := PE.imp h fun σ H Q ⟨R, G, γ, Kp, Ep, A, h, k, x⟩ =>
  ⟨R, G, γ, _, Ep, A, h, fun a H' G' c γ' s A' O q => by
    obtain ⟨G2, s2, A2, r⟩ := O.freeze A'
    exact k _ H' G2 _ γ' (same_trans s s2) A2 r q, x⟩
/-! ### operators -/
def Bin (K : PySem.W.Frag) (r : R2) (rp : PV → PV → (PV → Prop) → Prop) : Prop := ∀ {R G H : Hp} {σ : L2.St} {γ : PEnv} {v w : V} {x y : PV} {Kp : PV → Prop} {Q : VK}, At K R G H σ γ → Rep K G v x → Rep K G w y → rp x y Kp →
  (∀ u H' G' z, Same G G' → At K R G' H' σ γ → Rep K G' u z → Kp z → Q u H') → r v w H Q
theorem Bin.or {K : PySem.W.Frag} {r r' : R2} {f g : PV → PV → (PV → Prop) → Prop} (h : Bin K r f) (h' : Bin K r' g) : Bin K (fun x y H Q => r x y H Q ∨ r' x y H Q) (fun x y k => f x y k ∨ g x y k) := fun A rx ry q k => by
  rcases q with q | q
  · exact .inl (h A rx ry q k)
  · exact .inr (h' A rx ry q k)
theorem Bin.imp {K : PySem.W.Frag} {r : R2} {f g : PV → PV → (PV → Prop) → Prop} (h : Bin K r f) (i : ∀ x y k, g x y k → f x y k) : Bin K r g := fun A rx ry q k => h A rx ry (i _ _ _ q) k
def pBin (rp : PV → PV → (PV → Prop) → Prop) (p q : PX) : PX := fun γ K E => p γ (fun x γ1 => q γ1 (fun y γ2 => rp x y fun z => K z γ2) E) E
theorem bin_imp {K : PySem.W.Frag} {r : R2} {rp : PV → PV → (PV → Prop) → Prop} (hr : Bin K r rp) (σ : L2.St) (H : Hp) (Q : VK) (h : tP K Ex (pBin rp p q) σ H Q) : tOp r (tP K Ex p) (tP K Ex q) σ H Q := by
  obtain ⟨R, G, γ, Kp, Ep, A, h, k, x⟩ := h
  refine ⟨R, G, γ, _, Ep, A, h, fun v H1 G1 y γ1 s1 A1 r1 h1 => ?_, x⟩
  refine ⟨R, G1, γ1, _, Ep, A1, h1, fun w H2 G2 z γ2 s2 A2 r2 h2 => ?_, x.mono s1⟩
  exact hr A2 (r1.same s2) r2 h2 fun u H' G' z' s3 A3 r3 q3 => k u H' G' z' γ2 (same_trans s1 (same_trans s2 s3)) A3 r3 q3
theorem pp_op {op : Operator} {r : R2} {rp : PV → PV → (PV → Prop) → Prop} (ho : OpR X (binaryOp op) r) (hr : Bin X.K r rp) (ha : JV X Ex a p) (hb : JV X Ex b q) : JV X Ex (.BinOp a op b pos) (pBin rp p q) := PE.imp (pe_op ho ha hb) (bin_imp hr)
theorem pp_cmp {op : CmpOp} {r : R2} {rp : PV → PV → (PV → Prop) → Prop} (ho : OpR X (compareOp op) r) (hr : Bin X.K r rp) (ha : JV X Ex a p) (hb : JV X Ex b q) (hm : behindInMarks op b = false := by exact nomark _) : JV X Ex (.Compare a [op] [b] pos) (pBin rp p q) := PE.imp (pe_cmpR ho ha hb hm) (bin_imp hr)
def pBinB (rp : PV → PV → (PV → Prop) → Prop) (p q : PX) : PXB := fun γ K E => p γ (fun x γ1 => q γ1 (fun y γ2 => rp x y fun z => match z with | .bl b => K b γ2 | _ => False) E) E
theorem pb_cmp {op : CmpOp} {r : R2} {rp : PV → PV → (PV → Prop) → Prop} (ho : OpR X (compareOp op) r) (hr : Bin X.K r rp) (ha : JV X Ex a p) (hb : JV X Ex b q) (hm : behindInMarks op b = false := by exact nomark _) : JB X Ex (.Compare a [op] [b] pos) (pBinB rp p q) := by
  refine PT.imp (pt_cmpR ho ha hb hm) fun σ H Q h => ?_
  obtain ⟨R, G, γ, Kp, Ep, A, h, k, x⟩ := h
  refine bin_imp hr σ H _ ⟨R, G, γ, fun z γ2 => match z with | .bl b => Kp b γ2 | _ => False, Ep, A, h, fun v H1 G1 y γ1 s1 A1 r1 h1 => ?_, x⟩
  dsimp only at h1
  split at h1
  · rename_i bb
    cases r1
    exact ⟨bb, rfl, k bb H1 G1 γ1 s1 A1 h1⟩
  · exact h1.elim
-- ints
def intP (g : Int → Int → PV) (x y : PV) (k : PV → Prop) : Prop := match x, y with
  | .int i, .int j => k (g i j)
  | _, _ => False
theorem bin_int {K : PySem.W.Frag} {f : Int → Int → V} {g : Int → Int → PV} (hg : ∀ i j G, Rep K G (f i j) (g i j)) : Bin K (rI0 f) (intP g) := fun {R G H σ γ v w x y Kp Q} A rx ry q k => by
  unfold intP at q
  split at q
  · rename_i i j
    cases rx
    cases ry
    exact ⟨i, j, rfl, rfl, k _ H G _ same_refl A (hg _ _ _) q⟩
  · exact q.elim
def intCP (C : Int → Int → Prop) (g : Int → Int → PV) (x y : PV) (k : PV → Prop) : Prop := match x, y with
  | .int i, .int j => C i j ∧ k (g i j)
  | _, _ => False
theorem bin_intC {K : PySem.W.Frag} {C : Int → Int → Prop} {f : Int → Int → V} {g : Int → Int → PV} (hg : ∀ i j G, Rep K G (f i j) (g i j)) : Bin K (rI C f) (intCP C g) := fun {R G H σ γ v w x y Kp Q} A rx ry q k => by
  unfold intCP at q
  split at q
  · rename_i i j
    cases rx
    cases ry
    exact ⟨i, j, rfl, rfl, q.1, k _ H G _ same_refl A (hg _ _ _) q.2⟩
  · exact q.elim
theorem pp_sub (ha : JV X Ex a p) (hb : JV X Ex b q) : JV X Ex (.BinOp a .Sub b pos) (pBin (intP fun i j => .int (i - j)) p q) := pp_op op_sub (bin_int fun _ _ _ => .int _) ha hb
theorem pp_mod (ha : JV X Ex a p) (hb : JV X Ex b q) : JV X Ex (.BinOp a .Mod b pos) (pBin (intCP (fun _ j => 0 < j) fun i j => .int (i % j)) p q) := pp_op op_mod (bin_intC fun _ _ _ => .int _) ha hb
theorem pp_fdiv (ha : JV X Ex a p) (hb : JV X Ex b q) : JV X Ex (.BinOp a .FloorDiv b pos) (pBin (intCP CDivW fun i j => .int (i / j)) p q) := pp_op op_fdivW (bin_intC fun _ _ _ => .int _) ha hb
theorem pp_pow (ha : JV X Ex a p) (hb : JV X Ex b q) : JV X Ex (.BinOp a .Pow b pos) (pBin (intCP CPowW fun i j => .int (i ^ j.toNat)) p q) := pp_op op_powW (bin_intC fun _ _ _ => .int _) ha hb
theorem pp_and_ (ha : JV X Ex a p) (hb : JV X Ex b q) : JV X Ex (.BinOp a .BitAnd b pos) (pBin (intP fun i j => .int (Builtin.bitAnd i j)) p q) := pp_op op_and (bin_int fun _ _ _ => .int _) ha hb
theorem pp_shr (ha : JV X Ex a p) (hb : JV X Ex b q) : JV X Ex (.BinOp a .RShift b pos) (pBin (intCP (fun _ j => 0 ≤ j) fun i j => .int (i / 2 ^ j.toNat)) p q) := pp_op op_shr (bin_intC fun _ _ _ => .int _) ha hb
theorem pp_shl (ha : JV X Ex a p) (hb : JV X Ex b q) : JV X Ex (.BinOp a .LShift b pos) (pBin (intCP CPow fun i j => .int (i * 2 ^ j.toNat)) p q) := pp_op op_shl (bin_intC fun _ _ _ => .int _) ha hb
def ltP := intP fun i j => .bl (decide (i < j))
def leP := intP fun i j => .bl (decide (i ≤ j))
def gtP := intP fun i j => .bl (decide (j < i))
def geP := intP fun i j => .bl (decide (j ≤ i))
theorem bin_lt {K : PySem.W.Frag} : Bin K (rI0 fun i j => .bl (decide (i < j))) ltP := bin_int fun _ _ _ => .bl _
theorem bin_le {K : PySem.W.Frag} : Bin K (rI0 fun i j => .bl (decide (i ≤ j))) leP := bin_int fun _ _ _ => .bl _
theorem bin_gt {K : PySem.W.Frag} : Bin K (rI0 fun i j => .bl (decide (j < i))) gtP := bin_int fun _ _ _ => .bl _
theorem bin_ge {K : PySem.W.Frag} : Bin K (rI0 fun i j => .bl (decide (j ≤ i))) geP := bin_int fun _ _ _ => .bl _
-- +
def addP (x y : PV) (k : PV → Prop) : Prop := match x, y with
  | .int i, .int j => k (.int (i + j))
  | .lst xs, .lst ys => xs.length + ys.length ≤ sizeLine ∧ k (.lst (xs ++ ys))
  | .str a, .str b => a.length + b.length ≤ sizeLine ∧ k (.str (a ++ b))
  | .byt a, .byt b => a.size + b.size ≤ 16777216 ∧ k (.byt (a ++ b))
  | _, _ => False
def rAddA : R2 := fun x y H Q => rI0 (fun i j => .int (i + j)) x y H Q ∨ rCat x y H Q ∨ (∃ i j, x = .str i ∧ y = .str j ∧ i.length + j.length ≤ sizeLine ∧ Q (.str (i ++ j)) H) ∨ ∃ i j, x = .byt i ∧ y = .byt j ∧ i.size + j.size ≤ 16777216 ∧ Q (.byt (i ++ j)) H
theorem op_addA : OpR X (binaryOp .Add) rAddA := op_add.or (op_cat.or (op_add_str.or op_add_byt))
theorem bin_add {K : PySem.W.Frag} : Bin K rAddA addP := fun {R G H σ γ v w x y Kp Q} A rx ry q k => by
  unfold addP at q
  split at q
  · cases rx; cases ry
    exact .inl ⟨_, _, rfl, rfl, k _ H G _ same_refl A (.int _) q⟩
  · rename_i xs ys
    cases rx with
    | lst h1 r1 =>
      cases ry with
      | lst h2 r2 =>
        refine .inr (.inl ⟨_, _, _, _, rfl, rfl, A.gh _ _ h1, A.gh _ _ h2, by rw [r1.len, r2.len]; exact q.1, fun l nl => ?_⟩)
        obtain ⟨A', s, g⟩ := A.newG (o := .lst _) nl
        exact k _ _ _ _ s A' (.lst g ((r2.append r1).same s)) q.2
  · cases rx; cases ry
    exact .inr (.inr (.inl ⟨_, _, rfl, rfl, q.1, k _ H G _ same_refl A (.str _) q.2⟩))
  · cases rx; cases ry
    exact .inr (.inr (.inr ⟨_, _, rfl, rfl, q.1, k _ H G _ same_refl A (.byt _) q.2⟩))
  · exact q.elim
theorem pp_add (ha : JV X Ex a p) (hb : JV X Ex b q) : JV X Ex (.BinOp a .Add b pos) (pBin addP p q) := pp_op op_addA bin_add ha hb
-- *
def mulP (x y : PV) (k : PV → Prop) : Prop := match x, y with
  | .int i, .int j => (CMul i j ∨ CMulW i j) ∧ k (.int (i * j))
  | .lst xs, .int j => (-(2 ^ 63) ≤ j ∧ j < 2 ^ 63) ∧ xs.length * j.toNat ≤ sizeLine ∧ k (.lst (List.replicate j.toNat xs).flatten)
  | _, _ => False
def rMulA : R2 := fun x y H Q => rI CMul (fun i j => .int (i * j)) x y H Q ∨ rI CMulW (fun i j => .int (i * j)) x y H Q ∨ rRep x y H Q
theorem op_mulA : OpR X (binaryOp .Mult) rMulA := op_mul.or (op_mulW.or op_rep)
theorem Reps.flat {K : PySem.W.Frag} {G : Hp} {vs : List V} {xs : List PV} (r : Reps K G vs xs) : ∀ n : Nat, Reps K G (List.replicate n vs).flatten (List.replicate n xs).flatten
  | 0 => .nil
  | n + 1 => by
    rw [List.replicate_succ, List.replicate_succ, List.flatten_cons, List.flatten_cons]
    exact (Reps.append (Reps.flat r n) r)
theorem bin_mul {K : PySem.W.Frag} : Bin K rMulA mulP := fun {R G H σ γ v w x y Kp Q} A rx ry q k => by
  unfold mulP at q
  split at q
  · cases rx; cases ry
    obtain ⟨c | c, q⟩ := q
    · exact .inl ⟨_, _, rfl, rfl, c, k _ H G _ same_refl A (.int _) q⟩
    · exact .inr (.inl ⟨_, _, rfl, rfl, c, k _ H G _ same_refl A (.int _) q⟩)
  · cases rx with
    | lst h1 r1 =>
      cases ry
      obtain ⟨⟨q1, q2⟩, q3, q4⟩ := q
      refine .inr (.inr ⟨_, _, _, rfl, rfl, A.gh _ _ h1, q1, q2, by rw [r1.len]; exact q3, fun l nl => ?_⟩)
      obtain ⟨A', s, g⟩ := A.newG (o := .lst _) nl
      exact k _ _ _ _ s A' (.lst g ((r1.flat _).same s)) q4
  · exact q.elim
theorem pp_mul (ha : JV X Ex a p) (hb : JV X Ex b q) : JV X Ex (.BinOp a .Mult b pos) (pBin mulP p q) := pp_op op_mulA bin_mul ha hb
-- -x, not x
def pNeg (p : PX) : PX := fun γ K E => p γ (fun x γ1 => match x with | .int i => K (.int (-i)) γ1 | _ => False) E
theorem pp_neg (ha : JV X Ex a p) : JV X Ex (.UnaryOp .USub a pos) (pNeg p) := PE.imp (pe_un un_neg ha) fun σ H Q ⟨R, G, γ, Kp, Ep, A, h, k, x⟩ =>
  ⟨R, G, γ, _, Ep, A, h, fun v H1 G1 y γ1 s1 A1 r1 h1 => by
    split at h1
    · cases r1
      exact ⟨_, rfl, k _ H1 G1 _ γ1 s1 A1 (.int _) h1⟩
    · exact h1.elim, x⟩
def pNot (p : PX) : PX := fun γ K E => p γ (fun x γ1 => match x with | .bl b => K (.bl (!b)) γ1 | _ => False) E
theorem pp_not (ha : JV X Ex a p) : JV X Ex (.UnaryOp .Not a pos) (pNot p) := PE.imp (pe_not ha) fun σ H Q ⟨R, G, γ, Kp, Ep, A, h, k, x⟩ =>
  ⟨R, G, γ, _, Ep, A, h, fun v H1 G1 y γ1 s1 A1 r1 h1 => by
    split at h1
    · cases r1
      exact ⟨_, rfl, k _ H1 G1 _ γ1 s1 A1 (.bl _) h1⟩
    · exact h1.elim, x⟩
/-! ### is None -/
def PV.isNon : PV → Bool | .non => true | _ => false
def isNP (x y : PV) (k : PV → Prop) : Prop := match y with | .non => k (.bl x.isNon) | _ => False
def notNP (x y : PV) (k : PV → Prop) : Prop := match y with | .non => k (.bl (!x.isNon)) | _ => False
theorem Rep.isNon {K : PySem.W.Frag} {G : Hp} {v : V} {x : PV} (r : Rep K G v x) : decide (v = .non) = x.isNon := by
  cases r <;> rfl
theorem bin_isN {K : PySem.W.Frag} : Bin K (fun x y H Q => y = .non ∧ Q (.bl (decide (x = .non))) H) isNP := fun {R G H σ γ v w x y Kp Q} A rx ry q k => by
  unfold isNP at q
  split at q
  · cases ry
    exact ⟨rfl, by rw [rx.isNon]; exact k _ H G _ same_refl A (.bl _) q⟩
  · exact q.elim
theorem bin_notN {K : PySem.W.Frag} : Bin K (fun x y H Q => y = .non ∧ Q (.bl (!decide (x = .non))) H) notNP := fun {R G H σ γ v w x y Kp Q} A rx ry q k => by
  unfold notNP at q
  split at q
  · cases ry
    exact ⟨rfl, by rw [rx.isNon]; exact k _ H G _ same_refl A (.bl _) q⟩
  · exact q.elim
/-! ### == -/
def eqS : PV → PV → Option Bool
  | .non, .non => some true | .non, .int _ => some false | .int _, .non => some false | .non, .bl _ => some false | .bl _, .non => some false | .non, .str _ => some false | .str _, .non => some false
  | .int i, .int j => some (decide (i = j)) | .bl i, .bl j => some (decide (i = j)) | .str i, .str j => some (decide (i = j)) | .byt i, .byt j => some (decide (i = j))
  | .int _, .str _ => some false | .str _, .int _ => some false | .bl _, .str _ => some false | .str _, .bl _ => some false
  | _, _ => none
mutual
def PV.dat : PV → Option PyData
  | .non => some .none
  | .bl b => some (.bool b)
  | .int i => some (.int i)
  | .str x => some (.str x)
  | .lst xs => (PV.dats xs).map .list
  | .tup xs => (PV.dats xs).map .tuple
  | _ => none
def PV.dats : List PV → Option (List PyData)
  | [] => some []
  | x :: xs => match PV.dat x, PV.dats xs with
    | some d, some ds => some (d :: ds)
    | _, _ => none
end
def eqP (x y : PV) (k : PV → Prop) : Prop := match eqS x y with
  | some b => k (.bl b)
  | none => (match x, y with
    | .dic [], .dic [] => k (.bl true)
    | x, y => ∃ d e, x.dat = some d ∧ y.dat = some e ∧ SeqAt.shaped d = true ∧ SeqAt.shaped e = true ∧ k (.bl (PyData.eqv d e)))
def neP (x y : PV) (k : PV → Prop) : Prop := match eqS x y with
  | some b => k (.bl (!b))
  | none => ∃ d e, x.dat = some d ∧ y.dat = some e ∧ SeqAt.shaped d = true ∧ SeqAt.shaped e = true ∧ k (.bl (!PyData.eqv d e))
mutual
theorem Rep.dp {K : PySem.W.Frag} {G H : Hp} (s : Same G H) : ∀ {v : V} {x : PV} {d : PyData}, Rep K G v x → x.dat = some d → Dp K H v d
  | _, .non, _, .non, e => by cases e; exact .non
  | _, .bl _, _, .bl _, e => by cases e; exact .bl _
  | _, .int _, _, .int _, e => by cases e; exact .int _
  | _, .str _, _, .str _, e => by cases e; exact .str _
  | _, .lst xs, d, .lst h r, e => by
    rw [PV.dat, Option.map_eq_some_iff] at e
    obtain ⟨ds, e, rfl⟩ := e
    exact .lst (SqL.of (s _ _ h)) (Reps.dp s r e)
  | _, .tup xs, d, .tup h r, e => by
    rw [PV.dat, Option.map_eq_some_iff] at e
    obtain ⟨ds, e, rfl⟩ := e
    exact .tup (h.sq s) (Reps.dp s r e)
  | _, .byt _, _, .byt _, e => by simp [PV.dat] at e
  | _, .ty _, _, .ty _, e => by simp [PV.dat] at e
  | _, .adr _, _, .adr _, e => by simp [PV.dat] at e
  | _, .dic _, _, .dic _ _, e => by simp [PV.dat] at e
  | _, .obj _ _, _, .obj _ _, e => by simp [PV.dat] at e
  | _, .exo _ _ _ _, _, .exo _ _, e => by simp [PV.dat] at e
  | _, .ro _, _, .ro _ _, e => by simp [PV.dat] at e
theorem Reps.dp {K : PySem.W.Frag} {G H : Hp} (s : Same G H) : ∀ {vs : List V} {xs : List PV} {ds : List PyData}, Reps K G vs xs → PV.dats xs = some ds → DpAll K H vs ds
  | _, _, _, .nil, e => by simp [PV.dats] at e; subst e; exact .nil
  | _, x :: xs, ds, .cons h t, e => by
    rw [PV.dats] at e
    split at e
    · rename_i d es e1 e2
      cases e
      exact .cons (Rep.dp s h e1) (Reps.dp s t e2)
    · cases e
end
theorem rep_scal {K : PySem.W.Frag} {G : Hp} {v w : V} {x y : PV} {b : Bool} (rx : Rep K G v x) (ry : Rep K G w y) (e : eqS x y = some b) : scal v w = true ∧ decide (v = w) = b := by
  cases rx <;> cases ry <;> first
    | (simp only [eqS, Option.some.injEq] at e; subst e; exact ⟨rfl, by simp⟩)
    | (simp [eqS] at e; done)
def rEqA (K : PySem.W.Frag) : R2 := fun x y H Q => rEq x y H Q ∨ rEqD K x y H Q ∨ ∃ a b kvs, x = .ref a ∧ y = .ref b ∧ H a = some (.dK kvs) ∧ H b = some (.dK kvs) ∧ (kvs.map (·.1)).Nodup ∧ (∀ p ∈ kvs, flatB p.2 = true) ∧ Q (.bl true) H
theorem bin_eq {K : PySem.W.Frag} : Bin K (rEqA K) eqP := fun {R G H σ γ v w x y Kp Q} A rx ry q k => by
  unfold eqP at q
  split at q
  · rename_i b e
    obtain ⟨e1, e2⟩ := rep_scal rx ry e
    exact .inl ⟨e1, by rw [e2]; exact k _ H G _ same_refl A (.bl _) q⟩
  · split at q
    · cases rx with | dic h1 r1 => cases ry with | dic h2 r2 =>
        cases r1
        cases r2
        exact .inr (.inr ⟨_, _, [], rfl, rfl, A.gh _ _ h1, A.gh _ _ h2, List.nodup_nil, (fun z hz => nomatch hz), k _ H G _ same_refl A (.bl _) q⟩)
    · obtain ⟨d, e, h1, h2, h3, h4, q⟩ := q
      exact .inr (.inl ⟨d, e, rx.dp A.gh h1, ry.dp A.gh h2, h3, h4, k _ H G _ same_refl A (.bl _) q⟩)
theorem bin_ne {K : PySem.W.Frag} : Bin K (fun x y H Q => rNe x y H Q ∨ rNeD K x y H Q) neP := fun {R G H σ γ v w x y Kp Q} A rx ry q k => by
  unfold neP at q
  split at q
  · rename_i b e
    obtain ⟨e1, e2⟩ := rep_scal rx ry e
    exact .inl ⟨e1, by rw [e2]; exact k _ H G _ same_refl A (.bl _) q⟩
  · obtain ⟨d, e, h1, h2, h3, h4, q⟩ := q
    exact .inr ⟨d, e, rx.dp A.gh h1, ry.dp A.gh h2, h3, h4, k _ H G _ same_refl A (.bl _) q⟩
theorem op_eqA (hu : X.A.units + 64 < cLine) : OpR X (compareOp .Eq) (rEqA X.K) := op_eq.or ((op_eqD hu).or (op_eq_dict (by omega)))
theorem op_neA (hu : X.A.units + 64 < cLine) : OpR X (compareOp .NotEq) (fun x y H Q => rNe x y H Q ∨ rNeD X.K x y H Q) := op_ne.or (op_neD hu)
end
end Pu

/-! Pu2: tests, displays, items, slices, built-in calls -/
namespace Pu
open PySem PySem.Spec PyProof.Rows L2 Lay
section
variable {X : Cx} {Ex : WX} {e a b c : Expr} {es : List Expr} {p q r : PX} {pa qa : PXA} {pb qb : PXB} {pos : PySem.Pos} {i : Nat}
/-- nothing may be raised within -/
theorem pp_quiet (h : JV X (fun _ _ _ _ => False) e p) : JV X Ex e (fun γ K _ => p γ K fun _ _ _ => False) := PE.imp h fun σ H Q ⟨R, G, γ, Kp, Ep, A, h, k, _⟩ =>
  ⟨R, G, γ, Kp, _, A, h, k, fun c d us fs H' G' γ' s A e n r q => q.elim⟩
theorem po_quiet {p : PXO} (h : JO X (fun _ _ _ _ => False) e p) : JO X Ex e (fun γ K _ => p γ K fun _ _ _ => False) := PE.imp h fun σ H Q ⟨R, G, γ, Kp, Ep, A, h, k, _⟩ =>
  ⟨R, G, γ, Kp, _, A, h, k, fun c d us fs H' G' γ' s A e n r q => q.elim⟩
/-! ### tests -/
/-- a value that is a bool, as a test -/
def pVal (p : PX) : PXB := fun γ K E => p γ (fun x γ1 => match x with | .bl b => K b γ1 | _ => False) E
theorem pb_val (h : JV X Ex a p) (he : ∀ whole, isTrue a X.env whole = (do let v ← whole; standAt a.pos; holding [v] (truthy v)) := by intro _; rfl) : JB X Ex a (pVal p) := PT.imp (pt_val h he) fun σ H Q ⟨R, G, γ, Kp, Ep, A, h, k, x⟩ =>
  ⟨R, G, γ, _, Ep, A, h, fun v H1 G1 y γ1 s1 A1 r1 h1 => by
    try dsimp only at h1
    split at h1
    · cases r1
      exact ⟨_, rfl, k _ H1 G1 γ1 s1 A1 h1⟩
    · exact h1.elim, x⟩
/-- any value's truth -/
def truP (x : PV) (k : Bool → Prop) : Prop := match x with
  | .non => k false
  | .bl b => k b
  | .int i => k (i != 0)
  | .str y => y.length ≤ sizeLine ∧ k ((y.length : Int) != 0)
  | .byt y => y.size ≤ sizeLine ∧ k ((y.size : Int) != 0)
  | .lst xs => k (!xs.isEmpty)
  | .tup xs => k (!xs.isEmpty)
  | .dic xs => k (!xs.isEmpty)
  | _ => False
theorem Reps.empty {K : PySem.W.Frag} {G : Hp} {vs : List V} {xs : List PV} (r : Reps K G vs xs) : vs.isEmpty = xs.isEmpty := by cases r <;> rfl
theorem RepK.empty {K : PySem.W.Frag} {G : Hp} {vs : List (Key × V)} {xs : List (Key × PV)} (r : RepK K G vs xs) : vs.isEmpty = xs.isEmpty := by cases r <;> rfl
theorem tru_of {K : PySem.W.Frag} {G H : Hp} {v : V} {x : PV} {k : Bool → Prop} (s : Same G H) (r : Rep K G v x) (h : truP x k) : ∃ b, TruV K v H b ∧ k b := by
  cases r <;> first
    | exact ⟨_, rfl, h⟩
    | exact ⟨_, ⟨h.1, rfl⟩, h.2⟩
    | (rename_i h1 h2; exact ⟨_, .inl ⟨_, SqL.of (s _ _ h1), rfl⟩, by rw [h2.empty]; exact h⟩)
    | (rename_i h1 h2; exact ⟨_, .inr (.inl ⟨_, h1.sq s, rfl⟩), by rw [h2.empty]; exact h⟩)
    | (rename_i h1 h2; exact ⟨_, .inr (.inr ⟨_, s _ _ h1, rfl⟩), by rw [h2.empty]; exact h⟩)
    | exact h.elim
def pTru (p : PX) : PXB := fun γ K E => p γ (fun x γ1 => truP x fun b => K b γ1) E
theorem pb_tru (h : JV X Ex a p) (he : ∀ whole, isTrue a X.env whole = (do let v ← whole; standAt a.pos; holding [v] (truthy v)) := by intro _; rfl) : JB X Ex a (pTru p) := PT.imp (pt_truth h he) fun σ H Q ⟨R, G, γ, Kp, Ep, A, h, k, x⟩ =>
  ⟨R, G, γ, _, Ep, A, h, fun v H1 G1 y γ1 s1 A1 r1 h1 => by
    obtain ⟨b, h2, h3⟩ := tru_of A1.gh r1 h1
    exact ⟨b, h2, k _ H1 G1 γ1 s1 A1 h3⟩, x⟩
def pAndB (p q : PXB) : PXB := fun γ K E => p γ (fun b γ1 => if b = true then q γ1 K E else K false γ1) E
def pOrB (p q : PXB) : PXB := fun γ K E => p γ (fun b γ1 => if b = true then K true γ1 else q γ1 K E) E
def pNotB (p : PXB) : PXB := fun γ K E => p γ (fun b γ1 => K (!b) γ1) E
abbrev JW (X : Cx) (Ex : WX) (e : Expr) (p : PXB) : Prop := PW X e (tT X.K Ex p)
theorem pb_w (h : JW X Ex a pb) : JB X Ex a pb := PW.pt h
theorem jw_and1 (h : JB X Ex a pb) : JW X Ex (.BoolOp .And [a] pos) pb := pw_and1 h
theorem jw_or1 (h : JB X Ex a pb) : JW X Ex (.BoolOp .Or [a] pos) pb := pw_or1 h
theorem and_imp {K : PySem.W.Frag} (σ : L2.St) (H : Hp) (Q : Bool → Hp → Prop) (h : tT K Ex (pAndB pb qb) σ H Q) : tAnd (tT K Ex pb) (tT K Ex qb) σ H Q := by
  obtain ⟨R, G, γ, Kp, Ep, A, h, k, x⟩ := h
  refine ⟨R, G, γ, _, Ep, A, h, fun b H1 G1 γ1 s1 A1 h1 => ?_, x⟩
  cases b with
  | true => exact ⟨R, G1, γ1, Kp, Ep, A1, h1, fun b' H2 G2 γ2 s2 A2 h2 => k b' H2 G2 γ2 (same_trans s1 s2) A2 h2, x.mono s1⟩
  | false => exact k false H1 G1 γ1 s1 A1 h1
theorem or_imp {K : PySem.W.Frag} (σ : L2.St) (H : Hp) (Q : Bool → Hp → Prop) (h : tT K Ex (pOrB pb qb) σ H Q) : tOr (tT K Ex pb) (tT K Ex qb) σ H Q := by
  obtain ⟨R, G, γ, Kp, Ep, A, h, k, x⟩ := h
  refine ⟨R, G, γ, _, Ep, A, h, fun b H1 G1 γ1 s1 A1 h1 => ?_, x⟩
  cases b with
  | false => exact ⟨R, G1, γ1, Kp, Ep, A1, h1, fun b' H2 G2 γ2 s2 A2 h2 => k b' H2 G2 γ2 (same_trans s1 s2) A2 h2, x.mono s1⟩
  | true => exact k true H1 G1 γ1 s1 A1 h1
theorem jw_and {rest : List Expr} (ha : JB X Ex a pb) (hb : JW X Ex (.BoolOp .And (b :: rest) pos) qb) : JW X Ex (.BoolOp .And (a :: b :: rest) pos) (pAndB pb qb) := PW.imp (pw_and ha hb) and_imp
theorem jw_or {rest : List Expr} (ha : JB X Ex a pb) (hb : JW X Ex (.BoolOp .Or (b :: rest) pos) qb) : JW X Ex (.BoolOp .Or (a :: b :: rest) pos) (pOrB pb qb) := PW.imp (pw_or ha hb) or_imp
theorem pb_not (h : JB X Ex a pb) : JB X Ex (.UnaryOp .Not a pos) (pNotB pb) := PT.imp (pt_not h) fun σ H Q ⟨R, G, γ, Kp, Ep, A, h, k, x⟩ =>
  ⟨R, G, γ, _, Ep, A, h, fun b H1 G1 γ1 s1 A1 h1 => k _ H1 G1 γ1 s1 A1 h1, x⟩
-- .. as values, of bools
def pAndV (p q : PX) : PX := fun γ K E => p γ (fun x γ1 => match x with | .bl b => if b = true then q γ1 K E else K (.bl false) γ1 | _ => False) E
def pOrV (p q : PX) : PX := fun γ K E => p γ (fun x γ1 => match x with | .bl b => if b = true then K (.bl true) γ1 else q γ1 K E | _ => False) E
theorem pp_one {op} (h : JV X Ex a p) : JV X Ex (.BoolOp op [a] pos) p := pe_one h
theorem pp_and {rest : List Expr} (ha : JV X Ex a p) (hb : JV X Ex (.BoolOp .And (b :: rest) pos) q) : JV X Ex (.BoolOp .And (a :: b :: rest) pos) (pAndV p q) := PE.imp (pe_and ha hb) fun σ H Q ⟨R, G, γ, Kp, Ep, A, h, k, x⟩ =>
  ⟨R, G, γ, _, Ep, A, h, fun v H1 G1 y γ1 s1 A1 r1 h1 => by
    try dsimp only at h1
    split at h1
    · rename_i bb
      cases r1
      refine ⟨bb, rfl, ?_⟩
      cases bb with
      | true => exact ⟨R, G1, γ1, Kp, Ep, A1, h1, fun v' H2 G2 y' γ2 s2 A2 r2 h2 => k v' H2 G2 y' γ2 (same_trans s1 s2) A2 r2 h2, x.mono s1⟩
      | false => exact k _ H1 G1 _ γ1 s1 A1 (.bl _) h1
    · exact h1.elim, x⟩
theorem pp_or {rest : List Expr} (ha : JV X Ex a p) (hb : JV X Ex (.BoolOp .Or (b :: rest) pos) q) : JV X Ex (.BoolOp .Or (a :: b :: rest) pos) (pOrV p q) := PE.imp (pe_or ha hb) fun σ H Q ⟨R, G, γ, Kp, Ep, A, h, k, x⟩ =>
  ⟨R, G, γ, _, Ep, A, h, fun v H1 G1 y γ1 s1 A1 r1 h1 => by
    try dsimp only at h1
    split at h1
    · rename_i bb
      cases r1
      refine ⟨bb, rfl, ?_⟩
      cases bb with
      | false => exact ⟨R, G1, γ1, Kp, Ep, A1, h1, fun v' H2 G2 y' γ2 s2 A2 r2 h2 => k v' H2 G2 y' γ2 (same_trans s1 s2) A2 r2 h2, x.mono s1⟩
      | true => exact k _ H1 G1 _ γ1 s1 A1 (.bl _) h1
    · exact h1.elim, x⟩
def pIf (c : PXB) (p q : PX) : PX := fun γ K E => c γ (fun b γ1 => if b = true then p γ1 K E else q γ1 K E) E
theorem pp_if (hc : JB X Ex c pb) (ha : JV X Ex a p) (hb : JV X Ex b q) : JV X Ex (.IfExp c a b pos) (pIf pb p q) := PE.imp (pe_ifExp hc ha hb) fun σ H Q ⟨R, G, γ, Kp, Ep, A, h, k, x⟩ =>
  ⟨R, G, γ, _, Ep, A, h, fun b H1 G1 γ1 s1 A1 h1 => by
    cases b with
    | true => exact ⟨R, G1, γ1, Kp, Ep, A1, h1, fun v' H2 G2 y' γ2 s2 A2 r2 h2 => k v' H2 G2 y' γ2 (same_trans s1 s2) A2 r2 h2, x.mono s1⟩
    | false => exact ⟨R, G1, γ1, Kp, Ep, A1, h1, fun v' H2 G2 y' γ2 s2 A2 r2 h2 => k v' H2 G2 y' γ2 (same_trans s1 s2) A2 r2 h2, x.mono s1⟩, x⟩
/-! ### a < b < c -/
def pCh (rp rq : PV → PV → (PV → Prop) → Prop) (p q r : PX) : PX := fun γ K E => p γ (fun x γ1 => q γ1 (fun y γ2 => rp x y fun z => match z with
  | .bl b => if b = true then r γ2 (fun w γ3 => rq y w fun u => K u γ3) E else K (.bl false) γ2
  | _ => False) E) E
theorem ch_imp {K : PySem.W.Frag} {r1 r2 : R2} {rp rq : PV → PV → (PV → Prop) → Prop} (h1 : Bin K r1 rp) (h2 : Bin K r2 rq) (σ : L2.St) (H : Hp) (Q : VK) (h : tP K Ex (pCh rp rq p q r) σ H Q) : tChain r1 r2 (tP K Ex p) (tP K Ex q) (tP K Ex r) σ H Q := by
  obtain ⟨R, G, γ, Kp, Ep, A, h, k, x⟩ := h
  refine ⟨R, G, γ, _, Ep, A, h, fun v H1 G1 y γ1 s1 A1 r1' g1 => ?_, x⟩
  refine ⟨R, G1, γ1, _, Ep, A1, g1, fun w H2 G2 z γ2 s2 A2 r2' g2 => ?_, x.mono s1⟩
  refine h1 A2 (r1'.same s2) r2' g2 fun u H3 G3 z' s3 A3 r3 g3 => ?_
  split at g3
  · rename_i bb
    cases r3
    refine ⟨bb, rfl, ?_⟩
    have s13 := same_trans s1 (same_trans s2 s3)
    cases bb with
    | true =>
      rw [if_pos rfl] at g3 ⊢
      refine ⟨R, G3, γ2, _, Ep, A3, g3, fun w' H4 G4 y4 γ4 s4 A4 r4 g4 => ?_, x.mono s13⟩
      exact h2 A4 ((r2'.same s3).same s4) r4 g4 fun u5 H5 G5 z5 s5 A5 r5 g5 => k u5 H5 G5 z5 γ4 (same_trans s13 (same_trans s4 s5)) A5 r5 g5
    | false =>
      rw [if_neg Bool.false_ne_true] at g3 ⊢
      exact k _ H3 G3 _ γ2 s13 A3 (.bl _) g3
  · exact g3.elim
theorem pp_ch {op op' : CmpOp} {r1 r2 : R2} {rp rq : PV → PV → (PV → Prop) → Prop} (ho : OpR X (compareOp op) r1) (ho' : OpR X (compareOp op') r2) (h1 : Bin X.K r1 rp) (h2 : Bin X.K r2 rq) (ha : JV X Ex a p) (hb : JV X Ex b q) (hc : JV X Ex c r)
    (hm : lastMarks [op, op'] [b, c] = false := by with_unfolding_all rfl) : JV X Ex (.Compare a [op, op'] [b, c] pos) (pCh rp rq p q r) := PE.imp (pe_chain ho ho' ha hb hc hm) (ch_imp h1 h2)
def pChB (rp rq : PV → PV → (PV → Prop) → Prop) (p q r : PX) : PXB := fun γ K E => p γ (fun x γ1 => q γ1 (fun y γ2 => rp x y fun z => match z with
  | .bl b => if b = true then r γ2 (fun w γ3 => rq y w fun u => match u with | .bl b => K b γ3 | _ => False) E else K false γ2
  | _ => False) E) E
theorem pb_ch {op op' : CmpOp} {r1 r2 : R2} {rp rq : PV → PV → (PV → Prop) → Prop} (ho : OpR X (compareOp op) r1) (ho' : OpR X (compareOp op') r2) (h1 : Bin X.K r1 rp) (h2 : Bin X.K r2 rq) (ha : JV X Ex a p) (hb : JV X Ex b q) (hc : JV X Ex c r)
    (hm : lastMarks [op, op'] [b, c] = false := by with_unfolding_all rfl) : JB X Ex (.Compare a [op, op'] [b, c] pos) (pChB rp rq p q r) := by
  refine PT.imp (pt_chain ho ho' ha hb hc hm) fun σ H Q h => ?_
  obtain ⟨R, G, γ, Kp, Ep, A, h, k, x⟩ := h
  refine ch_imp h1 h2 σ H _ ⟨R, G, γ, fun z γ2 => match z with | .bl b => Kp b γ2 | _ => False, Ep, A, h, fun v H1 G1 y γ1 s1 A1 r1 h1 => ?_, x⟩
  try dsimp only at h1
  split at h1
  · rename_i bb
    cases r1
    exact ⟨bb, rfl, k bb H1 G1 γ1 s1 A1 h1⟩
  · exact h1.elim
/-! ### argument lists, displays -/
def pNil : PXA := fun γ K _ => K [] γ
def pCons (p : PX) (q : PXA) : PXA := fun γ K E => p γ (fun x γ1 => q γ1 (fun xs γ2 => K (x :: xs) γ2) E) E
theorem ja_nil : JA X Ex [] pNil := PA.imp pa_nil fun σ H Q ⟨R, G, γ, Kp, Ep, A, h, k, _⟩ => k [] H G [] γ same_refl A .nil h
theorem ja_cons (ha : JV X Ex e p) (hr : JA X Ex es pa) (hs : starEach (e :: es) X.env = (false, eval e X.env) :: starEach es X.env := by rfl) : JA X Ex (e :: es) (pCons p pa) := PA.imp (pa_cons ha hr hs) fun σ H Q ⟨R, G, γ, Kp, Ep, A, h, k, x⟩ =>
  ⟨R, G, γ, _, Ep, A, h, fun v H1 G1 y γ1 s1 A1 r1 h1 => ⟨R, G1, γ1, _, Ep, A1, h1, fun vs H2 G2 ys γ2 s2 A2 r2 h2 => k _ H2 G2 _ γ2 (same_trans s1 s2) A2 (.cons (r1.same s2) r2) h2, x.mono s1⟩, x⟩
def pTup (pa : PXA) : PX := fun γ K E => pa γ (fun xs γ1 => xs.length ≤ sizeLine ∧ K (.tup xs) γ1) E
theorem pp_tup {x1} (h : JA X Ex es pa) : JV X Ex (.Tuple es x1 pos) (pTup pa) := PE.imp (pe_tup h) fun σ H Q ⟨R, G, γ, Kp, Ep, A, h, k, x⟩ =>
  ⟨R, G, γ, _, Ep, A, h, fun vs H1 G1 ys γ1 s1 A1 r1 h1 => ⟨by rw [r1.len]; exact h1.1, fun l nl => by
    obtain ⟨A', s, g⟩ := A1.newG (o := .tup vs) nl
    exact k _ _ _ _ γ1 (same_trans s1 s) A' (.tup (.inl g) (r1.same s)) h1.2⟩, x⟩
def pLst (pa : PXA) : PXO := fun γ K E => pa γ (fun xs γ1 => xs.length ≤ sizeLine ∧ ∀ a, K a (.lst xs) γ1) E
theorem po_lst (h : JA X Ex es pa) : JO X Ex (.List es pos) (pLst pa) := PE.imp (pe_lst h) fun σ H Q ⟨R, G, γ, Kp, Ep, A, h, k, x⟩ =>
  ⟨R, G, γ, _, Ep, A, h, fun vs H1 G1 ys γ1 s1 A1 r1 h1 => ⟨by rw [r1.len]; exact h1.1, fun l nl => by
    obtain ⟨A', O⟩ := A1.newO (c := .lst ys) nl ⟨vs, upd_same, r1⟩
    exact k l _ G1 _ γ1 s1 A' O (h1.2 l)⟩, x⟩
def pDic : PXO := fun γ K _ => ∀ a, K a (.dic []) γ
/-! ### items -/
theorem atI_get {K : PySem.W.Frag} {G : Hp} {vs : List V} {xs : List PV} {i : Int} {z : PV} (r : Reps K G vs xs) (h : atI xs i = some z) : ∃ v, atI vs i = some v ∧ Rep K G v z := by
  unfold atI at h ⊢
  rw [r.len]
  cases e : ixN xs.length i with
  | none => rw [e] at h; cases h
  | some j =>
    rw [e] at h
    exact r.get h
def ixP (x y : PV) (k : PV → Prop) : Prop := match x, y with
  | .ro xs, .int i => ∃ z, atI xs i = some z ∧ k z
  | .lst xs, .int i => ∃ z, atI xs i = some z ∧ k z
  | .tup xs, .int i => ∃ z, atI xs i = some z ∧ k z
  | .str s, .int i => s.length ≤ sizeLine ∧ ∃ c, atI s.cps.toList i = some c ∧ k (.str ⟨#[c]⟩)
  | _, _ => False
theorem bin_ix {K : PySem.W.Frag} : Bin K (rIx K) ixP := fun {R G H σ γ v w x y Kp Q} A rx ry q k => by
  unfold ixP at q
  split at q
  · obtain ⟨z, e, q⟩ := q
    cases rx with
    | ro h1 r1 =>
      cases ry
      obtain ⟨u, e2, r⟩ := atI_get r1 e
      exact .inl ⟨_, _, _, u, rfl, rfl, Same.seq A.gh h1, e2, k u H G z same_refl A r q⟩
  · obtain ⟨z, e, q⟩ := q
    cases rx with
    | lst h1 r1 =>
      cases ry
      obtain ⟨u, e2, r⟩ := atI_get r1 e
      exact .inl ⟨_, _, _, u, rfl, rfl, SqL.of (A.gh _ _ h1), e2, k u H G z same_refl A r q⟩
  · obtain ⟨z, e, q⟩ := q
    cases rx with
    | tup h1 r1 =>
      cases ry
      obtain ⟨u, e2, r⟩ := atI_get r1 e
      exact .inr (.inl ⟨_, _, _, u, rfl, rfl, h1.sq A.gh, e2, k u H G z same_refl A r q⟩)
  · obtain ⟨hz, c, e, q⟩ := q
    cases rx
    cases ry
    exact .inr (.inr ⟨_, _, c, rfl, rfl, hz, e, k _ H G _ same_refl A (.str _) q⟩)
  · exact q.elim
theorem pp_ix (ha : JV X Ex a p) (hb : JV X Ex b q) (hs : PlainIx b := by exact fun _ _ => rfl) : JV X Ex (.Subscript a b pos) (pBin ixP p q) := PE.imp (pe_ix ix_seq ha hb hs) (bin_imp bin_ix)
def ixB (x y : PV) (k : PV → Prop) : Prop := match x, y with
  | .byt b, .int i => b.size ≤ 16777216 ∧ ∃ (n : Nat) (g : Int), i = (n : Int) ∧ (bi b)[n]? = some g ∧ k (.int g)
  | _, _ => False
theorem bin_ixB {K : PySem.W.Frag} : Bin K rItB ixB := fun {R G H σ γ v w x y Kp Q} A rx ry q k => by
  unfold ixB at q
  split at q
  · obtain ⟨hz, n, g, rfl, e, q⟩ := q
    cases rx
    cases ry
    exact ⟨_, n, g, rfl, rfl, hz, e, k _ H G _ same_refl A (.int _) q⟩
  · exact q.elim
theorem pp_ixB (ha : JV X Ex a p) (hb : JV X Ex b q) (hs : PlainIxT b := by exact fun _ _ => rfl) : JV X Ex (.Subscript a b pos) (pBin ixB p q) := PE.imp (pe_itB ha hb hs) (bin_imp bin_ixB)
/-- an item of a list of one's own -/
def pIxO (i : Nat) (q : PX) : PX := fun γ K E => q γ (fun y γ1 => match γ1[i]?, y with
  | some (.ow _ (.lst xs)), .int j => ∃ z, atI xs j = some z ∧ K z γ1
  | _, _ => False) E
theorem own_at {K : PySem.W.Frag} {R G H : Hp} {σ : L2.St} {γ : PEnv} {a : Addr} {c : Cell} {v : V} (e : σ[i]? = some (some v)) (A : At K R G H σ γ) (h : γ[i]? = some (.ow a c)) : v = .ref a ∧ CellR K G H a c := by
  obtain ⟨h1, _, _, h2⟩ := A.ow h
  rw [e] at h1
  exact ⟨by simpa using h1, h2⟩
/-- some value stands in the slot -/
def pSlotO (i : Nat) (k : PEnv → Prop) : PEnv → Prop := fun γ => match γ[i]? with
  | some (.ow _ _) => k γ
  | _ => False
theorem slot_at {K : PySem.W.Frag} {R G H : Hp} {σ : L2.St} {γ : PEnv} {k : PEnv → Prop} (A : At K R G H σ γ) (h : pSlotO i k γ) : k γ ∧ ∃ a, σ[i]? = some (some (.ref a)) := by
  unfold pSlotO at h
  split at h
  · rename_i a c e
    exact ⟨h, a, (A.ow e).1⟩
  · exact h.elim
theorem pp_ixO (ha : PE X a (tVar i)) (hb : JV X Ex b q) (hs : PlainIx b := by exact fun _ _ => rfl) : JV X Ex (.Subscript a b pos) (fun γ K E => pSlotO i (fun γ => pIxO i q γ K E) γ) := PE.imp (pe_ix ix_list ha hb hs) fun σ H Q ⟨R, G, γ, Kp, Ep, A, h, k, x⟩ => by
  obtain ⟨h, ad, ea⟩ := slot_at A h
  refine ⟨_, ea, R, G, γ, _, Ep, A, h, fun v H1 G1 y γ1 s1 A1 r1 h1 => ?_, x⟩
  try dsimp only at h1
  split at h1
  · rename_i a' xs j e2
    obtain ⟨z, e3, h1⟩ := h1
    obtain ⟨e4, vs, e5, r5⟩ := own_at ea A1 e2
    cases e4
    cases r1
    obtain ⟨u, e6, r⟩ := atI_get r5 e3
    exact ⟨_, vs, _, u, rfl, rfl, SqL.of e5, e6, k u H1 G1 z γ1 s1 A1 r h1⟩
  · exact h1.elim
def pAddO (i : Nat) (q : PX) : PX := fun γ K E => q γ (fun y γ1 => match γ1[i]?, y with
  | some (.ow _ (.lst xs)), .lst ys => xs.length + ys.length ≤ sizeLine ∧ K (.lst (xs ++ ys)) γ1
  | _, _ => False) E
theorem pp_addO (ha : PE X a (tVar i)) (hb : JV X Ex b q) : JV X Ex (.BinOp a .Add b pos) (fun γ K E => pSlotO i (fun γ => pAddO i q γ K E) γ) := PE.imp (pe_op op_cat ha hb) fun σ H Q ⟨R, G, γ, Kp, Ep, A, h, k, x⟩ => by
  obtain ⟨h, ad, ea⟩ := slot_at A h
  refine ⟨_, ea, R, G, γ, _, Ep, A, h, fun v H1 G1 y γ1 s1 A1 r1 h1 => ?_, x⟩
  try dsimp only at h1
  split at h1
  · rename_i a' xs ys e2
    obtain ⟨e4, vs, e5, r5⟩ := own_at ea A1 e2
    cases e4
    cases r1 with
    | lst g2 r2 =>
      refine ⟨_, _, vs, _, rfl, rfl, e5, A1.gh _ _ g2, by rw [r5.len, r2.len]; exact h1.1, fun l nl => ?_⟩
      obtain ⟨A', s, g⟩ := A1.newG (o := .lst _) nl
      exact k _ _ _ _ γ1 (same_trans s1 s) A' (.lst g ((r2.append r5).same s)) h1.2
  · exact h1.elim
/-! ### slices -/
abbrev PXP := PEnv → (Option Int → PEnv → Prop) → EK → Prop
def tPp (K : PySem.W.Frag) (Ex : WX) (p : PXP) : TO := fun σ H Q => ∃ (R G : Hp) (γ : PEnv) (Kp : Option Int → PEnv → Prop) (Ep : EK), At K R G H σ γ ∧ p γ Kp Ep ∧
  (∀ b H' G' γ', Same G G' → At K R G' H' σ γ' → Kp b γ' → Q b H') ∧ ExR K R G σ Ex Ep
theorem POimp {X : Cx} {e : Option Expr} {t t' : TO} (h : L2.PO X e t) (i : ∀ σ H Q, t' σ H Q → t σ H Q) : L2.PO X e t' := ⟨fun pins s σ H Q I q => h.run pins s σ H Q I (i σ H Q q)⟩
def pNoPart : PXP := fun γ K _ => K none γ
def pPart (p : PX) : PXP := fun γ K E => p γ (fun x γ1 => match x with | .int i => K (some i) γ1 | _ => False) E
theorem jp_none : L2.PO X none (tPp X.K Ex pNoPart) := POimp po_none fun σ H Q ⟨R, G, γ, Kp, Ep, A, h, k, _⟩ => k none H G γ same_refl A h
theorem jp_some (h : JV X Ex e p) : L2.PO X (some e) (tPp X.K Ex (pPart p)) := POimp (po_some h) fun σ H Q ⟨R, G, γ, Kp, Ep, A, h, k, x⟩ =>
  ⟨R, G, γ, _, Ep, A, h, fun v H1 G1 y γ1 s1 A1 r1 h1 => by
    try dsimp only at h1
    split at h1
    · cases r1
      exact ⟨_, rfl, k _ H1 G1 γ1 s1 A1 h1⟩
    · exact h1.elim, x⟩
def cutP (xs : List PV) (lo hi : Option Int) : List PV := (xs.drop (HT.sIx xs.length 0 lo)).take (HT.sIx xs.length xs.length hi - HT.sIx xs.length 0 lo)
theorem Reps.cut {K : PySem.W.Frag} {G : Hp} {vs : List V} {xs : List PV} (r : Reps K G vs xs) (lo hi : Option Int) : Reps K G (cutV vs lo hi) (cutP xs lo hi) := by
  unfold cutV cutP
  rw [r.len]
  exact (r.drop _).take _
def slP (x : PV) (lo hi : Option Int) (k : PV → Prop) : Prop := match x with
  | .ro xs => k (.lst (cutP xs lo hi))
  | .lst xs => k (.lst (cutP xs lo hi))
  | .byt b => b.size ≤ 16777216 ∧ k (.byt (PySem.W.KBy.picked b lo hi))
  | .str z => z.length ≤ sizeLine ∧ k (.str (cutS z lo hi))
  | .tup xs => ¬ (HT.sIx xs.length 0 lo = 0 ∧ HT.sIx xs.length xs.length hi = xs.length) ∧ k (.tup (cutP xs lo hi))
  | _ => False
def rSlA (K : PySem.W.Frag) : V → Option Int → Option Int → Hp → VK → Prop := fun x lo hi H Q => rSlL K x lo hi H Q ∨ rSlB x lo hi H Q ∨ rSlS x lo hi H Q ∨ rSlT K x lo hi H Q
theorem sl_all : SlR X (Pu.rSlA X.K) := sl_list.or (sl_byt.or (sl_str.or sl_tup))
def pSl (p : PX) (lo hi : PXP) : PX := fun γ K E => p γ (fun x γ1 => lo γ1 (fun l γ2 => hi γ2 (fun h γ3 => slP x l h fun z => K z γ3) E) E) E
theorem pp_sl {lo hi : Option Expr} {p2 : PySem.Pos} {pl ph : PXP} (he : JV X Ex e p) (hl : L2.PO X lo (tPp X.K Ex pl)) (hh : L2.PO X hi (tPp X.K Ex ph)) : JV X Ex (.Subscript e (.Slice lo hi none p2) pos) (pSl p pl ph) := PE.imp (pe_slice sl_all he hl hh) fun σ H Q ⟨R, G, γ, Kp, Ep, A, h, k, x⟩ =>
  ⟨R, G, γ, _, Ep, A, h, fun v H1 G1 y γ1 s1 A1 r1 h1 => ⟨R, G1, γ1, _, Ep, A1, h1, fun l H2 G2 γ2 s2 A2 h2 => ⟨R, G2, γ2, _, Ep, A2, h2, fun u H3 G3 γ3 s3 A3 h3 => by
    have r3 := (r1.same s2).same s3
    have s13 := same_trans s1 (same_trans s2 s3)
    unfold slP at h3
    split at h3
    · cases r3 with
      | ro g r =>
        refine .inl ⟨_, _, rfl, Same.seq A3.gh g, fun p np => ?_⟩
        obtain ⟨A', s, g'⟩ := A3.newG (o := .lst _) np
        exact k _ _ _ _ γ3 (same_trans s13 s) A' (.lst g' ((r.cut _ _).same s)) h3
    · cases r3 with
      | lst g r =>
        refine .inl ⟨_, _, rfl, SqL.of (A3.gh _ _ g), fun p np => ?_⟩
        obtain ⟨A', s, g'⟩ := A3.newG (o := .lst _) np
        exact k _ _ _ _ γ3 (same_trans s13 s) A' (.lst g' ((r.cut _ _).same s)) h3
    · cases r3
      exact .inr (.inl ⟨_, rfl, h3.1, k _ H3 G3 _ γ3 s13 A3 (.byt _) h3.2⟩)
    · cases r3
      exact .inr (.inr (.inl ⟨_, rfl, h3.1, k _ H3 G3 _ γ3 s13 A3 (.str _) h3.2⟩))
    · cases r3 with
      | tup g r =>
        refine .inr (.inr (.inr ⟨_, _, rfl, g.sq A3.gh, by rw [r.len]; exact h3.1, fun p np => ?_⟩))
        obtain ⟨A', s, g'⟩ := A3.newG (o := .tup _) np
        exact k _ _ _ _ γ3 (same_trans s13 s) A' (.tup (.inl g') ((r.cut _ _).same s)) h3.2
    · exact h3.elim, x.mono (same_trans s1 s2)⟩, x.mono s1⟩, x⟩
/-! ### built-in calls -/
def Cb (K : PySem.W.Frag) (r : List V → Hp → VK → Prop) (rp : List PV → (PV → Prop) → Prop) : Prop := ∀ {R G H : Hp} {σ : L2.St} {γ : PEnv} {vs : List V} {xs : List PV} {Kp : PV → Prop} {Q : VK}, At K R G H σ γ → Reps K G vs xs → rp xs Kp →
  (∀ u H' G' z, Same G G' → At K R G' H' σ γ → Rep K G' u z → Kp z → Q u H') → r vs H Q
def pCb (rp : List PV → (PV → Prop) → Prop) (pa : PXA) : PX := fun γ K E => pa γ (fun xs γ1 => rp xs fun z => K z γ1) E
theorem pp_cb {r : List V → Hp → VK → Prop} {rp : List PV → (PV → Prop) → Prop} (h : PE X e (tCB r (tA X.K Ex pa))) (hr : Cb X.K r rp) : JV X Ex e (pCb rp pa) := PE.imp h fun σ H Q ⟨R, G, γ, Kp, Ep, A, h, k, x⟩ =>
  ⟨R, G, γ, _, Ep, A, h, fun vs H1 G1 ys γ1 s1 A1 r1 h1 => hr A1 r1 h1 fun u H' G' z s2 A2 r2 h2 => k u H' G' z γ1 (same_trans s1 s2) A2 r2 h2, x⟩
/-- a call that makes a new list -/
def CbO (K : PySem.W.Frag) (r : List V → Hp → VK → Prop) (rp : List PV → (List PV → Prop) → Prop) : Prop := ∀ {R G H : Hp} {σ : L2.St} {γ : PEnv} {vs : List V} {xs : List PV} {Kp : List PV → Prop} {Q : VK}, At K R G H σ γ → Reps K G vs xs → rp xs Kp →
  (∀ p ws zs, H p = none → Reps K G ws zs → Kp zs → Q (.ref p) (upd H p (.lst ws))) → r vs H Q
def pCbO (rp : List PV → (List PV → Prop) → Prop) (pa : PXA) : PXO := fun γ K E => pa γ (fun xs γ1 => rp xs fun zs => ∀ a, K a (.lst zs) γ1) E
theorem po_cb {r : List V → Hp → VK → Prop} {rp : List PV → (List PV → Prop) → Prop} (h : PE X e (tCB r (tA X.K Ex pa))) (hr : CbO X.K r rp) : JO X Ex e (pCbO rp pa) := PE.imp h fun σ H Q ⟨R, G, γ, Kp, Ep, A, h, k, x⟩ =>
  ⟨R, G, γ, _, Ep, A, h, fun vs H1 G1 ys γ1 s1 A1 r1 h1 => hr A1 r1 h1 fun l ws zs nl r2 h2 => by
    obtain ⟨A', O⟩ := A1.newO (c := .lst zs) nl ⟨ws, upd_same, r2⟩
    exact k l _ G1 _ γ1 s1 A' O (h2 l), x⟩
def lenP (xs : List PV) (k : PV → Prop) : Prop := match xs with
  | [.ro ys] => k (.int ys.length)
  | [.lst ys] => k (.int ys.length)
  | [.tup ys] => k (.int ys.length)
  | [.str y] => y.length ≤ sizeLine ∧ k (.int y.length)
  | [.byt y] => y.size ≤ sizeLine ∧ k (.int y.size)
  | _ => False
theorem cb_len {K : PySem.W.Frag} : Cb K (fun xs H Q => ∃ x n, xs = [x] ∧ LenV K x H n ∧ Q (.int n) H) lenP := fun {R G H σ γ vs xs Kp Q} A r q k => by
  unfold lenP at q
  split at q <;> first
    | (cases r with
       | cons r1 r2 =>
         cases r2
         cases r1
         first
           | (rename_i g r; exact ⟨_, _, rfl, .inl ⟨_, Same.seq A.gh g, rfl⟩, by rw [r.len]; exact k _ H G _ same_refl A (.int _) q⟩)
           | (rename_i g r; exact ⟨_, _, rfl, .inl ⟨_, SqL.of (A.gh _ _ g), rfl⟩, by rw [r.len]; exact k _ H G _ same_refl A (.int _) q⟩)
           | (rename_i g r; exact ⟨_, _, rfl, .inr ⟨_, g.sq A.gh, rfl⟩, by rw [r.len]; exact k _ H G _ same_refl A (.int _) q⟩)
           | exact ⟨_, _, rfl, ⟨q.1, rfl⟩, k _ H G _ same_refl A (.int _) q.2⟩)
    | exact q.elim
/-- len of a list of one's own -/
def pLenO (i : Nat) : PX := fun γ K _ => match γ[i]? with
  | some (.ow _ (.lst xs)) => K (.int xs.length) γ
  | _ => False
theorem pp_lenO (h : PE X e (tCB (fun xs H Q => ∃ x n, xs = [x] ∧ LenV X.K x H n ∧ Q (.int n) H) (tCons (tVar i) tNil))) : JV X Ex e (pLenO i) := PE.imp h fun σ H Q ⟨R, G, γ, Kp, Ep, A, h, k, x⟩ => by
  unfold pLenO at h
  split at h
  · rename_i a xs e2
    obtain ⟨h1, _, _, vs, h2, r⟩ := A.ow e2
    exact ⟨_, h1, _, _, rfl, .inl ⟨_, SqL.of h2, rfl⟩, by rw [r.len]; exact k _ H G _ γ same_refl A (.int _) h⟩
  · exact h.elim
def maxP (xs : List PV) (k : PV → Prop) : Prop := match xs with
  | [.int i, .int j] => k (.int (if j > i then j else i))
  | _ => False
def minP (xs : List PV) (k : PV → Prop) : Prop := match xs with
  | [.int i, .int j] => k (.int (if j < i then j else i))
  | _ => False
theorem cb_max {K : PySem.W.Frag} : Cb K (fun xs H Q => ∃ i j, xs = [.int i, .int j] ∧ Q (.int (if j > i then j else i)) H) maxP := fun {R G H σ γ vs xs Kp Q} A r q k => by
  unfold maxP at q
  split at q
  · cases r with
    | cons r1 r2 => cases r2 with | cons r2 r3 => cases r3; cases r1; cases r2; exact ⟨_, _, rfl, k _ H G _ same_refl A (.int _) q⟩
  · exact q.elim
theorem cb_min {K : PySem.W.Frag} : Cb K (fun xs H Q => ∃ i j, xs = [.int i, .int j] ∧ Q (.int (if j < i then j else i)) H) minP := fun {R G H σ γ vs xs Kp Q} A r q k => by
  unfold minP at q
  split at q
  · cases r with
    | cons r1 r2 => cases r2 with | cons r2 r3 => cases r3; cases r1; cases r2; exact ⟨_, _, rfl, k _ H G _ same_refl A (.int _) q⟩
  · exact q.elim
def intOf (xs : List PV) (k : PV → Prop) : Prop := match xs with
  | [.int i] => k (.int i)
  | [.bl b] => k (.int (if b then 1 else 0))
  | _ => False
theorem cb_int {K : PySem.W.Frag} : Cb K (fun xs H Q => (∃ i, xs = [.int i] ∧ Q (.int i) H) ∨ ∃ k, xs = [.bl k] ∧ Q (.int (if k then 1 else 0)) H) intOf := fun {R G H σ γ vs xs Kp Q} A r q k => by
  unfold intOf at q
  split at q
  · cases r with | cons r1 r2 => cases r2; cases r1; exact .inl ⟨_, rfl, k _ H G _ same_refl A (.int _) q⟩
  · cases r with | cons r1 r2 => cases r2; cases r1; exact .inr ⟨_, rfl, k _ H G _ same_refl A (.int _) q⟩
  · exact q.elim
def listOf (xs : List PV) (k : List PV → Prop) : Prop := match xs with
  | [.lst ys] => k ys
  | [.tup ys] => k ys
  | [.byt b] => b.size ≤ sizeLine ∧ k ((bi b).map .int)
  | _ => False
def rListA (K : PySem.W.Frag) : List V → Hp → VK → Prop := fun xs H Q => (∃ p ys, xs = [.ref p] ∧ (SqL K H p ys ∨ SqT K H p ys) ∧ ∀ l, H l = none → Q (.ref l) (upd H l (.lst ys))) ∨ r1 kLstB xs H Q
theorem call_listA (hc : X.calm = true) : CallR X (.type "list") (rListA X.K) := CallR.or call_list_of (call_r1 (rl_listB hc))
theorem cb_list {K : PySem.W.Frag} : CbO K (rListA K) listOf := fun {R G H σ γ vs xs Kp Q} A r q k => by
  unfold listOf at q
  split at q
  · cases r with | cons r1 r2 => cases r2; cases r1 with | lst g r => exact .inl ⟨_, _, rfl, .inl (SqL.of (A.gh _ _ g)), fun l nl => k l _ _ nl r q⟩
  · cases r with | cons r1 r2 => cases r2; cases r1 with | tup g r => exact .inl ⟨_, _, rfl, .inr (g.sq A.gh), fun l nl => k l _ _ nl r q⟩
  · cases r with | cons r1 r2 => cases r2; cases r1; exact .inr ⟨_, rfl, q.1, fun l nl => k l _ _ nl (Reps.of_ints _) q.2⟩
  · exact q.elim
def tupleOf (xs : List PV) (k : PV → Prop) : Prop := match xs with
  | [.lst ys] => k (.tup ys)
  | [.tup ys] => k (.tup ys)
  | [.byt b] => b.size ≤ sizeLine ∧ k (.tup ((bi b).map .int))
  | _ => False
def bytesOf (xs : List PV) (k : PV → Prop) : Prop := match xs with
  | [.byt b] => k (.byt b)
  | [.lst ys] => ∃ ns : List Int, ys = ns.map .int ∧ (∀ n ∈ ns, 0 ≤ n ∧ n < 256) ∧ k (.byt (byteArr ns))
  | [.tup ys] => ∃ ns : List Int, ys = ns.map .int ∧ (∀ n ∈ ns, 0 ≤ n ∧ n < 256) ∧ k (.byt (byteArr ns))
  | _ => False
def rBytA (K : PySem.W.Frag) : List V → Hp → VK → Prop := fun xs H Q => r1 (kByts K) xs H Q ∨ ∃ p ns, xs = [.ref p] ∧ SqT K H p (ns.map V.int) ∧ B8 ns ∧ Q (.byt (byteArr ns)) H
theorem call_bytA (hc : X.calm = true) : CallR X (.type "bytes") (rBytA X.K) := CallR.or (call_r1 (rl_bytes hc)) (L2.call_bytes_tup hc)
theorem cb_bytes {K : PySem.W.Frag} : Cb K (rBytA K) bytesOf := fun {R G H σ γ vs xs Kp Q} A r q k => by
  unfold bytesOf at q
  split at q
  · cases r with | cons r1 r2 => cases r2; cases r1; exact .inl (.inl ⟨_, rfl, k _ H G _ same_refl A (.byt _) q⟩)
  · obtain ⟨ns, rfl, h1, h2⟩ := q
    cases r with | cons r1 r2 => cases r2; cases r1 with | lst g r => cases r.ints; exact .inl (.inr ⟨_, ns, rfl, SqL.of (A.gh _ _ g), h1, k _ H G _ same_refl A (.byt _) h2⟩)
  · obtain ⟨ns, rfl, h1, h2⟩ := q
    cases r with | cons r1 r2 => cases r2; cases r1 with | tup g r => cases r.ints; exact .inr ⟨_, ns, rfl, g.sq A.gh, h1, k _ H G _ same_refl A (.byt _) h2⟩
  · exact q.elim
/-! ### isinstance -/
def PV.tyN : PV → Option String
  | .non => some "NoneType" | .bl _ => some "bool" | .int _ => some "int" | .str _ => some "str" | .byt _ => some "bytes" | .lst _ => some "list" | .tup _ => some "tuple" | .dic _ => some "dict"
  | _ => none
def isiOk (m : String) : Bool := m == "int" || m == "bool" || m == "tuple" || m == "list" || m == "bytes" || m == "str"
theorem kit_is {n m : String} (hn : n = "NoneType" ∨ n = "bool" ∨ n = "int" ∨ n = "str" ∨ n = "bytes" ∨ n = "list" ∨ n = "tuple" ∨ n = "dict") (hm : isiOk m = true) : kitB n m = some (isiB n m) := by
  have hm2 : m = "int" ∨ m = "bool" ∨ m = "tuple" ∨ m = "list" ∨ m = "bytes" ∨ m = "str" := by
    unfold isiOk at hm
    simp only [Bool.or_eq_true, beq_iff_eq] at hm
    rcases hm with ((((h | h) | h) | h) | h) | h <;> simp [h]
  rcases hn with rfl | rfl | rfl | rfl | rfl | rfl | rfl | rfl <;> rcases hm2 with rfl | rfl | rfl | rfl | rfl | rfl <;> decide +kernel
theorem Rep.tyx {K : PySem.W.Frag} {G H : Hp} {v : V} {x : PV} {n : String} (s : Same G H) (r : Rep K G v x) (e : x.tyN = some n) : TyX K H v (.type n) := by
  cases r with
  | non => cases e; exact .base .non
  | bl b => cases e; exact .base (.bl b)
  | int i => cases e; exact .base (.int i)
  | str i => cases e; exact .base (.str i)
  | byt b => cases e; exact .byt b
  | ty n => cases e
  | adr a => cases e
  | lst h r => cases e; exact .base (.lst (s _ _ h))
  | tup h r =>
    cases e
    rcases h with h | ⟨o, its, n, h, c, _⟩
    · exact .base (.tup (s _ _ h))
    · exact .kTuple h c
  | dic h r => cases e; exact .base (.dK (s _ _ h))
  | obj h r => cases e
  | exo h r => cases e
  | ro h r => cases e
theorem tyN_of {x : PV} {n : String} (e : x.tyN = some n) : n = "NoneType" ∨ n = "bool" ∨ n = "int" ∨ n = "str" ∨ n = "bytes" ∨ n = "list" ∨ n = "tuple" ∨ n = "dict" := by
  cases x <;> first
    | (cases e; simp; done)
    | cases e
theorem kit_all {K : PySem.W.Frag} {n : String} (hn : n = "NoneType" ∨ n = "bool" ∨ n = "int" ∨ n = "str" ∨ n = "bytes" ∨ n = "list" ∨ n = "tuple" ∨ n = "dict") : ∀ {ms : List String}, (∀ m ∈ ms, isiOk m = true) → PySem.W.kitAny K (.type n) (ms.map Value.type) = some (ms.any (isiB n))
  | [], _ => rfl
  | m :: ms, h => by
    have h1 := kit_is hn (h m (List.mem_cons_self ..))
    refine kitAny_cons (kit_ty h1) (fun e => ?_) (fun e => ?_)
    · rw [List.any_cons, e, Bool.false_or]
      exact kit_all hn fun x hx => h x (List.mem_cons_of_mem _ hx)
    · rw [List.any_cons, e, Bool.true_or]
/-- a value's type name and the asked one(s) -/
def isiP (xs : List PV) (k : PV → Prop) : Prop := match xs with
  | [x, .ty m] => isiOk m = true ∧ ∃ n, x.tyN = some n ∧ k (.bl (isiB n m))
  | [x, .tup cs] => ∃ (ms : List String) (n : String), cs = ms.map .ty ∧ (∀ m ∈ ms, isiOk m = true) ∧ x.tyN = some n ∧ k (.bl (ms.any (isiB n)))
  | _ => False
def rIsiA (K : PySem.W.Frag) : List V → Hp → VK → Prop := fun xs H Q => rIsi K xs H Q ∨ rIsiT K xs H Q ∨ rIsiK K xs H Q
theorem call_isiA : CallR X (.builtin "isinstance") (rIsiA X.K) := CallR.or call_isi (CallR.or call_isiT call_isiK)
theorem Reps.tys {K : PySem.W.Frag} {G : Hp} : ∀ {vs : List V} {ms : List String}, Reps K G vs (ms.map .ty) → vs = ms.map V.ty
  | _, [], .nil => rfl
  | _, m :: ms, .cons (.ty _) t => congrArg (V.ty m :: ·) (Reps.tys t)
theorem clsvs : ∀ ms : List String, Paired ClsV (ms.map V.ty) (ms.map Value.type)
  | [] => .nil
  | m :: ms => .cons (.ty m) (clsvs ms)
theorem vals_tys : ∀ {ms : List String} {us : List Value}, Vals (ms.map V.ty) us → us = ms.map Value.type
  | [], _, .nil => rfl
  | m :: ms, _, .cons r t => by
    have e : _ = Value.type m := r
    rw [List.map_cons, ← vals_tys t, e]
theorem cb_isi {K : PySem.W.Frag} : Cb K (rIsiA K) isiP := fun {R G H σ γ vs xs Kp Q} A r q k => by
  unfold isiP at q
  split at q
  · obtain ⟨h1, n, e, q⟩ := q
    cases r with | cons r1 r2 => cases r2 with | cons r2 r3 => cases r3; cases r2; exact .inl ⟨_, _, _, _, _, rfl, .ty _, r1.tyx A.gh e, kit_ty (kit_is (tyN_of e) h1), k _ H G _ same_refl A (.bl _) q⟩
  · obtain ⟨ms, n, rfl, h1, e, q⟩ := q
    cases r with | cons r1 r2 => cases r2 with | cons r2 r3 =>
      cases r3
      cases r2 with | tup g r2 =>
        cases r2.tys
        rcases g with g | ⟨o, its, nn, g, c, d, _, rv⟩
        · exact .inr (.inl ⟨_, _, _, _, _, _, rfl, A.gh _ _ g, clsvs ms, r1.tyx A.gh e, kit_all (tyN_of e) h1, k _ H G _ same_refl A (.bl _) q⟩)
        · obtain ⟨oc, od, odt, osl⟩ := o
          have c : oc = .type "tuple" := c
          have d : odt = .seq its nn := d
          subst c d
          have ev := vals_tys rv
          refine .inr (.inr ⟨_, _, od, its.toList, nn, osl, _, _, rfl, by rw [Array.toArray_toList]; exact g, r1.tyx A.gh e, by rw [ev]; exact kit_all (tyN_of e) h1, k _ H G _ same_refl A (.bl _) q⟩)
  · exact q.elim
end
end Pu

/-! Pu3: targets, statements, loops -/
namespace Pu
open PySem PySem.Spec PyProof.Rows L2 Lay
theorem PG.imp {X : Cx} {tg : Expr} {t t' : TG} (h : PG X tg t) (i : ∀ v σ H Q, t' v σ H Q → t v σ H Q) : PG X tg t' := ⟨fun pins s σ H v u Q I r q => h.run pins s σ H v u Q I r (i v σ H Q q)⟩
theorem PGs.imp {X : Cx} {ts : List Expr} {t t' : TGs} (h : PGs X ts t) (i : ∀ v σ H Q, t' v σ H Q → t v σ H Q) : PGs X ts t' := ⟨fun pins s σ H vs us Q I r q => h.run pins s σ H vs us Q I r (i vs σ H Q q)⟩
theorem PS.imp {X : Cx} {st : Stmt} {t t' : TS} (h : PS X st t) (i : ∀ D σ H, t' D σ H → t D σ H) : PS X st t' := ⟨fun pins s σ H D I q => h.run pins s σ H D I (i D σ H q)⟩
theorem PSs.imp {X : Cx} {st : List Stmt} {t t' : TS} (h : PSs X st t) (i : ∀ D σ H, t' D σ H → t D σ H) : PSs X st t' := ⟨fun pins s σ H D I q => h.run pins s σ H D I (i D σ H q)⟩
theorem PI.imp {X : Cx} {tg e : Expr} {t t' : TI} (h : PI X tg e t) (i : ∀ σ H R, t' σ H R → t σ H R) : PI X tg e t' := ⟨fun pins s σ H R I q => h.run pins s σ H R I (i σ H R q)⟩
/-! ### targets -/
abbrev PXG := PV → PEnv → (PEnv → Prop) → Prop
abbrev PXGs := List PV → PEnv → (PEnv → Prop) → Prop
def tG (K : PySem.W.Frag) (p : PXG) : TG := fun v σ H Q => ∃ (R G : Hp) (γ : PEnv) (x : PV) (Kp : PEnv → Prop), At K R G H σ γ ∧ Rep K G v x ∧ p x γ Kp ∧ ∀ σ' H' G' γ', Same G G' → At K R G' H' σ' γ' → Kp γ' → Q σ' H'
def tGs (K : PySem.W.Frag) (p : PXGs) : TGs := fun vs σ H Q => ∃ (R G : Hp) (γ : PEnv) (xs : List PV) (Kp : PEnv → Prop), At K R G H σ γ ∧ Reps K G vs xs ∧ p xs γ Kp ∧ ∀ σ' H' G' γ', Same G G' → At K R G' H' σ' γ' → Kp γ' → Q σ' H'
abbrev JG (X : Cx) (tg : Expr) (p : PXG) : Prop := PG X tg (tG X.K p)
abbrev JGs (X : Cx) (ts : List Expr) (p : PXGs) : Prop := PGs X ts (tGs X.K p)
section
variable {X : Cx} {Ex : WX} {e a b c tg : Expr} {es ts : List Expr} {p q r : PX} {pa qa : PXA} {pb : PXB} {po : PXO} {pos : PySem.Pos} {i : Nat}
def gN (i : Nat) : PXG := fun x γ K => K (γ.set i (.sh x))
theorem jg_name (h : PG X tg (gName i)) : JG X tg (gN i) := PG.imp h fun v σ H Q ⟨R, G, γ, x, Kp, A, r, h, k⟩ => k _ H G _ same_refl (A.setS r) h
def gNilP : PXGs := fun xs γ K => match xs with
  | [] => K γ
  | _ :: _ => False
def gConsP (p : PXG) (q : PXGs) : PXGs := fun xs γ K => match xs with
  | x :: xs => p x γ fun γ1 => q xs γ1 K
  | [] => False
theorem jgs_nil : JGs X [] gNilP := PGs.imp pgs_nil fun vs σ H Q ⟨R, G, γ, xs, Kp, A, r, h, k⟩ => by
  cases r with
  | nil => exact ⟨rfl, k σ H G γ same_refl A h⟩
  | cons _ _ => exact h.elim
theorem jgs_cons {pg : PXG} {pgs : PXGs} (h1 : JG X e pg) (h2 : JGs X es pgs) (hs : (assignEach (e :: es) X.env).map (·.2) = assign e X.env :: (assignEach es X.env).map (·.2) := by rfl) : JGs X (e :: es) (gConsP pg pgs) := PGs.imp (pgs_cons h1 h2 hs) fun vs σ H Q ⟨R, G, γ, xs, Kp, A, r, h, k⟩ => by
  unfold gConsP at h
  split at h
  · cases r with
    | cons r1 r2 =>
      exact ⟨_, _, rfl, R, G, γ, _, _, A, r1, h, fun σ' H' G' γ' s A' h' => ⟨R, G', γ', _, Kp, A', r2.same s, h', fun σ2 H2 G2 γ2 s2 A2 h2 => k σ2 H2 G2 γ2 (same_trans s s2) A2 h2⟩⟩
  · exact h.elim
def gTupP (n : Nat) (p : PXGs) : PXG := fun x γ K => match x with
  | .tup xs => xs.length = n ∧ p xs γ K
  | _ => False
theorem jg_tup {k : Nat} {pgs : PXGs} {n : Nat} (hc : X.calm = true) (h : JGs X es pgs) (hn : (assignEach es X.env).length = n := by rfl) (hst : (assignEach es X.env).findIdx? (·.1) = none := by rfl) : JG X (.Tuple es k pos) (gTupP n pgs) := PG.imp (pg_tup hc h hn hst) fun v σ H Q ⟨R, G, γ, x, Kp, A, r, h, k⟩ => by
  unfold gTupP at h
  split at h
  · cases r with
    | tup g r => exact ⟨_, _, rfl, g.sq A.gh, by rw [r.len]; exact h.1, R, G, γ, _, Kp, A, r, h.2, k⟩
  · exact h.elim
end
/-! ### statements -/
structure PD where
  nx : PEnv → Prop
  rt : PV → PEnv → Prop := fun _ _ => False
  ro : Addr → Cell → PEnv → Prop := fun _ _ _ => False
  bk : PEnv → Prop := fun _ => False
  ct : PEnv → Prop := fun _ => False
  ex : EK := fun _ _ _ => False
abbrev PXS := PD → PEnv → Prop
structure EndR (K : PySem.W.Frag) (R G : Hp) (Ex : WX) (D : Ends) (P : PD) : Prop where
  nx : ∀ σ' H' G' γ', Same G G' → At K R G' H' σ' γ' → P.nx γ' → D.nx σ' H'
  rt : ∀ v H' G' x σ' γ', Same G G' → At K R G' H' σ' γ' → Rep K G' v x → P.rt x γ' → D.rt v H'
  ro : ∀ a H' G' c σ' γ', Same G G' → At K R G' H' σ' γ' → OwnR K R G' H' γ' a c → P.ro a c γ' → D.rt (.ref a) H'
  bk : ∀ σ' H' G' γ', Same G G' → At K R G' H' σ' γ' → P.bk γ' → D.bk σ' H'
  ct : ∀ σ' H' G' γ', Same G G' → At K R G' H' σ' γ' → P.ct γ' → D.ct σ' H'
  ex : ∀ σ', ExR K R G σ' Ex P.ex
theorem EndR.mono {K : PySem.W.Frag} {R G G1 : Hp} {Ex : WX} {D : Ends} {P : PD} (h : EndR K R G Ex D P) (s : Same G G1) : EndR K R G1 Ex D P :=
  ⟨fun σ' H' G' γ' s' A q => h.nx σ' H' G' γ' (same_trans s s') A q, fun v H' G' x σ' γ' s' A r q => h.rt v H' G' x σ' γ' (same_trans s s') A r q, fun a H' G' c σ' γ' s' A r q => h.ro a H' G' c σ' γ' (same_trans s s') A r q,
    fun σ' H' G' γ' s' A q => h.bk σ' H' G' γ' (same_trans s s') A q, fun σ' H' G' γ' s' A q => h.ct σ' H' G' γ' (same_trans s s') A q, fun σ' => (h.ex σ').mono s⟩
def tS (K : PySem.W.Frag) (Ex : WX) (s : PXS) : TS := fun D σ H => ∃ (R G : Hp) (γ : PEnv) (P : PD), At K R G H σ γ ∧ s P γ ∧ EndR K R G Ex D P
abbrev JS (X : Cx) (Ex : WX) (st : Stmt) (s : PXS) : Prop := PS X st (tS X.K Ex s)
abbrev JSs (X : Cx) (Ex : WX) (st : List Stmt) (s : PXS) : Prop := PSs X st (tS X.K Ex s)
section
variable {X : Cx} {Ex : WX} {e a b c tg : Expr} {es ts : List Expr} {st : Stmt} {rest : List Stmt} {p q r : PX} {pa qa : PXA} {pb : PXB} {po : PXO} {pg : PXG} {s t u : PXS} {pos : PySem.Pos} {i : Nat}
def sNil : PXS := fun D γ => D.nx γ
def sSeq (s t : PXS) : PXS := fun D γ => s { D with nx := t D } γ
theorem jss_nil : JSs X Ex [] sNil := PSs.imp pss_nil fun D σ H ⟨R, G, γ, P, A, h, E⟩ => E.nx σ H G γ same_refl A h
theorem jss_one (h : JS X Ex st s) : JSs X Ex [st] s := pss_one h
theorem jss_cons (h1 : JS X Ex st s) (h2 : JSs X Ex rest t) : JSs X Ex (st :: rest) (sSeq s t) := PSs.imp (pss_cons h1 h2) fun D σ H ⟨R, G, γ, P, A, h, E⟩ =>
  ⟨R, G, γ, { P with nx := t P }, A, h, ⟨fun σ' H' G' γ' s' A' q => ⟨R, G', γ', P, A', q, E.mono s'⟩, E.rt, E.ro, E.bk, E.ct, E.ex⟩⟩
/-- a word between two statements -/
def sMid (s t : PXS) : PXS := fun D γ => ∃ M : PEnv → Prop, s { D with nx := M } γ ∧ ∀ γ', M γ' → t D γ'
theorem jss_mid (h1 : JS X Ex st s) (h2 : JSs X Ex rest t) : JSs X Ex (st :: rest) (sMid s t) := PSs.imp (pss_cons h1 h2) fun D σ H ⟨R, G, γ, P, A, ⟨M, h, hm⟩, E⟩ =>
  ⟨R, G, γ, { P with nx := M }, A, h, ⟨fun σ' H' G' γ' s' A' q => ⟨R, G', γ', P, A', hm γ' q, E.mono s'⟩, E.rt, E.ro, E.bk, E.ct, E.ex⟩⟩
theorem js_pass : JS X Ex (.Pass pos) sNil := PS.imp ps_pass fun D σ H ⟨R, G, γ, P, A, h, E⟩ => E.nx σ H G γ same_refl A h
def sBrk : PXS := fun D γ => D.bk γ
def sCnt : PXS := fun D γ => D.ct γ
theorem js_break : JS X Ex (.Break pos) sBrk := PS.imp ps_break fun D σ H ⟨R, G, γ, P, A, h, E⟩ => E.bk σ H G γ same_refl A h
theorem js_continue : JS X Ex (.Continue pos) sCnt := PS.imp ps_continue fun D σ H ⟨R, G, γ, P, A, h, E⟩ => E.ct σ H G γ same_refl A h
def sExpr (p : PX) : PXS := fun D γ => p γ (fun _ γ1 => D.nx γ1) D.ex
theorem js_expr (he : JV X Ex e p) (hs : swapsWith e none pos.line X.env = pure false := by rfl) : JS X Ex (.Expr e pos) (sExpr p) := PS.imp (ps_expr he hs) fun D σ H ⟨R, G, γ, P, A, h, E⟩ =>
  ⟨R, G, γ, _, _, A, h, fun v H' G' x γ' s A' r q => E.nx σ H' G' γ' s A' q, E.ex σ⟩
/-- .. whose value is a thing of one's own -/
def sExprO (p : PXO) : PXS := fun D γ => p γ (fun _ _ γ1 => D.nx γ1) D.ex
theorem js_exprO (he : JO X Ex e po) (hs : swapsWith e none pos.line X.env = pure false := by rfl) : JS X Ex (.Expr e pos) (sExprO po) := PS.imp (ps_expr he hs) fun D σ H ⟨R, G, γ, P, A, h, E⟩ =>
  ⟨R, G, γ, _, _, A, h, fun v H' G' x γ' s A' r q => E.nx σ H' G' γ' s A' q, E.ex σ⟩
def sRet (p : PX) : PXS := fun D γ => p γ (fun x γ1 => D.rt x γ1) D.ex
theorem js_ret (he : JV X Ex e p) : JS X Ex (.Return (some e) pos) (sRet p) := PS.imp (ps_ret he) fun D σ H ⟨R, G, γ, P, A, h, E⟩ =>
  ⟨R, G, γ, _, _, A, h, fun v H' G' x γ' s A' r q => E.rt v H' G' x σ γ' s A' r q, E.ex σ⟩
def sRetO (p : PXO) : PXS := fun D γ => p γ (fun a c γ1 => D.ro a c γ1) D.ex
theorem js_retO (he : JO X Ex e po) : JS X Ex (.Return (some e) pos) (sRetO po) := PS.imp (ps_ret he) fun D σ H ⟨R, G, γ, P, A, h, E⟩ =>
  ⟨R, G, γ, _, _, A, h, fun a H' G' c γ' s A' r q => E.ro a H' G' c σ γ' s A' r q, E.ex σ⟩
def sRetN : PXS := fun D γ => D.rt .non γ
theorem js_retN : JS X Ex (.Return none pos) sRetN := PS.imp ps_retN fun D σ H ⟨R, G, γ, P, A, h, E⟩ => E.rt _ H G _ σ γ same_refl A .non h
def sIf (c : PXB) (s t : PXS) : PXS := fun D γ => c γ (fun b γ1 => if b = true then s D γ1 else t D γ1) D.ex
theorem js_if {x y : List Stmt} (hc : JB X Ex c pb) (ha : JSs X Ex x s) (hb : JSs X Ex y t) : JS X Ex (.If c x y pos) (sIf pb s t) := PS.imp (ps_if hc ha hb) fun D σ H ⟨R, G, γ, P, A, h, E⟩ =>
  ⟨R, G, γ, _, _, A, h, fun b H' G' γ' s' A' q => by
    cases b with
    | true => exact ⟨R, G', γ', P, A', q, E.mono s'⟩
    | false => exact ⟨R, G', γ', P, A', q, E.mono s'⟩, E.ex σ⟩
/-- target = value -/
def sAsg (p : PX) (g : PXG) : PXS := fun D γ => p γ (fun x γ1 => g x γ1 D.nx) D.ex
theorem asg_imp {K : PySem.W.Frag} (D : Ends) (σ : L2.St) (H : Hp) (h : tS K Ex (sAsg p pg) D σ H) : tAsg (tP K Ex p) (tG K pg) D σ H := by
  obtain ⟨R, G, γ, P, A, h, E⟩ := h
  exact ⟨R, G, γ, _, _, A, h, fun v H' G' x γ' s A' r q => ⟨R, G', γ', x, _, A', r, q, fun σ2 H2 G2 γ2 s2 A2 h2 => E.nx σ2 H2 G2 γ2 (same_trans s s2) A2 h2⟩, E.ex σ⟩
theorem js_asg (he : JV X Ex e p) (hg : JG X tg pg) (hs : swapsWithSole [tg] e pos.line X.env = pure false := by rfl) (hw : swappedStores [tg] e X.env = pure none := by rfl)
    (h1 : (assignEach [tg] X.env).map (·.2) = [assign tg X.env] := by rfl) : JS X Ex (.Assign [tg] e pos) (sAsg p pg) := PS.imp (ps_asg he hg hs hw h1) asg_imp
def sSet (i : Nat) (p : PX) : PXS := fun D γ => p γ (fun x γ1 => D.nx (γ1.set i (.sh x))) D.ex
theorem js_set (h : PS X st (tAsg (tP X.K Ex p) (gName i))) : JS X Ex st (sSet i p) := PS.imp h fun D σ H ⟨R, G, γ, P, A, h, E⟩ =>
  ⟨R, G, γ, _, _, A, h, fun v H' G' x γ' s A' r q => E.nx _ H' G' _ s (A'.setS r) q, E.ex σ⟩
def sSetO (i : Nat) (p : PXO) : PXS := fun D γ => p γ (fun a c γ1 => D.nx (γ1.set i (.ow a c))) D.ex
theorem js_setO (h : PS X st (tAsg (tO X.K Ex po) (gName i))) : JS X Ex st (sSetO i po) := PS.imp h fun D σ H ⟨R, G, γ, P, A, h, E⟩ =>
  ⟨R, G, γ, _, _, A, h, fun a H' G' c γ' s A' O q => E.nx _ H' G' _ s (A'.setO O) q, E.ex σ⟩
/-- name op= e, ints -/
def sAug (f : Int → Int → Int) (i : Nat) (p : PX) : PXS := fun D γ => match γ[i]? with
  | some (.sh (.int j)) => p γ (fun y γ1 => match y with | .int k => D.nx (γ1.set i (.sh (.int (f j k)))) | _ => False) D.ex
  | _ => False
theorem js_aug {f : Int → Int → Int} (h : PS X st (tAug i (tP X.K Ex p) (ipI f))) : JS X Ex st (sAug f i p) := PS.imp h fun D σ H ⟨R, G, γ, P, A, h, E⟩ => by
  unfold sAug at h
  split at h
  · rename_i j e
    obtain ⟨v, e1, r⟩ := A.sh e
    cases r
    refine ⟨_, e1, R, G, γ, _, _, A, h, fun v H' G' x γ' s A' r q => ?_, E.ex σ⟩
    try dsimp only at q
    split at q
    · cases r
      exact ⟨_, _, rfl, rfl, E.nx _ H' G' _ s (A'.setS (.int _)) q⟩
    · exact q.elim
  · exact h.elim
/-- x.append(e) -/
def sApp (i : Nat) (pa : PXA) : PXS := fun D γ => pSlotL i (fun γ => pa γ (fun ys γ1 => match γ1[i]?, ys with
  | some (.ow a (.lst xs)), [y] => xs.length < sizeLine ∧ D.nx (γ1.set i (.ow a (.lst (xs ++ [y]))))
  | _, _ => False) D.ex) γ
where pSlotL (i : Nat) (k : PEnv → Prop) : PEnv → Prop := fun γ => match γ[i]? with
  | some (.ow _ (.lst _)) => k γ
  | _ => False
theorem slotL_at {K : PySem.W.Frag} {R G H : Hp} {σ : L2.St} {γ : PEnv} {k : PEnv → Prop} (A : At K R G H σ γ) (h : sApp.pSlotL i k γ) : k γ ∧ ∃ a vs, σ[i]? = some (some (.ref a)) ∧ H a = some (.lst vs) := by
  unfold sApp.pSlotL at h
  split at h
  · rename_i a c e
    obtain ⟨h1, _, _, vs, h2, _⟩ := A.ow e
    exact ⟨h, a, vs, h1, h2⟩
  · exact h.elim
theorem js_app (h : PS X st (tDrop (tBM X.K "list" rAppend (tVar i) (tA X.K Ex pa)))) : JS X Ex st (sApp i pa) := PS.imp h fun D σ H ⟨R, G, γ, P, A, h, E⟩ => by
  obtain ⟨h, ad, vs0, ea, hl⟩ := slotL_at A h
  refine ⟨_, ea, .inl ⟨rfl, vs0, SqL.of hl⟩, R, G, γ, _, _, A, h, fun vs H' G' ys γ' s A' r q => ?_, E.ex σ⟩
  try dsimp only at q
  split at q
  · rename_i a' xs y e2
    obtain ⟨e4, ws, e5, r5⟩ := own_at ea A' e2
    cases e4
    cases r with
    | cons r1 r2 =>
      cases r2
      exact ⟨_, ws, _, rfl, rfl, e5, by rw [r5.len]; exact q.1, E.nx σ _ G' _ s (At.write (c' := .lst (xs ++ [y])) A' e2 ⟨_, upd_same, Reps.append (.cons r1 .nil) r5⟩) q.2⟩
  · exact q.elim
/-- x.extend(e) -/
def sExt (i : Nat) (pa : PXA) : PXS := fun D γ => sApp.pSlotL i (fun γ => pa γ (fun ys γ1 => match γ1[i]?, ys with
  | some (.ow a (.lst xs)), [.lst zs] => xs.length + zs.length ≤ sizeLine ∧ D.nx (γ1.set i (.ow a (.lst (xs ++ zs))))
  | _, _ => False) D.ex) γ
theorem js_ext (h : PS X st (tDrop (tBM X.K "list" rExtend (tVar i) (tA X.K Ex pa)))) : JS X Ex st (sExt i pa) := PS.imp h fun D σ H ⟨R, G, γ, P, A, h, E⟩ => by
  obtain ⟨h, ad, vs0, ea, hl⟩ := slotL_at A h
  refine ⟨_, ea, .inl ⟨rfl, vs0, SqL.of hl⟩, R, G, γ, _, _, A, h, fun vs H' G' ys γ' s A' r q => ?_, E.ex σ⟩
  try dsimp only at q
  split at q
  · rename_i a' xs zs e2
    obtain ⟨e4, ws, e5, r5⟩ := own_at ea A' e2
    cases e4
    cases r with
    | cons r1 r2 =>
      cases r2
      cases r1 with
      | lst g r1 =>
        exact ⟨_, _, ws, _, rfl, rfl, e5, A'.gh _ _ g, by rw [r5.len, r1.len]; exact q.1, E.nx σ _ G' _ s (At.write (c' := .lst (xs ++ zs)) A' e2 ⟨_, upd_same, Reps.append r1 r5⟩) q.2⟩
  · exact q.elim
/-- x[k] = e -/
def sSetIx (i : Nat) (p q : PX) : PXS := fun D γ => p γ (fun x γ1 => pSlotO i (fun γ1 => q γ1 (fun y γ2 => match γ2[i]?, y with
  | some (.ow a (.lst xs)), .int j => ∃ k, ixN xs.length j = some k ∧ D.nx (γ2.set i (.ow a (.lst (xs.set k x))))
  | _, _ => False) D.ex) γ1) D.ex
theorem js_setIx (h : PS X st (tAsg (tP X.K Ex p) (gSub (tVar i) (tP X.K Ex q) rSetL))) : JS X Ex st (sSetIx i p q) := PS.imp h fun D σ H ⟨R, G, γ, P, A, h, E⟩ =>
  ⟨R, G, γ, _, _, A, h, fun v H1 G1 x γ1 s1 A1 r1 h1 => by
    obtain ⟨h1, ad, ea⟩ := slot_at A1 h1
    refine ⟨_, ea, R, G1, γ1, _, _, A1, h1, fun w H2 G2 y γ2 s2 A2 r2 h2 => ?_, (E.ex σ).mono s1⟩
    try dsimp only at h2
    split at h2
    · rename_i a' xs j e2
      obtain ⟨k, e3, h2⟩ := h2
      obtain ⟨e4, ws, e5, r5⟩ := own_at ea A2 e2
      cases e4
      cases r2
      exact ⟨_, ws, _, k, rfl, rfl, e5, by rw [r5.len]; exact e3, E.nx σ _ G2 _ (same_trans s1 s2) (At.write (c' := .lst (xs.set k x)) A2 e2 ⟨_, upd_same, Reps.set (r1.same s2) _ r5⟩) h2⟩
    · exact h2.elim, E.ex σ⟩
/-- f(..).clear() of a new list -/
def sClrT (p : PXO) : PXS := fun D γ => p γ (fun _ c γ1 => match c with | .lst _ => D.nx γ1 | _ => False) D.ex
theorem OwnR.lost {K : PySem.W.Frag} {R G H : Hp} {σ : L2.St} {γ : PEnv} {a : Addr} {c : Cell} {o : HO} (O : OwnR K R G H γ a c) (A : At K R G H σ γ) : At K R G (upd H a o) σ γ := by
  refine ⟨fun b u h => by rw [upd_ne (ne_of_none h O.r)]; exact A.rh _ _ h, A.rg, fun b u h => by rw [upd_ne (ne_of_none h O.g)]; exact A.gh _ _ h, A.len, fun j u q => ?_, A.di⟩
  obtain ⟨s, g1, g2⟩ := A.sl j u q
  refine ⟨s, g1, ?_⟩
  cases u with
  | no => trivial
  | sh x => exact g2
  | ow b d =>
    obtain ⟨f1, f2, f3, f4⟩ := g2
    have hb : b ≠ a := fun z => O.n j d (by subst z; exact q)
    exact ⟨f1, f2, f3, CellR.mono f4 same_refl fun o q => by rw [upd_ne hb]; exact q⟩
theorem js_clrT (h : PS X st (tDrop (tBM0 X.K "list" rClear (tO X.K Ex po)))) : JS X Ex st (sClrT po) := PS.imp h fun D σ H ⟨R, G, γ, P, A, h, E⟩ =>
  ⟨R, G, γ, _, _, A, h, fun a H' G' c γ' s A' O q => by
    try dsimp only at q
    split at q
    · obtain ⟨vs, e, r⟩ := O.c
      exact ⟨.inl ⟨rfl, vs, SqL.of e⟩, _, vs, rfl, rfl, e, E.nx σ _ G' γ' s (O.lost A') q⟩
    · exact q.elim, E.ex σ⟩
/-- f(..).append(e) on a new list -/
def sAppT (p : PXO) (pa : PXA) : PXS := fun D γ => p γ (fun _ c γ1 => match c with | .lst xs => xs.length < sizeLine ∧ (∃ y, pa = fun γ K _ => K [y] γ) ∧ D.nx γ1 | _ => False) D.ex
/-! ### what a loop walks: n items -/
structure Src where
  n : Nat
  it : Nat → PV → Prop
abbrev PXI := PEnv → (Src → PEnv → Prop) → EK → Prop
def Follows (K : PySem.W.Frag) (G : Hp) (J : It) (S : Src) : Prop := ∀ (i : Nat) (R H1 G1 : Hp) (σ : L2.St) (γ : PEnv), Same G G1 → At K R G1 H1 σ γ →
  (i < S.n → J.go i H1 ∧ ∀ v H2, J.yld i H1 v H2 → ∃ x G2, S.it i x ∧ Same G1 G2 ∧ At K R G2 H2 σ γ ∧ Rep K G2 v x) ∧ (S.n ≤ i → J.stop i H1)
/-- (as Follows, for states with other slots too: the walked things do not depend on them) -/
def tI (K : PySem.W.Frag) (Ex : WX) (p : PXI) : TI := fun σ H R => ∃ (R0 G : Hp) (γ : PEnv) (Kp : Src → PEnv → Prop) (Ep : EK), At K R0 G H σ γ ∧ p γ Kp Ep ∧
  (∀ J H' G' S γ', Same G G' → At K R0 G' H' σ γ' → Follows K G' J S → Kp S γ' → R J H') ∧ ExR K R0 G σ Ex Ep
abbrev JI (X : Cx) (Ex : WX) (tg iter : Expr) (p : PXI) : Prop := PI X tg iter (tI X.K Ex p)
def srcOf (xs : List PV) : Src := ⟨xs.length, fun i x => xs[i]? = some x⟩
def iSeq (p : PX) : PXI := fun γ K E => p γ (fun x γ1 => match x with
  | .lst xs => K (srcOf xs) γ1
  | .tup xs => K (srcOf xs) γ1
  | _ => False) E
theorem lt_get {α : Type} {xs : List α} {i : Nat} (h : i < xs.length) : ∃ x, xs[i]? = some x := ⟨xs[i], List.getElem?_eq_getElem h⟩
/-- a list or a tuple, whichever it is -/
def iSeqT (K : PySem.W.Frag) (tl : TE) : TI := fun σ H R => tl σ H fun x H1 => ∃ a, x = .ref a ∧ (((∃ xs, SqL K H1 a xs) ∧ R (Itl K a) H1) ∨ ((∃ xs, SqT K H1 a xs) ∧ R (Itt K a) H1))
theorem pi_seq {l : Expr} {tl : TE} (hl : PE X l tl) : PI X tg l (iSeqT X.K tl) := by
  refine ⟨fun pins s σ H R I h => ?_⟩
  refine thn (hl.run pins s σ H _ I h) fun v s1 ⟨x, H1, I1, r1, q1⟩ => ?_
  obtain ⟨a, e, q⟩ := q1
  subst e
  cases r1
  rcases q with ⟨⟨xs, hq⟩, q⟩ | ⟨⟨xs, hq⟩, q⟩
  · obtain ⟨its, rv, p, hz⟩ := I1.list hq
    refine wpAny_pyIter_list p.isList ?_
    refine ⟨s1.heap.objs.size, [s1.heap.objs.size], _, _, H1, rfl, I1.kept (t' := s1.toks) fun b o e => Heap.get?_push_of_some _ e, turn_list a _, ⟨_, Heap.get?_push_size _ rfl, rfl, rfl⟩, fun b hb => ?_, q⟩
    have e : b = s1.heap.objs.size := by simpa using hb
    subst e
    exact I1.fpOk (Nat.le_refl _) (I1.hok.fresh (Nat.le_refl _))
  · obtain ⟨its, rv, p, hz⟩ := I1.tuple hq
    refine wpAny_pyIter_tuple (show s1.heap.IsTuple a its.toArray from p) ?_
    refine ⟨s1.heap.objs.size, [s1.heap.objs.size], _, _, H1, rfl, I1.kept (t' := s1.toks) fun b o e => Heap.get?_push_of_some _ e, turn_tuple a _, ⟨_, Heap.get?_push_size _ rfl, rfl, rfl⟩, fun b hb => ?_, q⟩
    have e : b = s1.heap.objs.size := by simpa using hb
    subst e
    exact I1.fpOk (Nat.le_refl _) (I1.hok.fresh (Nat.le_refl _))
theorem ji_seq (h : JV X Ex e p) : JI X Ex tg e (iSeq p) := PI.imp (pi_seq h) fun σ H R ⟨R0, G, γ, Kp, Ep, A, h, k, x⟩ =>
  ⟨R0, G, γ, _, Ep, A, h, fun v H1 G1 y γ1 s1 A1 r1 h1 => by
    try dsimp only at h1
    split at h1
    · cases r1 with
      | lst g r =>
        refine ⟨_, rfl, .inl ⟨⟨_, SqL.of (A1.gh _ _ g)⟩, k _ H1 G1 _ γ1 s1 A1 (fun i R2 H2 G2 σ2 γ2 s2 A2 => ⟨fun hi => ?_, fun hi => ?_⟩) h1⟩⟩
        · obtain ⟨x, ex⟩ := lt_get hi
          obtain ⟨v, ev, rv⟩ := r.get ex
          refine ⟨⟨_, v, SqL.of (A2.gh _ _ (s2 _ _ g)), ev⟩, fun v' H3 hy => ?_⟩
          obtain ⟨rfl, hy⟩ := hy
          have := hy _ (SqL.of (A2.gh _ _ (s2 _ _ g)))
          rw [ev] at this
          cases this
          exact ⟨x, G2, ex, same_refl, A2, rv.same s2⟩
        · exact ⟨_, SqL.of (A2.gh _ _ (s2 _ _ g)), by rw [r.len]; exact hi⟩
    · cases r1 with
      | tup g r =>
        refine ⟨_, rfl, .inr ⟨⟨_, g.sq A1.gh⟩, k _ H1 G1 _ γ1 s1 A1 (fun i R2 H2 G2 σ2 γ2 s2 A2 => ⟨fun hi => ?_, fun hi => ?_⟩) h1⟩⟩
        · obtain ⟨x, ex⟩ := lt_get hi
          obtain ⟨v, ev, rv⟩ := r.get ex
          have gq := g.sq (same_trans s2 A2.gh)
          refine ⟨⟨_, v, gq, ev⟩, fun v' H3 hy => ?_⟩
          obtain ⟨rfl, hy⟩ := hy
          have := hy _ gq
          rw [ev] at this
          cases this
          exact ⟨x, G2, ex, same_refl, A2, rv.same s2⟩
        · exact ⟨_, g.sq (same_trans s2 A2.gh), by rw [r.len]; exact hi⟩
    · exact h1.elim, x⟩
/-- range(n), range(a, b) -/
def srcR (lo : Int) (n : Nat) : Src := ⟨n, fun i x => x = .int (lo + i)⟩
theorem fol_range {K : PySem.W.Frag} {G : Hp} {lo : Int} {n : Nat} : Follows K G (Itr lo n) (srcR lo n) := fun i R H1 G1 σ γ s A =>
  ⟨fun hi => ⟨hi, fun v H2 hy => by
    obtain ⟨rfl, rfl⟩ := hy
    exact ⟨_, G1, rfl, same_refl, A, .int _⟩⟩, fun hi => hi⟩
def iRg (pa : PXA) : PXI := fun γ K E => pa γ (fun xs γ1 => match xs with
  | [.int j] => (-(2 ^ 62) ≤ j ∧ j < 2 ^ 62) ∧ K (srcR 0 j.toNat) γ1
  | _ => False) E
def iRg2 (pa : PXA) : PXI := fun γ K E => pa γ (fun xs γ1 => match xs with
  | [.int i, .int j] => (-(2 ^ 62) ≤ i ∧ i < 2 ^ 62 ∧ -(2 ^ 62) ≤ j ∧ j < 2 ^ 62) ∧ K (srcR i (j - i).toNat) γ1
  | _ => False) E
theorem ji_rg (h : PI X tg e (iRng1 (tA X.K Ex pa))) : JI X Ex tg e (iRg pa) := PI.imp h fun σ H R ⟨R0, G, γ, Kp, Ep, A, h, k, x⟩ =>
  ⟨R0, G, γ, _, Ep, A, h, fun vs H1 G1 ys γ1 s1 A1 r1 h1 => by
    try dsimp only at h1
    split at h1
    · cases r1 with | cons r r' => cases r'; cases r; exact ⟨_, rfl, h1.1.1, h1.1.2, k _ H1 G1 _ γ1 s1 A1 fol_range h1.2⟩
    · exact h1.elim, x⟩
theorem ji_rg2 (h : PI X tg e (iRng2 (tA X.K Ex pa))) : JI X Ex tg e (iRg2 pa) := PI.imp h fun σ H R ⟨R0, G, γ, Kp, Ep, A, h, k, x⟩ =>
  ⟨R0, G, γ, _, Ep, A, h, fun vs H1 G1 ys γ1 s1 A1 r1 h1 => by
    try dsimp only at h1
    split at h1
    · cases r1 with | cons r r' => cases r' with | cons r2 r3 => cases r3; cases r; cases r2; exact ⟨_, _, rfl, h1.1, k _ H1 G1 _ γ1 s1 A1 fol_range h1.2⟩
    · exact h1.elim, x⟩
/-- enumerate(list) -/
def srcE (xs : List PV) : Src := ⟨xs.length, fun i x => ∃ y, xs[i]? = some y ∧ x = .tup [.int (i : Nat), y]⟩
def iEn (pa : PXA) : PXI := fun γ K E => pa γ (fun xs γ1 => match xs with
  | [.lst ys] => K (srcE ys) γ1
  | _ => False) E
theorem ji_enum (h : PI X tg e (iEnum X.K (tA X.K Ex pa))) : JI X Ex tg e (iEn pa) := PI.imp h fun σ H R ⟨R0, G, γ, Kp, Ep, A, h, k, x⟩ =>
  ⟨R0, G, γ, _, Ep, A, h, fun vs H1 G1 ys γ1 s1 A1 r1 h1 => by
    try dsimp only at h1
    split at h1
    · cases r1 with | cons r r' =>
        cases r'
        cases r with | lst g r =>
          refine ⟨_, _, rfl, SqL.of (A1.gh _ _ g), k _ H1 G1 _ γ1 s1 A1 (fun i R2 H2 G2 σ2 γ2 s2 A2 => ⟨fun hi => ?_, fun hi => ?_⟩) h1⟩
          · obtain ⟨x, ex⟩ := lt_get (xs := _) hi
            obtain ⟨v, ev, rv⟩ := r.get ex
            refine ⟨⟨_, v, SqL.of (A2.gh _ _ (s2 _ _ g)), ev⟩, fun v' H3 hy => ?_⟩
            obtain ⟨T, w, rfl, nT, rfl, hy⟩ := hy
            have := hy _ (SqL.of (A2.gh _ _ (s2 _ _ g)))
            rw [ev] at this
            cases this
            obtain ⟨A', s, g'⟩ := A2.newG (o := .tup _) nT
            exact ⟨_, _, ⟨x, ex, rfl⟩, s, A', .tup (.inl g') (.cons (.int _) (.cons ((rv.same s2).same s) .nil))⟩
          · exact ⟨_, SqL.of (A2.gh _ _ (s2 _ _ g)), by rw [r.len]; exact hi⟩
    · exact h1.elim, x⟩
/-- zip(a, b) -/
def srcZ (xs ys : List PV) : Src := ⟨min xs.length ys.length, fun i x => ∃ y z, xs[i]? = some y ∧ ys[i]? = some z ∧ x = .tup [y, z]⟩
def iZp (pa : PXA) : PXI := fun γ K E => pa γ (fun xs γ1 => match xs with
  | [.lst xs, .lst ys] => K (srcZ xs ys) γ1
  | _ => False) E
theorem ji_zip (h : PI X tg e (iZip X.K (tA X.K Ex pa))) : JI X Ex tg e (iZp pa) := PI.imp h fun σ H R ⟨R0, G, γ, Kp, Ep, A, h, k, x⟩ =>
  ⟨R0, G, γ, _, Ep, A, h, fun vs H1 G1 ys γ1 s1 A1 r1 h1 => by
    try dsimp only at h1
    split at h1
    · rename_i xs zs
      cases r1 with | cons r r' => cases r' with | cons r2 r3 =>
        cases r3
        cases r with | lst g r => cases r2 with | lst g2 r2 =>
          refine ⟨_, _, _, _, rfl, SqL.of (A1.gh _ _ g), SqL.of (A1.gh _ _ g2), k _ H1 G1 _ γ1 s1 A1 (fun i R2 H2 G2 σ2 γ2 s2 A2 => ⟨fun hi => ?_, fun hi => ?_⟩) h1⟩
          · have hi : i < min xs.length zs.length := hi
            obtain ⟨x, ex⟩ := lt_get (xs := xs) (i := i) (by omega)
            obtain ⟨z, ez⟩ := lt_get (xs := zs) (i := i) (by omega)
            obtain ⟨v, ev, rv⟩ := r.get ex
            obtain ⟨w, ew, rw'⟩ := r2.get ez
            have q1 := SqL.of (K := X.K) (A2.gh _ _ (s2 _ _ g))
            have q2 := SqL.of (K := X.K) (A2.gh _ _ (s2 _ _ g2))
            refine ⟨⟨_, _, v, w, q1, q2, ev, ew⟩, fun v' H3 hy => ?_⟩
            obtain ⟨T, c, d, rfl, nT, rfl, hy, hz⟩ := hy
            have e1 := hy _ q1
            have e2 := hz _ q2
            rw [ev] at e1
            rw [ew] at e2
            cases e1
            cases e2
            obtain ⟨A', s, g'⟩ := A2.newG (o := .tup _) nT
            exact ⟨_, _, ⟨x, z, ex, ez, rfl⟩, s, A', .tup (.inl g') (.cons ((rv.same s2).same s) (.cons ((rw'.same s2).same s) .nil))⟩
          · have hi : min xs.length zs.length ≤ i := hi
            exact ⟨_, _, SqL.of (A2.gh _ _ (s2 _ _ g)), SqL.of (A2.gh _ _ (s2 _ _ g2)), by rw [r.len, r2.len]; omega⟩
    · exact h1.elim, x⟩
/-! ### loops -/
def sFor (pi : PXI) (g : PXG) (s : PXS) : PXS := fun D γ => pi γ (fun S γ1 => ∃ W : Nat → PEnv → Prop, W 0 γ1 ∧ (∀ i x γ, i < S.n → S.it i x → W i γ → g x γ fun γ2 => s { D with nx := W (i + 1), ct := W (i + 1), bk := D.nx } γ2) ∧ ∀ γ, W S.n γ → D.nx γ) D.ex
theorem js_for {pi : PXI} {iter : Expr} {body : List Stmt} (hp : PassesOwn (model X.prog X.w) X.A X.env X.xe) (hc : X.calm = true) (hi : JI X Ex tg iter pi) (hg : JG X tg pg) (hb : JSs X Ex body s)
    (hs : ∀ x, foldedSetIterable iter X.env x = pure x := by intro _; rfl) : JS X Ex (.For tg iter body [] pos) (sFor pi pg s) := PS.imp (ps_for hp hc hi hg hb hs) fun D σ H ⟨R, G, γ, P, A, h, E⟩ =>
  ⟨R, G, γ, _, _, A, h, fun J H1 G1 S γ1 s1 A1 F ⟨W, w0, hW, hd⟩ => by
    refine ⟨fun i m σ H => m + i = S.n ∧ ∃ G2 γ2, Same G1 G2 ∧ At X.K R G2 H σ γ2 ∧ W i γ2, ⟨S.n, by omega, G1, γ1, same_refl, A1, w0⟩, fun i m σ2 H2 ⟨e, G2, γ2, s2, A2, w2⟩ => ?_⟩
    obtain ⟨f1, f2⟩ := F i R H2 G2 σ2 γ2 s2 A2
    by_cases hi : i < S.n
    · obtain ⟨hgo, hy⟩ := f1 hi
      refine .inr ⟨hgo, fun σ' H' => ∃ G' γ', Same G1 G' ∧ At X.K R G' H' σ' γ' ∧ W (i + 1) γ', fun σ' H' ⟨G', γ', s', A', w'⟩ => ⟨m - 1, by omega, by omega, G', γ', s', A', w'⟩, fun v H3 y3 => ?_⟩
      obtain ⟨x, G3, hx, s3, A3, r3⟩ := hy v H3 y3
      refine ⟨R, G3, γ2, x, _, A3, r3, hW i x γ2 hi hx w2, fun σ4 H4 G4 γ4 s4 A4 h4 => ?_⟩
      have s14 := same_trans s2 (same_trans s3 s4)
      have E4 := (E.mono s1).mono s14
      exact ⟨R, G4, γ4, _, A4, h4, ⟨fun σ' H' G' γ' s' A' q => ⟨G', γ', same_trans s14 s', A', q⟩, E4.rt, E4.ro, E4.nx, fun σ' H' G' γ' s' A' q => ⟨G', γ', same_trans s14 s', A', q⟩, E4.ex⟩⟩
    · have ei : i = S.n := by omega
      subst ei
      exact .inl ⟨f2 (Nat.le_refl _), (E.mono s1).nx _ _ G2 γ2 s2 A2 (hd γ2 w2)⟩, E.ex σ⟩
def sWhile (c : PXB) (s : PXS) : PXS := fun D γ => ∃ W : Nat → PEnv → Prop, (∃ m, W m γ) ∧ ∀ m γ, W m γ → c γ (fun b γ1 => if b = true then s { D with nx := fun γ' => ∃ m', m' < m ∧ W m' γ', ct := fun γ' => ∃ m', m' < m ∧ W m' γ', bk := D.nx } γ1 else D.nx γ1) D.ex
theorem js_while {body : List Stmt} (hp : PassesOwn (model X.prog X.w) X.A X.env X.xe) (hc : JB X Ex c pb) (hb : JSs X Ex body s) : JS X Ex (.While c body [] pos) (sWhile pb s) := PS.imp (ps_while hp hc hb) fun D σ H ⟨R, G, γ, P, A, ⟨W, ⟨m, w0⟩, hW⟩, E⟩ => by
  refine ⟨fun m σ H => ∃ G2 γ2, Same G G2 ∧ At X.K R G2 H σ γ2 ∧ W m γ2, ⟨m, G, γ, same_refl, A, w0⟩, fun m σ2 H2 ⟨G2, γ2, s2, A2, w2⟩ => ?_⟩
  refine ⟨R, G2, γ2, _, _, A2, hW m γ2 w2, fun b H3 G3 γ3 s3 A3 h3 => ?_, (E.ex σ2).mono s2⟩
  have E3 := (E.mono s2).mono s3
  have s13 := same_trans s2 s3
  cases b with
  | true =>
    refine iteT ?_
    refine ⟨fun σ' H' => ∃ m', m' < m ∧ ∃ G' γ', Same G G' ∧ At X.K R G' H' σ' γ' ∧ W m' γ', fun σ' H' ⟨m', hm, q⟩ => ⟨m', hm, q⟩, R, G3, γ3, _, A3, h3, ⟨fun σ' H' G' γ' s' A' ⟨m', hm, q⟩ => ⟨m', hm, G', γ', same_trans s13 s', A', q⟩, E3.rt, E3.ro, E3.nx, fun σ' H' G' γ' s' A' ⟨m', hm, q⟩ => ⟨m', hm, G', γ', same_trans s13 s', A', q⟩, E3.ex⟩⟩
  | false =>
    refine iteF ?_
    exact E3.nx _ _ G3 γ3 same_refl A3 h3
end
end Pu

/-! Pu4: defs, calls, instances, what is raised, list comprehensions -/
namespace Pu
open PySem PySem.Spec PyProof.Rows L2 Lay
/-- a def's promise: the arguments' slots; what it gives (a value that stays, or a new thing of the caller's own) with the slots behind; what it raises -/
abbrev PSp := List Sl → (PV → List Sl → Prop) → (Addr → Cell → List Sl → Prop) → EK → Prop
def spOf (K : PySem.W.Frag) (q : PSp) : Sp := fun vs H Q E => ∃ (R G : Hp) (γ : PEnv) (Kp : PV → List Sl → Prop) (Ko : Addr → Cell → List Sl → Prop) (Ep : EK), At K R G H (vs.map some) γ ∧ q γ Kp Ko Ep ∧
  (∀ v H' G' x γ', Same G G' → At K R G' H' (vs.map some) γ' → Rep K G' v x → Kp x γ' → Q v H') ∧
  (∀ a H' G' c γ', Same G G' → At K R G' H' (vs.map some) γ' → OwnR K R G' H' γ' a c → Ko a c γ' → Q (.ref a) H') ∧ ExR K R G (vs.map some) (fun c d _ H => E c d H) Ep
/-! ### the caller's side -/
/-- what the callee may not touch: all but what stays and the thing at oa -/
def frm (G H : Hp) (oa : Option Addr) : Hp := fun b => if some b = oa ∨ (G b).isSome = true then none else H b
section
variable {K : PySem.W.Frag} {R G G' H H' : Hp} {σ : L2.St} {γ : PEnv} {a b : Addr} {c : Cell} {o : HO} {oa : Option Addr} {i : Nat} {vs : List V} {xs : List PV} {g : Sl} {γt γa : List Sl}
theorem frm_some (h : frm G H oa b = some o) : H b = some o ∧ G b = none ∧ some b ≠ oa := by
  unfold frm at h
  split at h
  · cases h
  · rename_i n
    refine ⟨h, ?_, fun z => n (.inl z)⟩
    cases e : G b with
    | none => rfl
    | some u => exact (n (.inr (by rw [e]; rfl))).elim
theorem frm_of (h : H b = some o) (hg : G b = none) (n : some b ≠ oa) : frm G H oa b = some o := by
  unfold frm
  rw [if_neg, h]
  rintro (z | z)
  · exact n z
  · rw [hg] at z; cases z
theorem slots_sh (r : Reps K G vs xs) {R' : Hp} {j : Nat} {g : Sl} (e : (xs.map Sl.sh)[j]? = some g) : ∃ s, (vs.map some)[j]? = some s ∧ Slot K R' G H s g := by
  rw [List.getElem?_map] at e
  cases ex : xs[j]? with
  | none => rw [ex] at e; cases e
  | some x =>
    rw [ex] at e
    cases e
    obtain ⟨v, ev, r⟩ := r.get ex
    exact ⟨some v, by rw [List.getElem?_map, ev]; rfl, v, rfl, r⟩
theorem no_ow {xs : List PV} {j : Nat} {a : Addr} {c : Cell} (h : (xs.map Sl.sh)[j]? = some (.ow a c)) : False := by
  rw [List.getElem?_map] at h
  cases ex : xs[j]? with
  | none => rw [ex] at h; cases h
  | some x => rw [ex] at h; cases h
/-- all arguments stay -/
theorem At.call0 (A : At K R G H σ γ) (r : Reps K G vs xs) : At K (frm G H none) G H (vs.map some) (xs.map .sh) :=
  ⟨fun b o h => (frm_some h).1, fun b o h => (frm_some h).2.1, A.gh, by rw [List.length_map, List.length_map, r.len], fun j g e => slots_sh r e, fun j k b d d' e1 _ => (no_ow e1).elim⟩
theorem At.back0 (A : At K R G H σ γ) (s : Same G G') {σa : L2.St} (B : At K (frm G H none) G' H' σa γa) : At K R G' H' σ γ := by
  refine A.grow s (fun b o h => ?_) B.gh fun b o h hg => B.rg b o (frm_of h hg (fun z => nomatch z))
  cases e : G b with
  | none => exact B.rh _ _ (frm_of h e (fun z => nomatch z))
  | some u =>
    have := A.gh _ _ e
    rw [h] at this
    cases this
    exact B.gh _ _ (s _ _ e)
/-- the first argument is a thing of one's own, the others stay -/
theorem At.callW (A : At K R G H σ γ) (e : γ[i]? = some (.ow a c)) (r : Reps K G vs xs) : At K (frm G H (some a)) G H ((V.ref a :: vs).map some) (.ow a c :: xs.map .sh) := by
  obtain ⟨h1, h2, h3, h4⟩ := A.ow e
  refine ⟨fun b o h => (frm_some h).1, fun b o h => (frm_some h).2.1, A.gh, by simp [r.len], fun j g q => ?_, fun j k b d d' e1 e2 => ?_⟩
  · cases j with
    | zero =>
      cases q
      refine ⟨_, rfl, rfl, ?_, h3, h4⟩
      unfold frm
      rw [if_pos (.inl rfl)]
    | succ j => exact slots_sh r q
  · cases j with
    | zero =>
      cases k with
      | zero => rfl
      | succ k => exact (no_ow e2).elim
    | succ j => exact (no_ow e1).elim
theorem At.backW (A : At K R G H σ γ) (e : γ[i]? = some (.ow a c)) (s : Same G G') (B : At K (frm G H (some a)) G' H' ((V.ref a :: vs).map some) (g :: γt)) : At K R G' H' σ (γ.set i g) := by
  obtain ⟨h1, h2, h3, h4⟩ := A.ow e
  have hR : ∀ b o, R b = some o → frm G H (some a) b = some o := fun b o h => frm_of (A.rh _ _ h) (A.rg _ _ h) fun z => by
    cases z
    rw [h2] at h; cases h
  have hO : ∀ (j : Nat) (b : Addr) (d : Cell), γ[j]? = some (.ow b d) → j ≠ i → ∃ o, H b = some o ∧ frm G H (some a) b = some o ∧ b ≠ a := fun j b d q n => by
    obtain ⟨f1, f2, f3, f4⟩ := A.ow q
    obtain ⟨o, eo⟩ := CellR.ex f4
    have hb : b ≠ a := fun z => n (by subst z; exact A.di j i b d c q e)
    exact ⟨o, eo, frm_of eo f3 (fun z => hb (by cases z; rfl)), hb⟩
  refine ⟨fun b o h => B.rh _ _ (hR b o h), fun b o h => B.rg _ _ (hR b o h), B.gh, by simp [A.len], fun j u q => ?_, fun j k b d d' e1 e2 => ?_⟩
  · rcases get_set q with ⟨rfl, rfl, _⟩ | ⟨hn, q1⟩
    · obtain ⟨s0, g1, g2⟩ := B.sl 0 u rfl
      cases g1
      refine ⟨_, h1, ?_⟩
      cases u with
      | no => trivial
      | sh x => exact g2
      | ow b d =>
        obtain ⟨f1, f2, f3, f4⟩ := g2
        cases f1
        exact ⟨rfl, h2, f3, f4⟩
    · obtain ⟨s0, g1, g2⟩ := A.sl j u q1
      refine ⟨s0, g1, ?_⟩
      cases u with
      | no => trivial
      | sh x => obtain ⟨v, e1, r⟩ := g2; exact ⟨v, e1, r.same s⟩
      | ow b d =>
        obtain ⟨f1, f2, f3, f4⟩ := g2
        obtain ⟨o, ho, hf, _⟩ := hO j b d q1 hn
        exact ⟨f1, f2, B.rg _ _ hf, CellR.mono f4 s fun o' q => by
          rw [ho] at q
          cases q
          exact B.rh _ _ hf⟩
  · have key : ∀ (d : Cell), g = .ow b d → b = a := fun d z => by
      subst z
      obtain ⟨s0, g1, g2⟩ := B.sl 0 _ rfl
      cases g1
      have := g2.1
      cases this
      rfl
    rcases get_set e1 with ⟨rfl, q1, _⟩ | ⟨n1, q1⟩
    · rcases get_set e2 with ⟨rfl, q2, _⟩ | ⟨n2, q2⟩
      · rfl
      · obtain ⟨_, _, _, nb⟩ := hO k b d' q2 n2
        exact absurd (key d q1.symm) nb
    · rcases get_set e2 with ⟨rfl, q2, _⟩ | ⟨n2, q2⟩
      · obtain ⟨_, _, _, nb⟩ := hO j b d q1 n1
        exact absurd (key d' q2.symm) nb
      · exact A.di j k b d d' q1 q2
theorem OwnR.back0 (A : At K R G H σ γ) (O : OwnR K (frm G H none) G' H' γa b c) : OwnR K R G' H' γ b c := by
  have k : ∀ o, H b = some o → G b = none → False := fun o h hg => by
    have := frm_of (oa := none) h hg (fun z => nomatch z)
    rw [O.r] at this; cases this
  refine ⟨?_, O.g, O.c, fun j c' q => ?_⟩
  · cases e : R b with
    | none => rfl
    | some o => exact (k o (A.rh _ _ e) (A.rg _ _ e)).elim
  · obtain ⟨_, _, f3, f4⟩ := A.ow q
    obtain ⟨o, eo⟩ := CellR.ex f4
    exact k o eo f3
theorem OwnR.backW {c' : Cell} (A : At K R G H σ γ) (e : γ[i]? = some (.ow a c)) (O : OwnR K (frm G H (some a)) G' H' (g :: γt) b c') (B : At K (frm G H (some a)) G' H' ((V.ref a :: vs).map some) (g :: γt)) : OwnR K R G' H' (γ.set i g) b c' := by
  have k : ∀ o, H b = some o → G b = none → b = a := fun o h hg => Classical.byContradiction fun n => by
    have := frm_of (oa := some a) h hg (fun z => n (by cases z; rfl))
    rw [O.r] at this; cases this
  obtain ⟨h1, h2, h3, h4⟩ := A.ow e
  refine ⟨?_, O.g, O.c, fun j d q => ?_⟩
  · cases er : R b with
    | none => rfl
    | some o =>
      have z := k o (A.rh _ _ er) (A.rg _ _ er)
      rw [z, h2] at er
      cases er
  · rcases get_set q with ⟨rfl, q1, _⟩ | ⟨n, q1⟩
    · exact O.n 0 d (by rw [q1]; rfl)
    · obtain ⟨_, _, f3, f4⟩ := A.ow q1
      obtain ⟨o, eo⟩ := CellR.ex f4
      have z := k o eo f3
      subst z
      exact n (A.di _ _ _ _ _ q1 e)
theorem frm_no {σa : L2.St} {ws : List (Str × V)} (A : At K R G H σ γ) (e : H' b = some (.xd ws)) (n : frm G H none b = none) (B : At K (frm G H none) G' H' σa γa) : R b = none := by
  cases er : R b with
  | none => rfl
  | some o =>
    rw [frm_of (oa := none) (A.rh _ _ er) (A.rg _ _ er) (fun z => nomatch z)] at n
    cases n
theorem frm_noW (A : At K R G H σ γ) (e : γ[i]? = some (.ow a c)) (n : frm G H (some a) b = none) : R b = none := by
  cases er : R b with
  | none => rfl
  | some o =>
    rw [frm_of (oa := some a) (A.rh _ _ er) (A.rg _ _ er) (fun z => by
      cases z
      rw [(A.ow e).2.1] at er
      cases er)] at n
    cases n
end
/-! ### calls -/
section
variable {X : Cx} {Ex : WX} {e a b c tg : Expr} {es ts : List Expr} {st : Stmt} {p r : PX} {pa : PXA} {q : PSp} {pos : PySem.Pos} {i : Nat}
def noK : PV → List Sl → Prop := fun _ _ => False
def noO : Addr → Cell → List Sl → Prop := fun _ _ _ => False
/-- f(..): all arguments stay; a value that stays comes back (a new thing stays from now on) -/
def pCall (q : PSp) (pa : PXA) : PX := fun γ K E => pa γ (fun xs γ1 => q (xs.map .sh) (fun x _ => K x γ1) (fun _ c _ => K c.pv γ1) (fun c fs _ => E c fs γ1)) E
theorem call_to {K : PySem.W.Frag} {R G H : Hp} {σ : L2.St} {γ : PEnv} {vs : List V} {xs : List PV} {Kp : PV → PEnv → Prop} {Ep : EK} {Q : VK} (A : At K R G H σ γ) (r : Reps K G vs xs) (h : q (xs.map .sh) (fun x _ => Kp x γ) (fun _ c _ => Kp c.pv γ) (fun c fs _ => Ep c fs γ))
    (k : ∀ v H' G' x γ', Same G G' → At K R G' H' σ γ' → Rep K G' v x → Kp x γ' → Q v H') (x : ExR K R G σ Ex Ep) : spOf K q vs H Q (WE Ex σ) := by
  refine ⟨frm G H none, G, _, _, _, _, A.call0 r, h, fun v H' G' x γ' s B r h => k v H' G' x γ s (A.back0 s B) r h, fun a H' G' c γ' s B O h => ?_, fun c d ws fs H' G' γ' s B e n r h => x c d ws fs H' G' γ s (A.back0 s B) e (frm_no A e n B) r h⟩
  obtain ⟨G2, s2, A2, r2⟩ := (OwnR.back0 A O).freeze (A.back0 s B)
  exact k _ H' G2 _ γ (same_trans s s2) A2 r2 h
theorem pp_call (h : PE X e (tCallS (spOf X.K q) (WE Ex) (tA X.K Ex pa))) : JV X Ex e (pCall q pa) := PE.imp h fun σ H Q ⟨R, G, γ, Kp, Ep, A, h, k, x⟩ =>
  ⟨R, G, γ, _, Ep, A, h, fun vs H1 G1 xs γ1 s1 A1 r1 h1 => by
    show spOf X.K q vs H1 Q (WE Ex σ)
    exact call_to A1 r1 h1 (fun v H' G' x γ' s A' r h => k v H' G' x γ' (same_trans s1 s) A' r h) (x.mono s1), x⟩
def pCallO (q : PSp) (pa : PXA) : PXO := fun γ K E => pa γ (fun xs γ1 => q (xs.map .sh) noK (fun a c _ => K a c γ1) (fun c fs _ => E c fs γ1)) E
theorem po_call (h : PE X e (tCallS (spOf X.K q) (WE Ex) (tA X.K Ex pa))) : JO X Ex e (pCallO q pa) := PE.imp h fun σ H Q ⟨R, G, γ, Kp, Ep, A, h, k, x⟩ =>
  ⟨R, G, γ, _, Ep, A, h, fun vs H1 G1 xs γ1 s1 A1 r1 h1 => by
    show spOf X.K q vs H1 Q (WE Ex σ)
    exact ⟨frm G1 H1 none, G1, _, _, _, _, A1.call0 r1, h1, fun v H' G' x γ' s B r h => h.elim, fun a H' G' c γ' s B O h => k a H' G' c γ1 (same_trans s1 s) (A1.back0 s B) (OwnR.back0 A1 O) h,
      fun c d ws fs H' G' γ' s B e n r h => x c d ws fs H' G' γ1 (same_trans s1 s) (A1.back0 s B) e (frm_no A1 e n B) r h⟩, x⟩
/-- f(w, ..): the first argument, in slot i, is a thing of one's own that f may change -/
def pCallW (q : PSp) (i : Nat) (pa : PXA) : PX := fun γ K E => pSlotO i (fun γ => pa γ (fun xs γ1 => match γ1[i]? with
  | some (.ow w c) => q (.ow w c :: xs.map .sh) (fun x γa => K x (γ1.set i (γa.headD .no))) (fun _ c _ => False) (fun c fs γa => E c fs (γ1.set i (γa.headD .no)))
  | _ => False) E) γ
theorem at_len {K : PySem.W.Frag} {R G H : Hp} {v : V} {vs : List V} {γ : List Sl} (A : At K R G H ((v :: vs).map some) γ) : ∃ g γt, γ = g :: γt := by
  have := A.len
  cases γ with
  | nil => simp at this
  | cons g γt => exact ⟨g, γt, rfl⟩
theorem pp_callW (h : PE X e (tCallS (spOf X.K q) (WE Ex) (tCons (tVar i) (tA X.K Ex pa)))) : JV X Ex e (pCallW q i pa) := PE.imp h fun σ H Q ⟨R, G, γ, Kp, Ep, A, h, k, x⟩ => by
  obtain ⟨h, ad, ea⟩ := slot_at A h
  refine ⟨_, ea, R, G, γ, _, Ep, A, h, fun vs H1 G1 xs γ1 s1 A1 r1 h1 => ?_, x⟩
  try dsimp only at h1
  split at h1
  · rename_i w c e
    obtain ⟨ew, _⟩ := own_at ea A1 e
    cases ew
    show spOf X.K q (V.ref ad :: vs) H1 Q (WE Ex σ)
    refine ⟨frm G1 H1 (some ad), G1, _, _, _, _, A1.callW e r1, h1, fun v H' G' x γ' s B r h => ?_, fun a H' G' c γ' s B O h => h.elim, fun c d ws fs H' G' γ' s B e' n r h => ?_⟩
    · obtain ⟨g, γt, rfl⟩ := at_len B
      exact k v H' G' x _ (same_trans s1 s) (A1.backW e s B) r h
    · obtain ⟨g, γt, rfl⟩ := at_len B
      exact x c d ws fs H' G' _ (same_trans s1 s) (A1.backW e s B) e' (frm_noW A1 e n) r h
  · exact h1.elim
def pCallWO (q : PSp) (i : Nat) (pa : PXA) : PXO := fun γ K E => pSlotO i (fun γ => pa γ (fun xs γ1 => match γ1[i]? with
  | some (.ow w c) => q (.ow w c :: xs.map .sh) noK (fun a c γa => K a c (γ1.set i (γa.headD .no))) (fun c fs γa => E c fs (γ1.set i (γa.headD .no)))
  | _ => False) E) γ
theorem po_callW (h : PE X e (tCallS (spOf X.K q) (WE Ex) (tCons (tVar i) (tA X.K Ex pa)))) : JO X Ex e (pCallWO q i pa) := PE.imp h fun σ H Q ⟨R, G, γ, Kp, Ep, A, h, k, x⟩ => by
  obtain ⟨h, ad, ea⟩ := slot_at A h
  refine ⟨_, ea, R, G, γ, _, Ep, A, h, fun vs H1 G1 xs γ1 s1 A1 r1 h1 => ?_, x⟩
  try dsimp only at h1
  split at h1
  · rename_i w c e
    obtain ⟨ew, _⟩ := own_at ea A1 e
    cases ew
    show spOf X.K q (V.ref ad :: vs) H1 Q (WE Ex σ)
    refine ⟨frm G1 H1 (some ad), G1, _, _, _, _, A1.callW e r1, h1, fun v H' G' x γ' s B r h => h.elim, fun a H' G' c γ' s B O h => ?_, fun c d ws fs H' G' γ' s B e' n r h => ?_⟩
    · obtain ⟨g, γt, rfl⟩ := at_len B
      exact k a H' G' c _ (same_trans s1 s) (A1.backW e s B) (OwnR.backW A1 e O B) h
    · obtain ⟨g, γt, rfl⟩ := at_len B
      exact x c d ws fs H' G' _ (same_trans s1 s) (A1.backW e s B) e' (frm_noW A1 e n) r h
  · exact h1.elim
/-! ### the callee's side -/
/-- the arguments' slots behind the body -/
def bk : List Sl → List Sl → (List Sl → Prop) → Prop
  | [], _, k => k []
  | .ow a _ :: g, e :: es, k => (match e with | .ow b c => b = a ∧ bk g es (fun r => k (.ow b c :: r)) | _ => False)
  | s :: g, _ :: es, k => bk g es fun r => k (s :: r)
  | _ :: _, [], _ => False
theorem bk_get : ∀ {γ0 γ' : List Sl} {k : List Sl → Prop}, bk γ0 γ' k → ∃ γr, k γr ∧ γr.length = γ0.length ∧ ∀ (j : Nat) (g : Sl), γr[j]? = some g → (γ0[j]? = some g ∧ ∀ (a : Addr) (c : Cell), g ≠ .ow a c) ∨ ∃ (a : Addr) (c c0 : Cell), g = .ow a c ∧ γ0[j]? = some (.ow a c0) ∧ γ'[j]? = some (.ow a c)
  | [], _, _, h => ⟨[], h, rfl, fun j g e => by simp at e⟩
  | .ow a c0 :: g, e :: es, k, h => by
    unfold bk at h
    split at h
    · rename_i b c
      obtain ⟨rfl, h⟩ := h
      obtain ⟨γr, h1, h2, h3⟩ := bk_get h
      refine ⟨_, h1, congrArg Nat.succ h2, fun j g' e' => ?_⟩
      cases j with
      | zero => cases e'; exact .inr ⟨b, c, c0, rfl, rfl, rfl⟩
      | succ j => exact h3 j g' e'
    · exact h.elim
  | .sh x :: g, _ :: es, k, h => by
    obtain ⟨γr, h1, h2, h3⟩ := bk_get (γ0 := g) (γ' := es) h
    refine ⟨_, h1, congrArg Nat.succ h2, fun j g' e' => ?_⟩
    cases j with
    | zero => cases e'; exact .inl ⟨rfl, fun _ _ z => nomatch z⟩
    | succ j => exact h3 j g' e'
  | .no :: g, _ :: es, k, h => by
    obtain ⟨γr, h1, h2, h3⟩ := bk_get (γ0 := g) (γ' := es) h
    refine ⟨_, h1, congrArg Nat.succ h2, fun j g' e' => ?_⟩
    cases j with
    | zero => cases e'; exact .inl ⟨rfl, fun _ _ z => nomatch z⟩
    | succ j => exact h3 j g' e'
  | .ow _ _ :: _, [], _, h => h.elim
  | .sh _ :: _, [], _, h => h.elim
  | .no :: _, [], _, h => h.elim
theorem bk_at {K : PySem.W.Frag} {R G G' H H' : Hp} {σ0 σ' : L2.St} {γ0 γ' : PEnv} {k : List Sl → Prop} (A : At K R G H σ0 γ0) (s : Same G G') (B : At K R G' H' σ' γ') (h : bk γ0 γ' k) :
    ∃ γr, k γr ∧ At K R G' H' σ0 γr ∧ ∀ (j : Nat) a c, γr[j]? = some (.ow a c) → γ'[j]? = some (.ow a c) := by
  obtain ⟨γr, h1, h2, h3⟩ := bk_get h
  have key : ∀ (j : Nat) a c, γr[j]? = some (.ow a c) → γ'[j]? = some (.ow a c) := fun j a c e => by
    rcases h3 j _ e with ⟨_, n⟩ | ⟨a', c', c0, q, _, q2⟩
    · exact absurd rfl (n a c)
    · cases q; exact q2
  refine ⟨γr, h1, ⟨B.rh, B.rg, B.gh, by rw [h2, A.len], fun j g e => ?_, fun i j a c c' e1 e2 => B.di i j a c c' (key _ _ _ e1) (key _ _ _ e2)⟩, key⟩
  rcases h3 j g e with ⟨e0, n⟩ | ⟨a, c, c0, rfl, e0, e1⟩
  · obtain ⟨s0, g1, g2⟩ := A.sl j g e0
    refine ⟨s0, g1, ?_⟩
    cases g with
    | no => trivial
    | sh x => obtain ⟨v, e1, r⟩ := g2; exact ⟨v, e1, r.same s⟩
    | ow a c => exact absurd rfl (n a c)
  · obtain ⟨f1, _⟩ := A.ow e0
    obtain ⟨_, f2, f3, f4⟩ := B.ow e1
    exact ⟨_, f1, rfl, f2, f3, f4⟩
def endsP (γ0 : List Sl) (Kp : PV → List Sl → Prop) (Ko : Addr → Cell → List Sl → Prop) (Ep : EK) : PD where
  nx := fun γ' => bk γ0 γ' (Kp .non)
  rt := fun x γ' => bk γ0 γ' (Kp x)
  ro := fun a c γ' => bk γ0 γ' (Ko a c)
  ex := fun c fs γ' => bk γ0 γ' (Ep c fs)
theorem At.start {K : PySem.W.Frag} {R G H : Hp} {N : List Str} {vs : List V} {γ : PEnv} (A : At K R G H (vs.map some) γ) : At K R G H (L2.start N vs) (γ ++ List.replicate (N.length - vs.length) .no) := by
  have hl : vs.length = γ.length := by have := A.len; rwa [List.length_map] at this
  have key : ∀ (j : Nat) (g : Sl), (γ ++ List.replicate (N.length - vs.length) Sl.no)[j]? = some g → γ[j]? = some g ∨ (g = .no ∧ γ.length ≤ j ∧ j - γ.length < N.length - vs.length) := fun j g e => by
    by_cases h : j < γ.length
    · rw [List.getElem?_append_left h] at e; exact .inl e
    · rw [List.getElem?_append_right (by omega), List.getElem?_replicate] at e
      split at e
      · cases e; exact .inr ⟨rfl, by omega, by omega⟩
      · cases e
  refine ⟨A.rh, A.rg, A.gh, by unfold L2.start; simp [hl], fun j g e => ?_, fun i j a c c' e1 e2 => ?_⟩
  · rcases key j g e with e | ⟨rfl, h1, h2⟩
    · obtain ⟨s, g1, g2⟩ := A.sl j g e
      have hj := (List.getElem?_eq_some_iff.mp g1).1
      exact ⟨s, by unfold L2.start; rw [List.getElem?_append_left hj]; exact g1, g2⟩
    · refine ⟨none, ?_, trivial⟩
      unfold L2.start
      rw [List.getElem?_append_right (by rw [List.length_map]; omega), List.getElem?_replicate, if_pos]
      rw [List.length_map]; omega
  · rcases key i _ e1 with e1 | ⟨z, _⟩
    · rcases key j _ e2 with e2 | ⟨z, _⟩
      · exact A.di i j a c c' e1 e2
      · cases z
    · cases z
/-- from a promise to the body -/
theorem body_of {K : PySem.W.Frag} {E : XK} {N : List Str} {vs : List V} {H : Hp} {Q : VK} {s : PXS} (h : spOf K q vs H Q E) (hs : ∀ γ Kp Ko Ep, q γ Kp Ko Ep → s (endsP γ Kp Ko Ep) (γ ++ List.replicate (N.length - γ.length) .no)) :
    tS K (fun c d _ H => E c d H) s { nx := fun _ H' => Q .non H', rt := Q } (L2.start N vs) H := by
  obtain ⟨R, G, γ, Kp, Ko, Ep, A, hq, k, ko, x⟩ := h
  have hl : vs.length = γ.length := by have := A.len; rwa [List.length_map] at this
  have A0 := A.start (N := N)
  rw [hl] at A0
  refine ⟨R, G, _, _, A0, hs γ Kp Ko Ep hq, ⟨fun σ' H' G' γ' s B h => ?_, fun v H' G' x σ' γ' s B r h => ?_, fun a H' G' c σ' γ' s B O h => ?_, fun σ' H' G' γ' s B h => h.elim, fun σ' H' G' γ' s B h => h.elim, fun σ' c d ws fs H' G' γ' s B e n r h => ?_⟩⟩
  · obtain ⟨γr, h1, B', _⟩ := bk_at A s B h
    exact k _ H' G' _ γr s B' .non h1
  · obtain ⟨γr, h1, B', _⟩ := bk_at A s B h
    exact k v H' G' x γr s B' r h1
  · obtain ⟨γr, h1, B', n⟩ := bk_at A s B h
    exact ko a H' G' c γr s B' ⟨O.r, O.g, O.c, fun j c' e => O.n j c' (n j a c' e)⟩ h1
  · obtain ⟨γr, h1, B', _⟩ := bk_at A s B h
    exact x c d ws fs H' G' γr s B' e n r h1
theorem sp_len {K : PySem.W.Frag} {n : Nat} (hq : ∀ γ Kp Ko Ep, q γ Kp Ko Ep → γ.length = n) : ∀ vs H Q E, spOf K q vs H Q E → vs.length = n := fun vs H Q E ⟨R, G, γ, Kp, Ko, Ep, A, h, _⟩ => by
  have := A.len
  rw [List.length_map] at this
  rw [this]
  exact hq _ _ _ _ h
/-! ### what is raised -/
theorem mono_tA {K : PySem.W.Frag} : MonoA (tA K Ex pa) := fun σ H Q Q' i ⟨R, G, γ, Kp, Ep, A, h, k, x⟩ => ⟨R, G, γ, Kp, Ep, A, h, fun vs H' G' xs γ' s A' r q => i _ _ (k vs H' G' xs γ' s A' r q), x⟩
def sRaise1 (c f : Str) (pa : PXA) : PXS := fun D γ => pa γ (fun xs γ1 => match xs with
  | [x] => D.ex c [(f, x)] γ1
  | _ => False) D.ex
def sRaise2 (c f g : Str) (pa : PXA) : PXS := fun D γ => pa γ (fun xs γ1 => match xs with
  | [x, y] => D.ex c [(g, y), (f, x)] γ1
  | _ => False) D.ex
theorem js_raise1 {x f : Str} (hc : X.calm = true) (tk : Takes X Ex) (he : PMk X e (tMk1 (He.ga X.K x) f (tA X.K Ex pa))) : JS X Ex (.Raise (some e) none pos) (sRaise1 x f pa) := PS.imp (ps_raise hc tk he) fun D σ H ⟨R, G, γ, P, A, h, E⟩ =>
  ⟨R, G, γ, _, _, A, h, fun vs H1 G1 xs γ1 s1 A1 r1 h1 => by
    try dsimp only at h1
    split at h1
    · cases r1 with | cons r r' =>
        cases r'
        refine ⟨_, rfl, fun d nd => ?_⟩
        exact E.ex σ _ d _ _ _ G1 γ1 s1 (A1.newT nd) upd_same (none_of A1.rh nd) (.cons r .nil) h1
    · exact h1.elim, E.ex σ⟩
theorem js_raise2 {x f g : Str} (hc : X.calm = true) (tk : Takes X Ex) (he : PMk X e (tMk2 (He.ga X.K x) f g (tA X.K Ex pa))) : JS X Ex (.Raise (some e) none pos) (sRaise2 x f g pa) := PS.imp (ps_raise hc tk he) fun D σ H ⟨R, G, γ, P, A, h, E⟩ =>
  ⟨R, G, γ, _, _, A, h, fun vs H1 G1 xs γ1 s1 A1 r1 h1 => by
    try dsimp only at h1
    split at h1
    · cases r1 with | cons r r' => cases r' with | cons r2 r3 =>
        cases r3
        refine ⟨_, _, rfl, fun d nd => ?_⟩
        exact E.ex σ _ d _ _ _ G1 γ1 s1 (A1.newT nd) upd_same (none_of A1.rh nd) (.cons r2 (.cons r .nil)) h1
    · exact h1.elim, E.ex σ⟩
/-! ### instances -/
def pFld (f : Str) (p : PX) : PX := fun γ K E => p γ (fun x γ1 => match x with
  | .obj c fs => ∃ y, fs.lookup f = some y ∧ K y γ1
  | _ => False) E
/-- o.f, of any class of these -/
theorem pp_fld {f : Str} {n : Str} (hC : Cls X.K (He.ga X.K n)) (hN : NoAttr X.K (He.ga X.K n) f) (h : PE X e (tFld X.K (tP X.K Ex p) f)) : JV X Ex e (fun γ K E => p γ (fun x γ1 => match x with
  | .obj c fs => c = n ∧ ∃ y, fs.lookup f = some y ∧ K y γ1
  | _ => False) E) := PE.imp h fun σ H Q ⟨R, G, γ, Kp, Ep, A, h, k, x⟩ =>
  ⟨R, G, γ, _, Ep, A, h, fun v H1 G1 y γ1 s1 A1 r1 h1 => by
    try dsimp only at h1
    split at h1
    · obtain ⟨rfl, y, e, h1⟩ := h1
      cases r1 with
      | obj g r =>
        obtain ⟨u, e2, r2⟩ := r.get e
        exact ⟨_, _, _, _, u, rfl, A1.gh _ _ g, hC, hN, e2, k u H1 G1 y γ1 s1 A1 r2 h1⟩
    · exact h1.elim, x⟩
/-- self.f of an instance of one's own -/
def pFldO (i : Nat) (n f : Str) : PX := fun γ K _ => match γ[i]? with
  | some (.ow _ (.ins c fs)) => c = n ∧ ∃ y, fs.lookup f = some y ∧ K y γ
  | _ => False
theorem pp_fldO {f n : Str} (hC : Cls X.K (He.ga X.K n)) (hN : NoAttr X.K (He.ga X.K n) f) (h : PE X e (tFld X.K (tVar i) f)) : JV X Ex e (pFldO i n f) := PE.imp h fun σ H Q ⟨R, G, γ, Kp, Ep, A, h, k, x⟩ => by
  unfold pFldO at h
  split at h
  · rename_i a c fs e
    obtain ⟨rfl, y, ey, h⟩ := h
    obtain ⟨h1, _, _, dx, vs, h2, r⟩ := A.ow e
    obtain ⟨u, e2, r2⟩ := r.get ey
    exact ⟨_, h1, _, _, _, _, u, rfl, h2, hC, hN, e2, k u H G y γ same_refl A r2 h⟩
  · exact h.elim
end
end Pu

/-! Pu5: calls of defs, methods, instances; try; list comprehensions -/
namespace Pu
open PySem PySem.Spec PyProof.Rows L2 Lay
section
variable {X : Cx} {CX : CXT} {Ex : WX} {k i : Nat} {x C m : Str} {ps : List Str} {sp : Sp} {E : L2.St → XK} {p pos apos : PySem.Pos} {e o : Expr} {es : List Expr} {ta : TE} {t : TA}
theorem pass0S : ∀ σ, PassesAt CX0 X σ (E σ) := fun _ _ _ _ _ _ _ h => h.elim
theorem passES (tk : Takes X Ex) : ∀ σ, PassesAt (L2.CX X.prog X.w) X σ (WE Ex σ) := passAt tk
theorem passLS : ∀ σ, PassesAt (L2.CX X.prog X.w) X σ (WE (fun _ _ _ _ => False) σ) := fun _ _ _ _ _ _ _ h => by
  obtain ⟨_, _, _, _, _, _, _, _, _, _, _, _, z⟩ := h
  exact z.elim
theorem pe_fS (F : FOk X.prog X.w X.K X.mg X.base CX k x ps sp) (hr : Room k X.A) (hg : Gl X x) (hx : ∀ σ, PassesAt CX X σ (E σ)) (ha : PA X (e :: es) t) (hdb : (x == ("__debug__" : Str)) = false := by decide)
    (he : starEach (e :: es) X.env = (false, eval e X.env) :: starEach es X.env := by rfl) (hpl : (backTo pos (starEach es X.env)).any (·.1) = false := by rfl) : PE X (.Call (.Name x p) (e :: es) [] pos) (tCallS sp E t) := by
  obtain ⟨fd, F, b, kp, g⟩ := F
  exact pe_callS F hr hg g kp b hx ha hdb he hpl
/-! ### o.m(..) -/
def tMe (C : Addr) (m : Str) (sp : Sp) (E : L2.St → XK) (ta : TE) (t : TA) : TE := fun σ H Q => ta σ H fun x H1 => ∃ a dx fs, x = .ref a ∧ H1 a = some (.ins C dx fs) ∧ fs.lookup m = none ∧ t σ H1 fun vs H2 => sp (x :: vs) H2 Q (E σ)
theorem pe_mS (he : PE X o ta) (c : Cls X.K (He.ga X.K C)) (hm : Meth X.K (He.ga X.K C) m (He.ma X.K (He.ga X.K C) m)) (F : MOk X.prog X.w X.K X.mg X.base CX k C m ps sp) (hr : Room k X.A) (hx : ∀ σ, PassesAt CX X σ (E σ)) (ha : PA X (e :: es) t) {pl : Sem Bool}
    (hst : starEach (e :: es) X.env = (false, eval e X.env) :: starEach es X.env := by rfl) (hpl : (backTo pos (starEach es X.env)).any (·.1) = false := by rfl)
    (ht : eval (.Call (.Attribute o m apos) (e :: es) [] pos) X.env = (do
      let ov ← eval o X.env
      standAt apos.atName
      let (f, first) ← holding [ov] (getMethod ov m pl)
      callWith pos f first (backTo pos (starEach (e :: es) X.env)) (backToKw pos (keywordEach [] X.env))) := by rfl) :
    PE X (.Call (.Attribute o m apos) (e :: es) [] pos) (tMe (He.ga X.K C) m sp E ta t) := by
  obtain ⟨fd, F, b⟩ := F
  refine ⟨fun pins s σ H Q I h => PySem.W.methodCall_KW (pl := pl) (thn (he.run pins s σ H _ I h) fun u s1 hq => ?_) ht⟩
  obtain ⟨x, H1, I1, rx, a, dx, fs, rfl, ea, l, q⟩ := hq
  obtain rfl : u = Value.ref a := rx
  refine getmeth_ok I1 ea c hm l (PySem.W.callWith_K (first := [.ref a]) (h₀ := X.base) I.ok.mod.kin hm.kp (thn (ha.run pos pins s1 σ H1 _ I1 q) fun us s2 hq2 => ?_) hst hpl)
  obtain ⟨vs, H2, I2, r, q2⟩ := hq2
  exact ⟨I2.kIn, run_fnS (us := .ref a :: us) (vs := .ref a :: vs) F hr b (hx σ) I2 (.cons rfl r) q2⟩
theorem pe_mS0 (he : PE X o ta) (c : Cls X.K (He.ga X.K C)) (hm : Meth X.K (He.ga X.K C) m (He.ma X.K (He.ga X.K C) m)) (F : MOk X.prog X.w X.K X.mg X.base CX k C m ps sp) (hr : Room k X.A) (hx : ∀ σ, PassesAt CX X σ (E σ)) {pl : Sem Bool}
    (ht : eval (.Call (.Attribute o m apos) [] [] pos) X.env = (do
      let ov ← eval o X.env
      standAt apos.atName
      let (f, first) ← holding [ov] (getMethod ov m pl)
      callWith pos f first (backTo pos (starEach [] X.env)) (backToKw pos (keywordEach [] X.env))) := by rfl) :
    PE X (.Call (.Attribute o m apos) [] [] pos) (tMe (He.ga X.K C) m sp E ta tNil) := by
  obtain ⟨fd, F, b⟩ := F
  refine ⟨fun pins s σ H Q I h => PySem.W.methodCall_KW (pl := pl) (thn (he.run pins s σ H _ I h) fun u s1 hq => ?_) ht⟩
  obtain ⟨x, H1, I1, rx, a, dx, fs, rfl, ea, l, q⟩ := hq
  obtain rfl : u = Value.ref a := rx
  refine getmeth_ok I1 ea c hm l (PySem.W.callWith_K0 (first := [.ref a]) I1.kIn hm.kp ?_)
  exact run_fnS (us := [.ref a]) (vs := [.ref a]) F hr b (hx σ) I1 (.cons rfl .nil) q
/-- C(..) -/
def tMkS (C : Addr) (sp : Sp) (E : L2.St → XK) (t : TA) : TE := fun σ H Q => t σ H fun vs H1 => ∀ x dx, H1 x = none → H1 dx = none → dx ≠ x → sp (.ref x :: vs) (upd (upd H1 dx (.own x)) x (.ins C dx [])) (fun v H2 => v = .non ∧ Q (.ref x) H2) (E σ)
theorem pe_mkS (M : Mk X.K (He.ga X.K C) (He.ma X.K (He.ga X.K C) "__init__")) (F : MOk X.prog X.w X.K X.mg X.base CX k C "__init__" ps sp) (hr : Room (k + 1) X.A) (hg : Gl X C) (hm : X.mg C = some (.ref (He.ga X.K C))) (hx : ∀ σ, PassesAt CX X σ (E σ))
    (ha : PA X (e :: es) t) (hdb : (C == ("__debug__" : Str)) = false := by decide) (he : starEach (e :: es) X.env = (false, eval e X.env) :: starEach es X.env := by rfl) (hpl : (backTo pos (starEach es X.env)).any (·.1) = false := by rfl) :
    PE X (.Call (.Name C p) (e :: es) [] pos) (tMkS (He.ga X.K C) sp E t) := by
  obtain ⟨fd, F, b⟩ := F
  refine ⟨fun pins s σ H Q I h => ?_⟩
  refine wpAny_Call_Name_kw (ld_glob I hg hm ?_ hdb)
  refine PySem.W.callWith_K (h₀ := X.base) I.ok.mod.kin M.kp (thn (ha.run pos pins s σ H _ I h) fun us s1 ⟨vs, H1, I1, r, q⟩ => ⟨I1.kIn, ?_⟩) he hpl
  have hq := q (s1.heap.objs.size + 1) s1.heap.objs.size (I1.hok.fresh (Nat.le_succ _)) (I1.hok.fresh (Nat.le_refl _)) (Nat.ne_of_lt (Nat.lt_succ_self _))
  have I2 := Inv.made (C := He.ga X.K C) I1
  have r2 : Vals (V.ref (s1.heap.objs.size + 1) :: vs) (Value.ref (s1.heap.objs.size + 1) :: us) := .cons rfl r
  have hl : (Value.ref (s1.heap.objs.size + 1) :: us).length = ps.length := by rw [← r2.length]; exact F.len _ _ _ _ hq
  have bb := b _ (Value.ref (s1.heap.objs.size + 1) :: us) I2.kIn (by rw [List.append_nil]; exact hl)
  rw [List.append_nil] at bb
  refine wpAny_call (make_map (f := He.ma X.K (He.ga X.K C) "__init__") I1.kIn M.makes M.init (beq_iff_eq.mp M.fn) (codeAny_mono (F.run _ X.stack _ _ ⟨Value.ref (s1.heap.objs.size + 1) :: us, []⟩ (Value.ref (s1.heap.objs.size + 1) :: us) _ _ (E σ) (hr.make (He.ga X.K C) us [])
    (I2.env0.make (He.ga X.K C) us []) bb r2 hq) fun r s' hq' => ?_))
  cases r with
  | error e => exact hx σ pins _ _ e s' I2 hq'
  | ok fl =>
    cases fl with
    | ret u =>
      obtain ⟨v, H', I3, rv, ev, q3⟩ := I2.after hq'
      subst ev
      exact ⟨rv, ⟨V.ref (s1.heap.objs.size + 1), H', I3, rfl, q3⟩⟩
    | next => exact False.elim hq'
    | brk => exact False.elim hq'
    | cont => exact False.elim hq'
end
section
variable {X : Cx} {Ex : WX} {e a b c tg : Expr} {es ts : List Expr} {st : Stmt} {p r : PX} {pa : PXA} {q : PSp} {pos : PySem.Pos} {i : Nat} {n m f : Str}
/-- a method of an instance that stays -/
def pMeth (n m : Str) (q : PSp) (p : PX) (pa : PXA) : PX := fun γ K E => p γ (fun x γ1 => match x with
  | .obj c fs => c = n ∧ fs.lookup m = none ∧ pa γ1 (fun xs γ2 => q (.sh (.obj c fs) :: xs.map .sh) (fun x _ => K x γ2) (fun _ c _ => K c.pv γ2) (fun c fs _ => E c fs γ2)) E
  | _ => False) E
def pMethO (n m : Str) (q : PSp) (p : PX) (pa : PXA) : PXO := fun γ K E => p γ (fun x γ1 => match x with
  | .obj c fs => c = n ∧ fs.lookup m = none ∧ pa γ1 (fun xs γ2 => q (.sh (.obj c fs) :: xs.map .sh) noK (fun a c _ => K a c γ2) (fun c fs _ => E c fs γ2)) E
  | _ => False) E
theorem pp_meth (h : PE X e (tMe (He.ga X.K n) m (spOf X.K q) (WE Ex) (tP X.K Ex p) (tA X.K Ex pa))) : JV X Ex e (pMeth n m q p pa) := PE.imp h fun σ H Q ⟨R, G, γ, Kp, Ep, A, h, k, x⟩ =>
  ⟨R, G, γ, _, Ep, A, h, fun v H1 G1 y γ1 s1 A1 r1 h1 => by
    try dsimp only at h1
    split at h1
    · obtain ⟨rfl, e, h1⟩ := h1
      cases r1 with
      | obj g r =>
        refine ⟨_, _, _, rfl, A1.gh _ _ g, r.no e, R, G1, γ1, _, Ep, A1, h1, fun vs H2 G2 xs γ2 s2 A2 r2 h2 => ?_, x.mono s1⟩
        have s12 := same_trans s1 s2
        exact call_to (xs := .obj _ _ :: xs) A2 (.cons (.obj (s2 _ _ g) (r.same s2)) r2) h2 (fun v H' G' x γ' s A' r h => k v H' G' x γ' (same_trans s12 s) A' r h) (x.mono s12)
    · exact h1.elim, x⟩
theorem callO_to {K : PySem.W.Frag} {R G H : Hp} {σ : L2.St} {γ : PEnv} {vs : List V} {xs : List PV} {Kp : Addr → Cell → PEnv → Prop} {Ep : EK} {Q : VK} (A : At K R G H σ γ) (r : Reps K G vs xs) (h : q (xs.map .sh) noK (fun a c _ => Kp a c γ) (fun c fs _ => Ep c fs γ))
    (k : ∀ a H' G' c γ', Same G G' → At K R G' H' σ γ' → OwnR K R G' H' γ' a c → Kp a c γ' → Q (.ref a) H') (x : ExR K R G σ Ex Ep) : spOf K q vs H Q (WE Ex σ) :=
  ⟨frm G H none, G, _, _, _, _, A.call0 r, h, fun v H' G' x γ' s B r h => h.elim, fun a H' G' c γ' s B O h => k a H' G' c γ s (A.back0 s B) (OwnR.back0 A O) h,
    fun c d ws fs H' G' γ' s B e n r h => x c d ws fs H' G' γ s (A.back0 s B) e (frm_no A e n B) r h⟩
theorem po_meth (h : PE X e (tMe (He.ga X.K n) m (spOf X.K q) (WE Ex) (tP X.K Ex p) (tA X.K Ex pa))) : JO X Ex e (pMethO n m q p pa) := PE.imp h fun σ H Q ⟨R, G, γ, Kp, Ep, A, h, k, x⟩ =>
  ⟨R, G, γ, _, Ep, A, h, fun v H1 G1 y γ1 s1 A1 r1 h1 => by
    try dsimp only at h1
    split at h1
    · obtain ⟨rfl, e, h1⟩ := h1
      cases r1 with
      | obj g r =>
        refine ⟨_, _, _, rfl, A1.gh _ _ g, r.no e, R, G1, γ1, _, Ep, A1, h1, fun vs H2 G2 xs γ2 s2 A2 r2 h2 => ?_, x.mono s1⟩
        have s12 := same_trans s1 s2
        exact callO_to (xs := .obj _ _ :: xs) A2 (.cons (.obj (s2 _ _ g) (r.same s2)) r2) h2 (fun a H' G' c γ' s A' O h => k a H' G' c γ' (same_trans s12 s) A' O h) (x.mono s12)
    · exact h1.elim, x⟩
/-- .. without arguments -/
def pMeth0 (n m : Str) (q : PSp) (p : PX) : PX := fun γ K E => p γ (fun x γ1 => match x with
  | .obj c fs => c = n ∧ fs.lookup m = none ∧ q [.sh (.obj c fs)] (fun x _ => K x γ1) (fun _ c _ => K c.pv γ1) (fun c fs _ => E c fs γ1)
  | _ => False) E
def pMethO0 (n m : Str) (q : PSp) (p : PX) : PXO := fun γ K E => p γ (fun x γ1 => match x with
  | .obj c fs => c = n ∧ fs.lookup m = none ∧ q [.sh (.obj c fs)] noK (fun a c _ => K a c γ1) (fun c fs _ => E c fs γ1)
  | _ => False) E
theorem pp_meth0 (h : PE X e (tMe (He.ga X.K n) m (spOf X.K q) (WE Ex) (tP X.K Ex p) tNil)) : JV X Ex e (pMeth0 n m q p) := PE.imp h fun σ H Q ⟨R, G, γ, Kp, Ep, A, h, k, x⟩ =>
  ⟨R, G, γ, _, Ep, A, h, fun v H1 G1 y γ1 s1 A1 r1 h1 => by
    try dsimp only at h1
    split at h1
    · obtain ⟨rfl, e, h1⟩ := h1
      cases r1 with
      | obj g r =>
        refine ⟨_, _, _, rfl, A1.gh _ _ g, r.no e, ?_⟩
        exact call_to (xs := [.obj _ _]) A1 (.cons (.obj g r) .nil) h1 (fun v H' G' x γ' s A' r h => k v H' G' x γ' (same_trans s1 s) A' r h) (x.mono s1)
    · exact h1.elim, x⟩
theorem po_meth0 (h : PE X e (tMe (He.ga X.K n) m (spOf X.K q) (WE Ex) (tP X.K Ex p) tNil)) : JO X Ex e (pMethO0 n m q p) := PE.imp h fun σ H Q ⟨R, G, γ, Kp, Ep, A, h, k, x⟩ =>
  ⟨R, G, γ, _, Ep, A, h, fun v H1 G1 y γ1 s1 A1 r1 h1 => by
    try dsimp only at h1
    split at h1
    · obtain ⟨rfl, e, h1⟩ := h1
      cases r1 with
      | obj g r =>
        refine ⟨_, _, _, rfl, A1.gh _ _ g, r.no e, ?_⟩
        exact callO_to (xs := [.obj _ _]) A1 (.cons (.obj g r) .nil) h1 (fun a H' G' c γ' s A' O h => k a H' G' c γ' (same_trans s1 s) A' O h) (x.mono s1)
    · exact h1.elim, x⟩
/-- a method of an instance of one's own, in slot i -/
def pMethW (n m : Str) (q : PSp) (i : Nat) (pa : PXA) : PX := fun γ K E => pSlotI i n m (fun γ => pa γ (fun xs γ1 => match γ1[i]? with
  | some (.ow w c) => q (.ow w c :: xs.map .sh) (fun x γa => K x (γ1.set i (γa.headD .no))) (fun _ c _ => False) (fun c fs γa => E c fs (γ1.set i (γa.headD .no)))
  | _ => False) E) γ
where pSlotI (i : Nat) (n m : Str) (k : PEnv → Prop) : PEnv → Prop := fun γ => match γ[i]? with
  | some (.ow _ (.ins c fs)) => c = n ∧ fs.lookup m = none ∧ k γ
  | _ => False
theorem slotI_at {K : PySem.W.Frag} {R G H : Hp} {σ : L2.St} {γ : PEnv} {k : PEnv → Prop} (A : At K R G H σ γ) (h : pMethW.pSlotI i n m k γ) : k γ ∧ ∃ a dx vs, σ[i]? = some (some (.ref a)) ∧ H a = some (.ins (He.ga K n) dx vs) ∧ vs.lookup m = none := by
  unfold pMethW.pSlotI at h
  split at h
  · rename_i a c fs e
    obtain ⟨rfl, l, h⟩ := h
    obtain ⟨h1, _, _, dx, vs, h2, r⟩ := A.ow e
    exact ⟨h, a, dx, vs, h1, h2, r.no l⟩
  · exact h.elim
theorem pp_methW (h : PE X e (tMe (He.ga X.K n) m (spOf X.K q) (WE Ex) (tVar i) (tA X.K Ex pa))) : JV X Ex e (pMethW n m q i pa) := PE.imp h fun σ H Q ⟨R, G, γ, Kp, Ep, A, h, k, x⟩ => by
  obtain ⟨h, ad, dx, vs0, ea, eh, el⟩ := slotI_at A h
  refine ⟨_, ea, _, dx, vs0, rfl, eh, el, R, G, γ, _, Ep, A, h, fun vs H1 G1 xs γ1 s1 A1 r1 h1 => ?_, x⟩
  try dsimp only at h1
  split at h1
  · rename_i w c e
    obtain ⟨ew, _⟩ := own_at ea A1 e
    cases ew
    show spOf X.K q (V.ref ad :: vs) H1 Q (WE Ex σ)
    refine ⟨frm G1 H1 (some ad), G1, _, _, _, _, A1.callW e r1, h1, fun v H' G' x γ' s B r h => ?_, fun a H' G' c γ' s B O h => h.elim, fun c d ws fs H' G' γ' s B e' n r h => ?_⟩
    · obtain ⟨g, γt, rfl⟩ := at_len B
      exact k v H' G' x _ (same_trans s1 s) (A1.backW e s B) r h
    · obtain ⟨g, γt, rfl⟩ := at_len B
      exact x c d ws fs H' G' _ (same_trans s1 s) (A1.backW e s B) e' (frm_noW A1 e n) r h
  · exact h1.elim
/-! ### C(..) -/
def pMk (n : Str) (q : PSp) (pa : PXA) : PXO := fun γ K E => pa γ (fun xs γ1 => ∀ w, q (.ow w (.ins n []) :: xs.map .sh) (fun x γa => match x, γa.headD .no with
  | .non, .ow _ c => K w c γ1
  | _, _ => False) noO (fun c fs _ => E c fs γ1)) E
theorem po_mk (h : PE X e (tMkS (He.ga X.K n) (spOf X.K q) (WE Ex) (tA X.K Ex pa))) : JO X Ex e (pMk n q pa) := PE.imp h fun σ H Q ⟨R, G, γ, Kp, Ep, A, h, k, x⟩ =>
  ⟨R, G, γ, _, Ep, A, h, fun vs H1 G1 xs γ1 s1 A1 r1 h1 => fun w dx nw nd ne => by
    have gw := none_of A1.gh nw
    have gd := none_of A1.gh nd
    have up2 : ∀ b o, H1 b = some o → upd (upd H1 dx (.own w)) w (.ins (He.ga X.K n) dx []) b = some o := fun b o e => by
      rw [upd_ne (ne_of_none e nw), upd_ne (ne_of_none e nd)]; exact e
    have B0 : At X.K (frm G1 H1 none) G1 (upd (upd H1 dx (.own w)) w (.ins (He.ga X.K n) dx [])) ((V.ref w :: vs).map some) (.ow w (.ins n []) :: xs.map .sh) := by
      refine ⟨fun b o h => up2 b o (frm_some h).1, fun b o h => (frm_some h).2.1, fun b o h => up2 b o (A1.gh _ _ h), by simp [r1.len], fun j g q => ?_, fun j k b d d' e1 e2 => ?_⟩
      · cases j with
        | zero =>
          cases q
          refine ⟨_, rfl, rfl, ?_, gw, dx, [], upd_same, .nil⟩
          unfold frm
          split
          · rfl
          · exact nw
        | succ j => exact slots_sh r1 q
      · cases j with
        | zero =>
          cases k with
          | zero => rfl
          | succ k => exact (no_ow e2).elim
        | succ j => exact (no_ow e1).elim
    refine ⟨frm G1 H1 none, G1, _, _, _, _, B0, h1 w, fun v H' G' x γ' s B r h => ?_, fun a H' G' c γ' s B O h => h.elim, fun c d ws fs H' G' γ' s B e n r h => x c d ws fs H' G' γ1 (same_trans s1 s) (A1.back0 s B) e (frm_no A1 e n B) r h⟩
    obtain ⟨g, γt, rfl⟩ := at_len B
    have A' := A1.back0 s B
    cases x <;> first
      | exact h.elim
      | (cases g with
         | no => exact h.elim
         | sh y => exact h.elim
         | ow b c =>
           obtain ⟨s0, g1, g2⟩ := B.sl 0 _ rfl
           cases g1
           obtain ⟨f1, f2, f3, f4⟩ := g2
           cases f1
           cases r
           refine ⟨rfl, k w H' G' c γ1 (same_trans s1 s) A' ⟨none_of A1.rh nw, f3, f4, fun j c' q => ?_⟩ h⟩
           obtain ⟨o, eo⟩ := CellR.ex (A1.ow q).2.2.2
           rw [nw] at eo
           cases eo), x⟩
/-! ### self.f = e -/
def putP (f : Str) (x : PV) : List (Str × PV) → List (Str × PV)
  | [] => [(f, x)]
  | (g, y) :: r => if g = f then (g, x) :: r else (g, y) :: putP f x r
theorem RepF.put {K : PySem.W.Frag} {G : Hp} {v : V} {x : PV} (r : Rep K G v x) (f : Str) : ∀ {vs : List (Str × V)} {xs : List (Str × PV)}, RepF K G vs xs → RepF K G (putF f v vs) (Pu.putP f x xs)
  | _, _, .nil => .cons r .nil
  | _, _, .cons (n := g) h t => by
    unfold putF Pu.putP
    by_cases e : g = f
    · rw [if_pos e, if_pos e]
      exact .cons r t
    · rw [if_neg e, if_neg e]
      exact .cons h (RepF.put r f t)
def sFldO (i : Nat) (n f : Str) (p : PX) : PXS := fun D γ => p γ (fun x γ1 => match γ1[i]? with
  | some (.ow a (.ins c fs)) => c = n ∧ fs.length < 1000 ∧ D.nx (γ1.set i (.ow a (.ins c (Pu.putP f x fs))))
  | _ => False) D.ex
theorem js_fldO (hC : Cls X.K (He.ga X.K n)) (hN : NoAttr X.K (He.ga X.K n) f) (h : PS X st (sFld X.K (tVar i) (tP X.K Ex p) f)) : JS X Ex st (sFldO i n f p) := PS.imp h fun D σ H ⟨R, G, γ, P, A, h, E⟩ =>
  ⟨R, G, γ, _, _, A, h, fun v H1 G1 x γ1 s1 A1 r1 h1 => by
    try dsimp only at h1
    split at h1
    · rename_i a c fs e
      obtain ⟨rfl, hl, h1⟩ := h1
      obtain ⟨f1, _, _, dx, vs, f2, r⟩ := A1.ow e
      exact ⟨_, f1, _, _, dx, vs, rfl, f2, hC, hN, by rw [r.len]; exact hl, E.nx σ _ G1 _ s1 (At.write (c' := .ins c (Pu.putP f x fs)) A1 e ⟨dx, _, upd_same, r.put r1 f⟩) h1⟩
    · exact h1.elim, E.ex σ⟩
/-! ### a caught exception -/
def pXf (a : Addr) (cls : Value) (d : Option Addr) (n f : Str) (K0 : PySem.W.Frag) (p : PX) : PX := fun γ K E => p γ (fun x γ1 => match x with
  | .exo a' d' c fs => a' = a ∧ cls = .ref (He.ga K0 n) ∧ d = some d' ∧ ∃ y, fs.lookup f = some y ∧ K y γ1
  | _ => False) E
theorem pp_xf {ad : Addr} {cls : Value} {d : Option Addr} (h : PE X e (tXf ad cls d (He.ga X.K n) f (tP X.K Ex p))) : JV X Ex e (pXf ad cls d n f X.K p) := PE.imp h fun σ H Q ⟨R, G, γ, Kp, Ep, A, h, k, x⟩ =>
  ⟨R, G, γ, _, Ep, A, h, fun v H1 G1 y γ1 s1 A1 r1 h1 => by
    try dsimp only at h1
    split at h1
    · obtain ⟨rfl, rfl, rfl, y, e, h1⟩ := h1
      cases r1 with
      | exo g r =>
        obtain ⟨u, e2, r2⟩ := r.get e
        exact ⟨rfl, rfl, _, _, u, rfl, A1.gh _ _ g, e2, k u H1 G1 y γ1 s1 A1 r2 h1⟩
    · exact h1.elim, x⟩
/-- try: body except c as (slot i): suite -/
def sTry (K : PySem.W.Frag) (c : Str) (i : Nat) (s : PXS) (ts : Addr → Value → Option Addr → PXS) : PXS := fun D γ => s { D with ex := fun c' fs γ' => ∃ b, PySem.W.exmOne K (.ref (He.ga K c')) (.ref (He.ga K c)) = some b ∧
  (b = true → ∀ a d, ts a (.ref (He.ga K c')) (some d) { nx := fun γ2 => D.nx (γ2.set i .no), rt := D.rt, ro := D.ro, bk := fun γ2 => D.bk (γ2.set i .no), ct := fun γ2 => D.ct (γ2.set i .no) } (γ'.set i (.sh (.exo a d c' fs)))) ∧ (b = false → D.ex c' fs γ') } γ
theorem At.setN {K : PySem.W.Frag} {R G H : Hp} {σ : L2.St} {γ : PEnv} (A : At K R G H σ γ) (s : Option V) : At K R G H (σ.set i s) (γ.set i .no) :=
  A.set _ _ trivial fun _ _ _ _ e => nomatch e
/-- an exception's dict stays -/
theorem At.xd {K : PySem.W.Frag} {R G H : Hp} {σ : L2.St} {γ : PEnv} {d : Addr} {ws : List (Str × V)} (A : At K R G H σ γ) (e : H d = some (.xd ws)) (n : R d = none) : At K R (upd G d (.xd ws)) H σ γ ∧ Same G (upd G d (.xd ws)) := by
  have sg : Same G (upd G d (.xd ws)) := fun b o h => by
    by_cases hb : b = d
    · subst hb
      have := A.gh _ _ h
      rw [e] at this
      rw [upd_same]
      exact this
    · rw [upd_ne hb]; exact h
  refine ⟨⟨A.rh, fun b o h => ?_, fun b o h => ?_, A.len, fun j g q => ?_, A.di⟩, sg⟩
  · rw [upd_ne (ne_of_none h n)]; exact A.rg _ _ h
  · by_cases hb : b = d
    · subst hb; rw [upd_same] at h; rw [e]; exact h
    · rw [upd_ne hb] at h; exact A.gh _ _ h
  · obtain ⟨s, g1, g2⟩ := A.sl j g q
    refine ⟨s, g1, ?_⟩
    cases g with
    | no => trivial
    | sh x => obtain ⟨v, e1, r⟩ := g2; exact ⟨v, e1, r.same sg⟩
    | ow b c =>
      obtain ⟨f1, f2, f3, f4⟩ := g2
      have hb : b ≠ d := fun z => by
        subst z
        cases c with
        | lst xs => obtain ⟨_, q, _⟩ := f4; rw [e] at q; cases q
        | ins c fs => obtain ⟨_, _, q, _⟩ := f4; rw [e] at q; cases q
        | dic fs => obtain ⟨_, q, _⟩ := f4; rw [e] at q; cases q
      exact ⟨f1, f2, by rw [upd_ne hb]; exact f3, CellR.mono f4 sg fun o q => q⟩
theorem js_try {c : Str} {s : PXS} {ts : Addr → Value → Option Addr → PXS} (h : PS X st (fun D σ H => tS X.K (wAs X.K (.ref (He.ga X.K c)) i (fun a cls d => tS X.K (fun _ _ _ _ => False) (ts a cls d)) Ex D) s D σ H)) : JS X Ex st (sTry X.K c i s ts) := PS.imp h fun D σ H ⟨R, G, γ, P, A, h, E⟩ =>
  ⟨R, G, γ, _, A, h, ⟨E.nx, E.rt, E.ro, E.bk, E.ct, fun σ' c' d ws fs H' G' γ' s' A' e n r ⟨b, h1, h2, h3⟩ => by
    refine ⟨b, h1, fun hb a na => ?_, fun hb => E.ex σ' c' d ws fs H' G' γ' s' A' e n r (h3 hb)⟩
    obtain ⟨A2, s2⟩ := A'.xd e n
    have s12 := same_trans s' s2
    refine ⟨R, _, _, _, A2.setS (v := .ref a) (x := .exo a d c' fs) (.exo upd_same (r.same s2)), h2 hb a d, ⟨fun σ3 H3 G3 γ3 s3 A3 q => E.nx _ H3 G3 _ (same_trans s12 s3) (A3.setN none) q, fun v H3 G3 x σ3 γ3 s3 A3 r q => E.rt v H3 G3 x σ3 γ3 (same_trans s12 s3) A3 r q,
      fun a H3 G3 c σ3 γ3 s3 A3 O q => E.ro a H3 G3 c σ3 γ3 (same_trans s12 s3) A3 O q, fun σ3 H3 G3 γ3 s3 A3 q => E.bk _ H3 G3 _ (same_trans s12 s3) (A3.setN none) q, fun σ3 H3 G3 γ3 s3 A3 q => E.ct _ H3 G3 _ (same_trans s12 s3) (A3.setN none) q, fun σ3 c d ws fs H' G' γ' s A e n r q => q.elim⟩⟩⟩⟩
/-! ### [e for x in xs if t] -/
def wipeP (γ : PEnv) : List Nat → PEnv
  | [] => γ
  | v :: vs => (wipeP γ vs).set v .no
theorem At.wipe {K : PySem.W.Frag} {R G H : Hp} {σ : L2.St} {γ : PEnv} (A : At K R G H σ γ) : ∀ vs : List Nat, At K R G H (L2.wipe σ vs) (wipeP γ vs)
  | [] => A
  | v :: vs => At.setN (At.wipe A vs) none
theorem wipeP_get (γ : PEnv) : ∀ {vs : List Nat} {j : Nat} {g : Sl}, (wipeP γ vs)[j]? = some g → g = .no ∨ γ[j]? = some g
  | [], _, _, h => .inr h
  | v :: vs, j, g, h => by
    rcases get_set h with ⟨rfl, h1, _⟩ | ⟨_, h⟩
    · exact .inl h1
    · exact wipeP_get γ h
theorem wipeP_len (γ : PEnv) : ∀ vs : List Nat, (wipeP γ vs).length = γ.length
  | [] => rfl
  | v :: vs => by
    show ((wipeP γ vs).set v .no).length = _
    rw [List.length_set, wipeP_len γ vs]
theorem wipeP_in (γ : PEnv) : ∀ {vs : List Nat} {j : Nat}, j ∈ vs → j < γ.length → (wipeP γ vs)[j]? = some .no
  | v :: vs, j, h, hl => by
    by_cases e : v = j
    · subst e
      show ((wipeP γ vs).set v .no)[v]? = _
      rw [List.getElem?_set_self (by rw [wipeP_len]; exact hl)]
    · show ((wipeP γ vs).set v .no)[j]? = _
      rw [List.getElem?_set_ne e]
      rcases List.mem_cons.mp h with h | h
      · exact absurd h.symm e
      · exact wipeP_in γ h hl
theorem wipe_out (σ : L2.St) : ∀ {vs : List Nat} {j : Nat}, j ∉ vs → (L2.wipe σ vs)[j]? = σ[j]?
  | [], _, _ => rfl
  | v :: vs, j, h => by
    show ((L2.wipe σ vs).set v none)[j]? = _
    rw [List.getElem?_set_ne (fun z => h (by rw [z]; exact List.mem_cons_self ..))]
    exact wipe_out σ fun z => h (List.mem_cons_of_mem _ z)
/-- back from the comprehension's slots -/
theorem At.unwipe {K : PySem.W.Frag} {R G H : Hp} {σ σ2 : L2.St} {γ : PEnv} {vs : List Nat} (A : At K R G H σ2 γ) (hl : σ2.length = σ.length) (e : L2.wipe σ2 vs = L2.wipe σ vs) : At K R G H σ (wipeP γ vs) := by
  refine ⟨A.rh, A.rg, A.gh, by rw [wipeP_len, ← A.len, hl], fun j g q => ?_, fun i j a c c' e1 e2 => ?_⟩
  · have hj : j < γ.length := by
      have := (List.getElem?_eq_some_iff.mp q).1
      rw [wipeP_len] at this
      exact this
    by_cases hv : j ∈ vs
    · have q2 : (wipeP γ vs)[j]? = some Sl.no := wipeP_in γ hv hj
      rw [q] at q2
      cases q2
      refine ⟨σ[j]'(by rw [← hl, A.len]; exact hj), List.getElem?_eq_getElem _, trivial⟩
    · rcases wipeP_get γ q with rfl | q2
      · exact ⟨σ[j]'(by rw [← hl, A.len]; exact hj), List.getElem?_eq_getElem _, trivial⟩
      · obtain ⟨s, g1, g2⟩ := A.sl j g q2
        refine ⟨s, ?_, g2⟩
        rw [← wipe_out σ hv, ← e, wipe_out σ2 hv]
        exact g1
  · rcases wipeP_get γ e1 with z | e1
    · cases z
    · rcases wipeP_get γ e2 with z | e2
      · cases z
      · exact A.di i j a c c' e1 e2
/-- targets within a comprehension -/
def tGv (K : PySem.W.Frag) (vs : List Nat) (p : PXG) : TG := fun v σ H Q => ∃ (R G : Hp) (γ : PEnv) (x : PV) (Kp : PEnv → Prop), At K R G H σ γ ∧ Rep K G v x ∧ p x γ Kp ∧ ∀ σ' H' G' γ', Same G G' → At K R G' H' σ' γ' → σ'.length = σ.length → L2.wipe σ' vs = L2.wipe σ vs → Kp γ' → Q σ' H'
def tGsv (K : PySem.W.Frag) (vs : List Nat) (p : PXGs) : TGs := fun us σ H Q => ∃ (R G : Hp) (γ : PEnv) (xs : List PV) (Kp : PEnv → Prop), At K R G H σ γ ∧ Reps K G us xs ∧ p xs γ Kp ∧ ∀ σ' H' G' γ', Same G G' → At K R G' H' σ' γ' → σ'.length = σ.length → L2.wipe σ' vs = L2.wipe σ vs → Kp γ' → Q σ' H'
theorem wipe_set {σ : L2.St} {s : Option V} : ∀ {vs : List Nat} {i : Nat}, i ∈ vs → L2.wipe (σ.set i s) vs = L2.wipe σ vs
  | v :: vs, i, h => by
    show (L2.wipe (σ.set i s) vs).set v none = (L2.wipe σ vs).set v none
    by_cases hi : i ∈ vs
    · rw [wipe_set hi]
    · have hv : i = v := (List.mem_cons.mp h).resolve_right hi
      subst hv
      have key : ∀ (ws : List Nat), i ∉ ws → (L2.wipe (σ.set i s) ws).set i none = (L2.wipe σ ws).set i none := fun ws => by
        induction ws with
        | nil => intro _; show (σ.set i s).set i none = σ.set i none; rw [List.set_set]
        | cons w ws ih =>
          intro hw
          show ((L2.wipe (σ.set i s) ws).set w none).set i none = ((L2.wipe σ ws).set w none).set i none
          have ne : w ≠ i := fun z => hw (by rw [z]; exact List.mem_cons_self ..)
          rw [List.set_comm _ _ ne, List.set_comm _ _ ne, ih fun z => hw (List.mem_cons_of_mem _ z)]
      exact key vs hi
theorem jgv_name {vs : List Nat} (h : PG X tg (gName i)) (hi : i ∈ vs) : PG X tg (tGv X.K vs (gN i)) := PG.imp h fun v σ H Q ⟨R, G, γ, x, Kp, A, r, h, k⟩ => k _ H G _ same_refl (A.setS r) (List.length_set ..) (wipe_set hi) h
theorem jgsv_nil {vs : List Nat} : PGs X [] (tGsv X.K vs gNilP) := PGs.imp pgs_nil fun us σ H Q ⟨R, G, γ, xs, Kp, A, r, h, k⟩ => by
  cases r with
  | nil => exact ⟨rfl, k σ H G γ same_refl A rfl rfl h⟩
  | cons _ _ => exact h.elim
theorem jgsv_cons {vs : List Nat} {pg : PXG} {pgs : PXGs} (h1 : PG X e (tGv X.K vs pg)) (h2 : PGs X es (tGsv X.K vs pgs)) (hs : (assignEach (e :: es) X.env).map (·.2) = assign e X.env :: (assignEach es X.env).map (·.2) := by rfl) : PGs X (e :: es) (tGsv X.K vs (gConsP pg pgs)) := PGs.imp (pgs_cons h1 h2 hs) fun us σ H Q ⟨R, G, γ, xs, Kp, A, r, h, k⟩ => by
  unfold gConsP at h
  split at h
  · cases r with
    | cons r1 r2 =>
      exact ⟨_, _, rfl, R, G, γ, _, _, A, r1, h, fun σ' H' G' γ' s A' l w h' => ⟨R, G', γ', _, Kp, A', r2.same s, h', fun σ2 H2 G2 γ2 s2 A2 l2 w2 h2 => k σ2 H2 G2 γ2 (same_trans s s2) A2 (l2.trans l) (w2.trans w) h2⟩⟩
  · exact h.elim
theorem jgv_tup {vs : List Nat} {k : Nat} {pgs : PXGs} {n : Nat} (hc : X.calm = true) (h : PGs X es (tGsv X.K vs pgs)) (hn : (assignEach es X.env).length = n := by rfl) (hst : (assignEach es X.env).findIdx? (·.1) = none := by rfl) : PG X (.Tuple es k pos) (tGv X.K vs (gTupP n pgs)) := PG.imp (pg_tup hc h hn hst) fun v σ H Q ⟨R, G, γ, x, Kp, A, r, h, k⟩ => by
  unfold gTupP at h
  split at h
  · cases r with
    | tup g r => exact ⟨_, _, rfl, g.sq A.gh, by rw [r.len]; exact h.1, R, G, γ, _, _, A, r, h.2, k⟩
  · exact h.elim
def noE : EK := fun _ _ _ => False
def pYes : PXB := fun γ K _ => K true γ
theorem ts_nil {X : Cx} : PTs X [] (tT X.K Ex pYes) := ⟨fun pins s σ H Q I ⟨R, G, γ, Kp, Ep, A, h, k, _⟩ => pts_nil.run pins s σ H Q I (k true H G γ same_refl A h)⟩
theorem ts_one {X : Cx} {c : Expr} {pb : PXB} (h : JB X Ex c pb) : PTs X [c] (tT X.K Ex pb) := pts_one h
def pLc (vs : List Nat) (pi : PXI) (g : PXG) (t : PXB) (p : PX) : PXO := fun γ K E => pi γ (fun S γ1 => ∃ W : Nat → List PV → PEnv → Prop, W 0 [] (wipeP γ1 vs) ∧
  (∀ i x acc γ, i < S.n → S.it i x → W i acc γ → g x γ fun γ2 => t γ2 (fun b γ3 => if b = true then p γ3 (fun y γ4 => acc.length < sizeLine ∧ W (i + 1) (acc ++ [y]) (wipeP γ4 vs)) noE else W (i + 1) acc (wipeP γ3 vs)) noE) ∧
  ∀ acc γ, W S.n acc γ → ∀ a, K a (.lst acc) γ) E
theorem At.hide {K : PySem.W.Frag} {R G H : Hp} {σ : L2.St} {γ : PEnv} {D : Addr} {c : Cell} {o : HO} (A : At K R G H σ γ) (O : OwnR K R G H γ D c) (e : H D = some o) : At K (upd R D o) G H σ γ := by
  refine ⟨fun b u h => ?_, fun b u h => ?_, A.gh, A.len, fun j g q => ?_, A.di⟩
  · by_cases hb : b = D
    · subst hb; rw [upd_same] at h; cases h; exact e
    · rw [upd_ne hb] at h; exact A.rh _ _ h
  · by_cases hb : b = D
    · subst hb; exact O.g
    · rw [upd_ne hb] at h; exact A.rg _ _ h
  · obtain ⟨s, g1, g2⟩ := A.sl j g q
    refine ⟨s, g1, ?_⟩
    cases g with
    | no => trivial
    | sh x => exact g2
    | ow b c =>
      obtain ⟨f1, f2, f3, f4⟩ := g2
      have hb : b ≠ D := fun z => O.n j c (by subst z; exact q)
      exact ⟨f1, by rw [upd_ne hb]; exact f2, f3, f4⟩
theorem At.unhide {K : PySem.W.Frag} {R G H : Hp} {σ : L2.St} {γ : PEnv} {D : Addr} {o : HO} (B : At K (upd R D o) G H σ γ) (n : R D = none) : At K R G H σ γ ∧ H D = some o ∧ G D = none ∧ ∀ (j : Nat) (c : Cell), γ[j]? ≠ some (.ow D c) := by
  have k : ∀ b u, R b = some u → (upd R D o) b = some u := fun b u h => by rw [upd_ne (ne_of_none h n)]; exact h
  have key : ∀ (j : Nat) (c : Cell), γ[j]? ≠ some (.ow D c) := fun j c q => by
    have := (B.ow q).2.1
    rw [upd_same] at this
    cases this
  refine ⟨⟨fun b u h => B.rh _ _ (k b u h), fun b u h => B.rg _ _ (k b u h), B.gh, B.len, fun j g q => ?_, B.di⟩, B.rh _ _ upd_same, B.rg _ _ upd_same, key⟩
  obtain ⟨s, g1, g2⟩ := B.sl j g q
  refine ⟨s, g1, ?_⟩
  cases g with
  | no => trivial
  | sh x => exact g2
  | ow b c =>
    obtain ⟨f1, f2, f3, f4⟩ := g2
    have hb : b ≠ D := fun z => key j c (by subst z; exact q)
    exact ⟨f1, by rw [upd_ne hb] at f2; exact f2, f3, f4⟩
theorem wipe_in (σ : L2.St) : ∀ {vs : List Nat} {j : Nat}, j ∈ vs → j < σ.length → (L2.wipe σ vs)[j]? = some none
  | v :: vs, j, h, hl => by
    by_cases e : v = j
    · subst e
      show ((L2.wipe σ vs).set v none)[v]? = _
      rw [List.getElem?_set_self (by rw [L2.wipe_length]; exact hl)]
    · show ((L2.wipe σ vs).set v none)[j]? = _
      rw [List.getElem?_set_ne e]
      rcases List.mem_cons.mp h with h | h
      · exact absurd h.symm e
      · exact wipe_in σ h hl
theorem wipe_wipe (σ : L2.St) (vs : List Nat) : L2.wipe (L2.wipe σ vs) vs = L2.wipe σ vs := by
  apply List.ext_getElem?
  intro j
  by_cases h : j ∈ vs
  · by_cases hl : j < σ.length
    · rw [wipe_in _ h (by rw [L2.wipe_length]; exact hl), wipe_in _ h hl]
    · rw [List.getElem?_eq_none (by rw [L2.wipe_length, L2.wipe_length]; omega), List.getElem?_eq_none (by rw [L2.wipe_length]; omega)]
  · rw [wipe_out _ h]
theorem At.unwipe' {K : PySem.W.Frag} {R G H : Hp} {σ : L2.St} {γ : PEnv} {vs : List Nat} (A : At K R G H (L2.wipe σ vs) γ) : At K R G H σ γ := by
  refine ⟨A.rh, A.rg, A.gh, by rw [← A.len, L2.wipe_length], fun j g q => ?_, A.di⟩
  obtain ⟨s, g1, g2⟩ := A.sl j g q
  by_cases h : j ∈ vs
  · have hj : j < σ.length := by
      have := (List.getElem?_eq_some_iff.mp g1).1
      rw [L2.wipe_length] at this
      exact this
    rw [wipe_in σ h hj] at g1
    cases g1
    cases g with
    | no => exact ⟨_, List.getElem?_eq_getElem hj, trivial⟩
    | sh x => obtain ⟨v, e, _⟩ := g2; cases e
    | ow b c => obtain ⟨e, _⟩ := g2; cases e
  · exact ⟨s, by rw [← wipe_out σ h]; exact g1, g2⟩
theorem po_lc {vs : List Nat} {pi : PXI} {pg : PXG} {pb : PXB} (h : PE X e (tLc (tI X.K Ex pi) (tGv X.K vs pg) (tT X.K (fun _ _ _ _ => False) pb) (tP X.K (fun _ _ _ _ => False) p) vs)) : JO X Ex e (pLc vs pi pg pb p) := PE.imp h fun σ H Q ⟨R, G, γ, Kp, Ep, A, h, k, x⟩ =>
  ⟨R, G, γ, _, Ep, A, h, fun J H1 G1 S γ1 s1 A1 F ⟨W, w0, hW, hd⟩ D nD => by
    have A1' := A1.newO (o := .lst []) (c := .lst []) nD ⟨[], upd_same, .nil⟩
    -- the list so far is kept apart from all slots
    have Aw : At X.K R G1 (upd H1 D (.lst [])) (L2.wipe σ vs) (wipeP γ1 vs) := A1'.1.wipe vs
    have Ow : OwnR X.K R G1 (upd H1 D (.lst [])) (wipeP γ1 vs) D (.lst []) := ⟨A1'.2.r, A1'.2.g, A1'.2.c, fun j c' q => by
      rcases wipeP_get _ q with z | q
      · cases z
      · exact A1'.2.n j c' q⟩
    refine ⟨fun i m H => m + i = S.n ∧ ∃ G2 γ2 acc, Same G1 G2 ∧ At X.K R G2 H (L2.wipe σ vs) γ2 ∧ OwnR X.K R G2 H γ2 D (.lst acc) ∧ W i acc γ2, ⟨S.n, by omega, G1, _, [], same_refl, Aw, Ow, w0⟩, fun i m H2 ⟨e, G2, γ2, acc, s2, A2, O2, w2⟩ => ?_⟩
    obtain ⟨ws, eD, rD⟩ := O2.c
    have B2 := A2.hide O2 eD
    obtain ⟨f1, f2⟩ := F i _ H2 G2 _ γ2 s2 B2
    by_cases hi : i < S.n
    · obtain ⟨hgo, hy⟩ := f1 hi
      refine .inr ⟨hgo, fun H => ∃ G2 γ2 acc, Same G1 G2 ∧ At X.K R G2 H (L2.wipe σ vs) γ2 ∧ OwnR X.K R G2 H γ2 D (.lst acc) ∧ W (i + 1) acc γ2, fun H' q => ⟨m - 1, by omega, by omega, q⟩, fun v H3 y3 => ?_⟩
      obtain ⟨z, G3, hz, s3, B3, r3⟩ := hy v H3 y3
      refine ⟨_, G3, γ2, z, _, B3, r3, hW i z acc γ2 hi hz w2, fun σ4 H4 G4 γ4 s4 B4 l4 w4 h4 => ⟨w4.trans (wipe_wipe σ vs), ?_⟩⟩
      have s24 := same_trans s3 s4
      refine ⟨_, G4, γ4, _, noE, B4, h4, fun b H5 G5 γ5 s5 B5 h5 => ?_, fun c d us fs H' G' γ' s A e n r q => q.elim⟩
      have s25 := same_trans s24 s5
      have w5 : L2.wipe σ4 vs = L2.wipe σ vs := w4.trans (wipe_wipe σ vs)
      cases b with
      | true =>
        refine ⟨_, G5, γ5, _, noE, B5, h5, fun y H6 G6 u γ6 s6 B6 r6 ⟨hl, w6⟩ => ?_, fun c d us fs H' G' γ' s A e n r q => q.elim⟩
        obtain ⟨A6, e6, g6, n6⟩ := B6.unhide O2.r
        have s26 := same_trans s25 s6
        have O6 : OwnR X.K R G6 H6 γ6 D (.lst acc) := ⟨O2.r, g6, ⟨ws, e6, rD.same s26⟩, n6⟩
        have A7 := (O6.lost (o := .lst (ws ++ [y])) A6).wipe vs
        rw [w5] at A7
        refine ⟨ws, e6, by rw [rD.len]; exact hl, G6, _, acc ++ [u], same_trans s2 s26, A7, ⟨O2.r, g6, ⟨_, upd_same, Reps.append (.cons r6 .nil) (rD.same s26)⟩, fun j c' q => ?_⟩, w6⟩
        rcases wipeP_get _ q with q | q
        · cases q
        · exact n6 j c' q
      | false =>
        obtain ⟨A5, e5, g5, n5⟩ := B5.unhide O2.r
        have A7 := A5.wipe vs
        rw [w5] at A7
        refine ⟨G5, _, acc, same_trans s2 s25, A7, ⟨O2.r, g5, ⟨ws, e5, rD.same s25⟩, fun j c' q => ?_⟩, h5⟩
        rcases wipeP_get _ q with q | q
        · cases q
        · exact n5 j c' q
    · have ei : i = S.n := by omega
      subst ei
      exact .inl ⟨f2 (Nat.le_refl _), k D H2 G2 _ γ2 (same_trans s1 s2) A2.unwipe' ⟨O2.r, O2.g, O2.c, O2.n⟩ (hd acc γ2 w2 D)⟩, x⟩
end
end Pu

/-! Pu6: more built-in calls; what readings use -/
namespace Pu
open PySem PySem.Spec PyProof.Rows L2 Lay
section
variable {X : Cx} {Ex : WX} {e a b c tg : Expr} {es ts : List Expr} {st : Stmt} {p r : PX} {po : PXO} {pa : PXA} {q : PSp} {pos : PySem.Pos} {i : Nat} {n m f : Str}
theorem tupr_of {K : PySem.W.Frag} {G : Hp} {ad : Addr} {vs : List V} (h : ∀ H, SqT K H ad vs) : TupR K G ad vs := by
  rcases h (fun _ => none) with (h | ⟨o, h⟩) | h
  · cases h
  · cases h
  · exact .inr h
/-- tuple(x) -/
def rTupA (K : PySem.W.Frag) : List V → Hp → VK → Prop := fun xs H Q => (∃ p ys, xs = [.ref p] ∧ ((SqL K H p ys ∧ ∀ l, H l = none → Q (.ref l) (upd H l (.tup ys))) ∨ (SqT K H p ys ∧ Q (.ref p) H))) ∨ rTupB xs H Q
theorem call_tupA (hc : X.calm = true) : CallR X (.type "tuple") (rTupA X.K) := CallR.or call_tuple_of (call_tupB hc)
theorem cb_tup {K : PySem.W.Frag} : Cb K (rTupA K) tupleOf := fun {R G H σ γ vs xs Kp Q} A r q k => by
  unfold tupleOf at q
  split at q
  · cases r with | cons r1 r2 => cases r2; cases r1 with | lst g r =>
      refine .inl ⟨_, _, rfl, .inl ⟨SqL.of (A.gh _ _ g), fun l nl => ?_⟩⟩
      obtain ⟨A', s, g'⟩ := A.newG (o := .tup _) nl
      exact k _ _ _ _ s A' (.tup (.inl g') (r.same s)) q
  · cases r with | cons r1 r2 => cases r2; cases r1 with | tup g r => exact .inl ⟨_, _, rfl, .inr ⟨g.sq A.gh, k _ H G _ same_refl A (.tup g r) q⟩⟩
  · cases r with | cons r1 r2 =>
      cases r2
      cases r1
      refine .inr ⟨_, rfl, q.1, fun l nl => ?_⟩
      obtain ⟨A', s, g'⟩ := A.newG (o := .tup _) nl
      exact k _ _ _ _ s A' (.tup (.inl g') (Reps.of_ints _)) q.2
  · exact q.elim
/-- all(list of bools) -/
def allP (xs : List PV) (k : PV → Prop) : Prop := match xs with
  | [.lst ys] => ∃ bs : List Bool, ys = bs.map .bl ∧ k (.bl (bs.all id))
  | _ => False
def anyP (xs : List PV) (k : PV → Prop) : Prop := match xs with
  | [.lst ys] => ∃ bs : List Bool, ys = bs.map .bl ∧ k (.bl (bs.any id))
  | _ => False
theorem Reps.bls {K : PySem.W.Frag} {G : Hp} : ∀ {vs : List V} {bs : List Bool}, Reps K G vs (bs.map .bl) → vs = bs.map V.bl
  | _, [], .nil => rfl
  | _, m :: ms, .cons (.bl _) t => congrArg (V.bl m :: ·) (Reps.bls t)
theorem cb_all {K : PySem.W.Frag} : Cb K (rAll K) allP := fun {R G H σ γ vs xs Kp Q} A r q k => by
  unfold allP at q
  split at q
  · obtain ⟨bs, rfl, q⟩ := q
    cases r with | cons r1 r2 => cases r2; cases r1 with | lst g r => cases r.bls; exact ⟨_, bs, rfl, SqL.of (A.gh _ _ g), k _ H G _ same_refl A (.bl _) q⟩
  · exact q.elim
theorem cb_any {K : PySem.W.Frag} : Cb K (rAny K) anyP := fun {R G H σ γ vs xs Kp Q} A r q k => by
  unfold anyP at q
  split at q
  · obtain ⟨bs, rfl, q⟩ := q
    cases r with | cons r1 r2 => cases r2; cases r1 with | lst g r => cases r.bls; exact ⟨_, bs, rfl, SqL.of (A.gh _ _ g), k _ H G _ same_refl A (.bl _) q⟩
  · exact q.elim
/-- f(..).append(e) on a new list that is then lost -/
def sAppN (p : PXO) : PXS := fun D γ => p γ (fun _ c γ1 => match c with | .lst xs => xs.length < sizeLine ∧ D.nx γ1 | _ => False) D.ex
theorem js_appN {v : V} (h : PS X st (tDrop (tBM X.K "list" rAppend (tO X.K Ex po) (tCons (tC v) tNil)))) : JS X Ex st (sAppN po) := PS.imp h fun D σ H ⟨R, G, γ, P, A, h, E⟩ =>
  ⟨R, G, γ, _, _, A, h, fun a H' G' c γ' s A' O q => by
    try dsimp only at q
    split at q
    · obtain ⟨vs, e, r⟩ := O.c
      exact ⟨.inl ⟨rfl, vs, SqL.of e⟩, _, vs, _, rfl, rfl, e, by rw [r.len]; exact q.1, E.nx σ _ G' γ' s (O.lost A') q.2⟩
    · exact q.elim, E.ex σ⟩
/-! ### {}; dict([(k, x)])[k2], k, k2 bytes -/
def pDicN : PX := fun γ K _ => K (.dic []) γ
theorem pp_dic (h : PE X e tDNewK) : JV X Ex e pDicN := PE.imp h fun σ H Q ⟨R, G, γ, Kp, Ep, A, h, k, x⟩ => fun l nl => by
  obtain ⟨A', s, g⟩ := A.newG (o := .dK []) nl
  exact k _ _ _ _ γ s A' (.dic g .nil) h
/-- x + e as a new thing, x of one's own -/
def pAddN (i : Nat) (q : PX) : PXO := fun γ K E => pSlotO i (fun γ => q γ (fun y γ1 => match γ1[i]?, y with
  | some (.ow _ (.lst xs)), .lst ys => xs.length + ys.length ≤ sizeLine ∧ ∀ a, K a (.lst (xs ++ ys)) γ1
  | _, _ => False) E) γ
theorem po_addO {p2 : PX} (ha : PE X a (tVar i)) (hb : JV X Ex b p2) : JO X Ex (.BinOp a .Add b pos) (pAddN i p2) := PE.imp (pe_op op_cat ha hb) fun σ H Q ⟨R, G, γ, Kp, Ep, A, h, k, x⟩ => by
  obtain ⟨h, ad, ea⟩ := slot_at A h
  refine ⟨_, ea, R, G, γ, _, Ep, A, h, fun v H1 G1 y γ1 s1 A1 r1 h1 => ?_, x⟩
  try dsimp only at h1
  split at h1
  · rename_i a' xs ys e2
    obtain ⟨e4, vs, e5, r5⟩ := own_at ea A1 e2
    cases e4
    cases r1 with
    | lst g2 r2 =>
      refine ⟨_, _, vs, _, rfl, rfl, e5, A1.gh _ _ g2, by rw [r5.len, r2.len]; exact h1.1, fun l nl => ?_⟩
      obtain ⟨A', O⟩ := A1.newO (c := .lst (xs ++ ys)) nl ⟨_, upd_same, Reps.append r2 r5⟩
      exact k l _ G1 _ γ1 s1 A' O (h1.2 l)
  · exact h1.elim
/-- a + b as a new thing -/
def pAdd2 (p q : PX) : PXO := fun γ K E => p γ (fun x γ1 => q γ1 (fun y γ2 => match x, y with
  | .lst xs, .lst ys => xs.length + ys.length ≤ sizeLine ∧ ∀ a, K a (.lst (xs ++ ys)) γ2
  | _, _ => False) E) E
theorem po_add {p2 : PX} (ha : JV X Ex a p) (hb : JV X Ex b p2) : JO X Ex (.BinOp a .Add b pos) (pAdd2 p p2) := PE.imp (pe_op op_cat ha hb) fun σ H Q ⟨R, G, γ, Kp, Ep, A, h, k, x⟩ =>
  ⟨R, G, γ, _, Ep, A, h, fun v H1 G1 y γ1 s1 A1 r1 h1 => ⟨R, G1, γ1, _, Ep, A1, h1, fun w H2 G2 z γ2 s2 A2 r2 h2 => by
    try dsimp only at h2
    split at h2
    · cases r1 with | lst g1 r1 => cases r2 with | lst g2 r2 =>
        have r1' := r1.same s2
        refine ⟨_, _, _, _, rfl, rfl, A2.gh _ _ (s2 _ _ g1), A2.gh _ _ g2, by rw [r1.len, r2.len]; exact h2.1, fun l nl => ?_⟩
        obtain ⟨A', O⟩ := A2.newO (c := .lst _) nl ⟨_, upd_same, Reps.append r2 r1'⟩
        exact k l _ G2 _ γ2 (same_trans s1 s2) A' O (h2.2 l)
    · exact h2.elim, x.mono s1⟩, x⟩
def pDictB (pa : PXA) (q : PX) : PX := fun γ K E => pa γ (fun xs γ1 => match xs with
  | [.byt z, v] => q γ1 (fun y γ2 => match y with
    | .byt z2 => z2 = z ∧ K v γ2
    | _ => False) E
  | _ => False) E
theorem pp_dictB {p2 : PX} (h : PE X e (tOp (rIxB X.prog X.w) (tCB (rDictB X.prog X.w) (tCons (tLst (tCons (tTup (tA X.K Ex pa)) tNil)) tNil)) (tP X.K Ex p2))) : JV X Ex e (pDictB pa p2) := PE.imp h fun σ H Q ⟨R, G, γ, Kp, Ep, A, h, k, x⟩ =>
  ⟨R, G, γ, _, Ep, A, h, fun vs H1 G1 xs γ1 s1 A1 r1 h1 => by
    try dsimp only at h1
    split at h1
    · rename_i z y
      cases r1 with | cons r1 r2 => cases r2 with | cons r2 r3 =>
        cases r3
        cases r1
        refine ⟨by show 2 ≤ sizeLine; decide, fun t nt => ⟨by show 1 ≤ sizeLine; decide, fun l nl => ?_⟩⟩
        have A3 := (A1.newT (o := .tup [.byt z, _]) nt).newT (o := .lst [.ref t]) nl
        refine ⟨l, t, z, _, rfl, upd_same, up upd_same nl, fun d nd => ?_⟩
        obtain ⟨A4, s4, g4⟩ := A3.newG (o := dictB X.prog X.w z _ d) nd
        have s14 := same_trans s1 s4
        refine ⟨R, _, γ1, _, Ep, A4, h1, fun w H5 G5 y5 γ5 s5 A5 r5 h5 => ?_, x.mono s14⟩
        try dsimp only at h5
        split at h5
        · obtain ⟨rfl, h5⟩ := h5
          cases r5
          exact ⟨d, _, _, rfl, rfl, A5.gh _ _ (s5 _ _ g4), k _ H5 G5 _ γ5 (same_trans s14 s5) A5 ((r2.same s4).same s5) h5⟩
        · exact h5.elim
    · exact h1.elim, x⟩
end
/-! ### words for readings -/
theorem bl_ite {c : Prop} [Decidable c] {A B : Prop} (h1 : c → A) (h2 : ¬ c → B) : if decide c = true then A else B := ite_b h1 h2
theorem mulA {i j : Int} (h0 : -(2 ^ 64) < i) (h1 : i < 2 ^ 64) : CMul i j ∨ CMulW i j := .inl (.inl ⟨h0, h1⟩)
theorem mulB {i j : Int} (h0 : -(2 ^ 64) < j) (h1 : j < 2 ^ 64) : CMul i j ∨ CMulW i j := .inl (.inr ⟨h0, h1⟩)
theorem divA {i j : Int} (h0 : 0 < j) (h1 : j < 2 ^ 200) : CDivW i j := by
  refine ⟨h0, ?_⟩
  have h2 : j.natAbs < 2 ^ 200 := by omega
  have h3 : j.natAbs ≠ 0 := by omega
  have := (Nat.log2_lt h3).mpr h2
  omega
theorem get_mem' {α : Type} {xs : List α} {i : Nat} {x : α} (h : xs[i]? = some x) : x ∈ xs := List.mem_of_getElem? h
theorem atI_nat {α : Type} {xs : List α} {i : Nat} {x : α} (h : xs[i]? = some x) : atI xs (i : Int) = some x := by
  have hl : i < xs.length := (List.getElem?_eq_some_iff.mp h).1
  unfold atI ixN
  rw [if_pos (by omega), if_pos (by omega)]
  show xs[(i : Int).toNat]? = some x
  rw [Int.toNat_natCast]
  exact h
theorem atI_in {α : Type} {xs : List α} {i : Int} (h0 : 0 ≤ i) (h1 : i < xs.length) : ∃ x, atI xs i = some x ∧ x ∈ xs := by
  obtain ⟨k, rfl⟩ : ∃ k : Nat, i = (k : Int) := ⟨i.toNat, by omega⟩
  have hk : k < xs.length := by omega
  exact ⟨xs[k], atI_nat (List.getElem?_eq_getElem hk), List.getElem_mem hk⟩
theorem ixN_last {n : Nat} (h : 0 < n) : ixN n (-1) = some (n - 1) := by
  unfold ixN
  rw [if_neg (by decide), if_pos (by omega)]
  congr 1
  omega
theorem atI_snoc {α : Type} (xs : List α) (a : α) : atI (xs ++ [a]) (-1) = some a := by
  unfold atI
  rw [ixN_last (by simp)]
  simp
theorem set_snoc {α : Type} : ∀ (xs : List α) (a b : α), (xs ++ [a]).set xs.length b = xs ++ [b]
  | [], _, _ => rfl
  | x :: xs, a, b => congrArg (x :: ·) (set_snoc xs a b)
theorem ixN_snoc {α : Type} (xs : List α) (a : α) : ixN (xs ++ [a]).length (-1) = some xs.length := by
  rw [ixN_last (by simp)]
  simp
/-- a list of integers as a value -/
abbrev pints (ns : List Int) : PV := .lst (ns.map .int)
theorem pints_app (xs ys : List Int) : (xs.map PV.int ++ ys.map PV.int) = (xs ++ ys).map PV.int := (List.map_append ..).symm
theorem pints_snoc (xs : List Int) (y : Int) : (xs.map PV.int ++ [PV.int y]) = (xs ++ [y]).map PV.int := by
  rw [List.map_append]; rfl
theorem ite_b' {A B : Prop} (c : Bool) (h1 : c = true → A) (h2 : c = false → B) : if c = true then A else B := by
  cases c with
  | true => exact iteT (h1 rfl)
  | false => exact iteF (h2 rfl)
theorem itT {A B : Prop} {c : Bool} (h : A) (hc : c = true := by rfl) : if c = true then A else B := by
  rw [if_pos hc]; exact h
theorem itF {A B : Prop} {c : Bool} (h : B) (hc : c = false := by rfl) : if c = true then A else B := by
  rw [if_neg (by rw [hc]; decide)]; exact h
theorem ite_n' {A B : Prop} (c : Bool) (h1 : c = true → B) (h2 : c = false → A) : if (!c) = true then A else B := by
  cases c with
  | true => exact iteF (h1 rfl)
  | false => exact iteT (h2 rfl)
end Pu

/-! Pu7: == of plain values; slices of bytes -/
namespace Pu
open PySem PySem.Spec PyProof.Rows L2 Lay
/-- plain values (None, ints, texts, lists and tuples of such), at most n deep -/
inductive Pl : Nat → PV → Prop
  | non (n : Nat) : Pl n .non
  | int (n : Nat) (i : Int) : Pl n (.int i)
  | str (n : Nat) (x : Str) (h : PyData.canLay0 (.str x) = true) : Pl n (.str x)
  | lst (n : Nat) (xs : List PV) (h : ∀ x ∈ xs, Pl n x) : Pl (n + 1) (.lst xs)
  | tup (n : Nat) (xs : List PV) (h : ∀ x ∈ xs, Pl n x) : Pl (n + 1) (.tup xs)
theorem dats_of {n : Nat} : ∀ {xs : List PV}, (∀ x ∈ xs, ∃ d, x.dat = some d ∧ PyData.canLay0 d = true ∧ PyData.depth d ≤ n) → ∃ ds, PV.dats xs = some ds ∧ PyData.canLayAll0 ds = true ∧ PyData.depthAll ds ≤ n
  | [], _ => ⟨[], rfl, rfl, Nat.zero_le _⟩
  | x :: xs, h => by
    obtain ⟨d, h1, h2, h3⟩ := h x (List.mem_cons_self ..)
    obtain ⟨ds, g1, g2, g3⟩ := dats_of fun y hy => h y (List.mem_cons_of_mem _ hy)
    refine ⟨d :: ds, by rw [PV.dats, h1, g1], ?_, ?_⟩
    · show (PyData.canLay0 d && PyData.canLayAll0 ds) = true
      rw [h2, g2]; rfl
    · show max (PyData.depth d) (PyData.depthAll ds) ≤ n
      omega
theorem Pl.dat {n : Nat} {x : PV} (h : Pl n x) : ∃ d, x.dat = some d ∧ PyData.canLay0 d = true ∧ PyData.depth d ≤ n := by
  induction h with
  | non n => exact ⟨_, rfl, rfl, Nat.zero_le _⟩
  | int n i => exact ⟨_, rfl, rfl, Nat.zero_le _⟩
  | str n x h => exact ⟨_, rfl, h, Nat.zero_le _⟩
  | lst n xs h ih =>
    obtain ⟨ds, g1, g2, g3⟩ := dats_of ih
    exact ⟨.list ds, by rw [PV.dat, g1]; rfl, g2, Nat.succ_le_succ g3⟩
  | tup n xs h ih =>
    obtain ⟨ds, g1, g2, g3⟩ := dats_of ih
    exact ⟨.tuple ds, by rw [PV.dat, g1]; rfl, g2, Nat.succ_le_succ g3⟩
theorem dats_eq : ∀ {xs ys : List PV} {ds es : List PyData}, (∀ x ∈ xs, ∀ y d e, (∃ m, Pl m y) → x.dat = some d → y.dat = some e → (PyData.eqv d e = true ↔ x = y)) → (∀ y ∈ ys, ∃ m, Pl m y) → PV.dats xs = some ds → PV.dats ys = some es → (PyData.eqvAll ds es = true ↔ xs = ys)
  | [], [], ds, es, _, _, h1, h2 => by
    cases h1; cases h2
    simp [PyData.eqvAll]
  | [], y :: ys, ds, es, _, _, h1, h2 => by
    cases h1
    rw [PV.dats] at h2
    split at h2
    · cases h2; simp [PyData.eqvAll]
    · cases h2
  | x :: xs, [], ds, es, _, _, h1, h2 => by
    cases h2
    rw [PV.dats] at h1
    split at h1
    · cases h1; simp [PyData.eqvAll]
    · cases h1
  | x :: xs, y :: ys, ds, es, h, hy, h1, h2 => by
    rw [PV.dats] at h1 h2
    split at h1
    · rename_i d ds' a1 a2
      cases h1
      split at h2
      · rename_i e es' b1 b2
        cases h2
        have k1 := h x (List.mem_cons_self ..) y d e (hy y (List.mem_cons_self ..)) a1 b1
        have k2 := dats_eq (fun z hz => h z (List.mem_cons_of_mem _ hz)) (fun z hz => hy z (List.mem_cons_of_mem _ hz)) a2 b2
        rw [PyData.eqvAll, Bool.and_eq_true, k1, k2]
        constructor
        · rintro ⟨rfl, rfl⟩; rfl
        · intro z; cases z; exact ⟨rfl, rfl⟩
      · cases h2
    · cases h1
theorem Pl.eqv {n : Nat} {x : PV} (h : Pl n x) : ∀ y d e, (∃ m, Pl m y) → x.dat = some d → y.dat = some e → (PyData.eqv d e = true ↔ x = y) := by
  induction h with
  | non n =>
    rintro y d e ⟨m, hy⟩ hd he
    cases hd
    cases hy <;> first
      | (cases he; simp [PyData.eqv]; done)
      | (rw [PV.dat, Option.map_eq_some_iff] at he; obtain ⟨ds, _, rfl⟩ := he; simp [PyData.eqv])
  | int n i =>
    rintro y d e ⟨m, hy⟩ hd he
    cases hd
    cases hy <;> first
      | (cases he; simp [PyData.eqv]; done)
      | (rw [PV.dat, Option.map_eq_some_iff] at he; obtain ⟨ds, _, rfl⟩ := he; simp [PyData.eqv])
  | str n s hs =>
    rintro y d e ⟨m, hy⟩ hd he
    cases hd
    cases hy <;> first
      | (cases he; simp [PyData.eqv]; done)
      | (rw [PV.dat, Option.map_eq_some_iff] at he; obtain ⟨ds, _, rfl⟩ := he; simp [PyData.eqv])
  | lst n xs h ih =>
    rintro y d e ⟨m, hy⟩ hd he
    rw [PV.dat, Option.map_eq_some_iff] at hd
    obtain ⟨ds, hd, rfl⟩ := hd
    cases hy with
    | lst m ys h2 =>
      rw [PV.dat, Option.map_eq_some_iff] at he
      obtain ⟨es, he, rfl⟩ := he
      have := dats_eq ih (fun y hy => ⟨_, h2 y hy⟩) hd he
      rw [PyData.eqv, this]
      simp
    | tup m ys h2 =>
      rw [PV.dat, Option.map_eq_some_iff] at he
      obtain ⟨es, he, rfl⟩ := he
      simp [PyData.eqv]
    | _ => cases he; simp [PyData.eqv]
  | tup n xs h ih =>
    rintro y d e ⟨m, hy⟩ hd he
    rw [PV.dat, Option.map_eq_some_iff] at hd
    obtain ⟨ds, hd, rfl⟩ := hd
    cases hy with
    | tup m ys h2 =>
      rw [PV.dat, Option.map_eq_some_iff] at he
      obtain ⟨es, he, rfl⟩ := he
      have := dats_eq ih (fun y hy => ⟨_, h2 y hy⟩) hd he
      rw [PyData.eqv, this]
      simp
    | lst m ys h2 =>
      rw [PV.dat, Option.map_eq_some_iff] at he
      obtain ⟨es, he, rfl⟩ := he
      simp [PyData.eqv]
    | _ => cases he; simp [PyData.eqv]
theorem Pl.shaped {n : Nat} {x : PV} {d : PyData} (h : Pl n x) (hn : n ≤ 64) (e : x.dat = some d) : SeqAt.shaped d = true := by
  obtain ⟨d', e', h1, h2⟩ := h.dat
  rw [e] at e'
  cases e'
  unfold SeqAt.shaped
  rw [h1, decide_eq_true (Nat.le_trans h2 hn)]
  rfl
theorem eqS_pl {n m : Nat} {x y : PV} (hx : Pl n x) (hy : Pl m y) {b : Bool} (e : eqS x y = some b) : b = true ↔ x = y := by
  cases hx <;> cases hy <;> (simp [eqS] at e; try (subst e; simp))
theorem eqP_pl {n m : Nat} {x y : PV} {k : PV → Prop} (hx : Pl n x) (hy : Pl m y) (hn : n ≤ 64) (hm : m ≤ 64) (h1 : x = y → k (.bl true)) (h2 : x ≠ y → k (.bl false)) : eqP x y k := by
  unfold eqP
  split
  · rename_i b e
    have := eqS_pl hx hy e
    cases b with
    | true => exact h1 (this.mp rfl)
    | false => exact h2 fun z => by simpa using this.mpr z
  · obtain ⟨d, hd, _⟩ := hx.dat
    obtain ⟨e, he, _⟩ := hy.dat
    have := hx.eqv y d e ⟨m, hy⟩ hd he
    have key : k (.bl (PyData.eqv d e)) := by
      cases hq : PyData.eqv d e with
      | true => exact h1 (this.mp hq)
      | false => exact h2 fun z => by rw [this.mpr z] at hq; cases hq
    split
    · cases hx
    · exact ⟨d, e, hd, he, hx.shaped hn hd, hy.shaped hm he, key⟩
theorem neP_pl {n m : Nat} {x y : PV} {k : PV → Prop} (hx : Pl n x) (hy : Pl m y) (hn : n ≤ 64) (hm : m ≤ 64) (h1 : x = y → k (.bl false)) (h2 : x ≠ y → k (.bl true)) : neP x y k := by
  unfold neP
  split
  · rename_i b e
    have := eqS_pl hx hy e
    cases b with
    | true => exact h1 (this.mp rfl)
    | false => exact h2 fun z => by simpa using this.mpr z
  · obtain ⟨d, hd, _⟩ := hx.dat
    obtain ⟨e, he, _⟩ := hy.dat
    have := hx.eqv y d e ⟨m, hy⟩ hd he
    refine ⟨d, e, hd, he, hx.shaped hn hd, hy.shaped hm he, ?_⟩
    cases hq : PyData.eqv d e with
    | true => exact h1 (this.mp hq)
    | false => exact h2 fun z => by rw [this.mpr z] at hq; cases hq
/-- x == x, x != x -/
theorem eqP_same {n : Nat} {x : PV} {k : PV → Prop} (hx : Pl n x) (hn : n ≤ 64) (h : k (.bl true)) : eqP x x k := eqP_pl hx hx hn hn (fun _ => h) fun z => absurd rfl z
theorem neP_same {n : Nat} {x : PV} {k : PV → Prop} (hx : Pl n x) (hn : n ≤ 64) (h : k (.bl false)) : neP x x k := neP_pl hx hx hn hn (fun _ => h) fun z => absurd rfl z
theorem Pl.map {α : Type} {n : Nat} {f : α → PV} (xs : List α) (h : ∀ x, Pl n (f x)) : Pl (n + 1) (.lst (xs.map f)) := .lst n _ fun y hy => by
  obtain ⟨x, _, rfl⟩ := List.mem_map.mp hy
  exact h x
theorem Pl.pints (ns : List Int) : Pl 1 (pints ns) := Pl.map ns fun i => .int 0 i
/-- b[:1] + b[1:] -/
theorem picked_cut (b : Array UInt8) : PySem.W.KBy.picked b none (some 1) ++ PySem.W.KBy.picked b (some 1) none = b := by
  obtain ⟨l⟩ := b
  cases l with
  | nil => rfl
  | cons x l =>
    have h1 := pk_to (l := x :: l) (j := 1) (by simp)
    have h2 := pk_from (l := x :: l) (i := 1) (by simp)
    have h1 : PySem.W.KBy.picked (x :: l).toArray none (some 1) = [x].toArray := h1
    have h2 : PySem.W.KBy.picked (x :: l).toArray (some 1) none = l.toArray := h2
    show PySem.W.KBy.picked (x :: l).toArray none (some 1) ++ PySem.W.KBy.picked (x :: l).toArray (some 1) none = _
    rw [h1, h2]
    simp
theorem byteArr_bi {ns : List Int} (h : ∀ n ∈ ns, 0 ≤ n ∧ n < 256) : bi (byteArr ns) = ns := by
  have e : bi (byteArr ns) = ((byteArr ns).toList).map fun c : UInt8 => ((c.toNat : Nat) : Int) := rfl
  rw [e]
  unfold byteArr
  rw [List.toList_toArray, List.map_map]
  refine (List.map_congr_left fun n hn => ?_).trans (List.map_id ns)
  exact PySem.W.byte_back (h n hn).1 (h n hn).2
end Pu

/-! Pu8: try .. except E as e, in one rule -/
namespace Pu
open PySem PySem.Spec PyProof.Rows L2 Lay
theorem js_tryA {X : Cx} {Ex : WX} {c n : Str} {i : Nat} {s : PXS} {ts : Addr → Value → Option Addr → PXS} {body : List Stmt} {b₀ : Stmt} {suite : List Stmt} {x : Str} {np pos' pos : PySem.Pos}
    (hs : X.stack = X.env :: X.outer) (hf : X.env.frame = some X.env.locals) (hN : X.N.Nodup) (hi : X.N[i]? = some n) (hln : X.env.kindOf n = some .local) (hc : Names X x (.ref (He.ga X.K c))) (tk : Takes X Ex)
    (hb : ∀ (W : WX) (pn : List (Addr × Obj)) (xe : Value → Shared → Prop), Takes (X.tr pn xe) W → PassesOwn (model X.prog X.w) X.A X.env xe → JSs (X.tr pn xe) W body s)
    (hsu : ∀ (a : Addr) (oe : Obj) (cls : Value) (d : Option Addr) (pn : List (Addr × Obj)), Zc cls d oe → (∃ vs, oe.data = .fields vs) → JSs (X.suite a ((a, oe) :: pn)) (fun _ _ _ _ => False) (b₀ :: suite) (ts a cls d)) :
    JS X Ex (.Try body [.ExceptHandler (some (.Name x np)) (some n) (b₀ :: suite) pos'] [] [] pos) (sTry X.K c i s ts) := js_try (ps_try_as (tb := fun W => tS X.K W s) (ts := fun a cls d => tS X.K (fun _ _ _ _ => False) (ts a cls d)) hs hf hN hi hln hc tk hb hsu)
theorem pp_xfA {X : Cx} {Ex : WX} {a : Addr} {oe : Obj} {cls : Value} {d : Option Addr} {pn : List (Addr × Obj)} {e : Expr} {p : PX} {pos : PySem.Pos} {n c : Str} (T : XfC X.K (He.ga X.K c)) (hno : PySem.W.findIn X.K (.ref (He.ga X.K c)) n = some none)
    (hz : Zc cls d oe) (hf : ∃ vs, oe.data = .fields vs) (he : JV (X.suite a ((a, oe) :: pn)) Ex e p) (hb : attributeBase e n X.env (eval e X.env) = eval e X.env := by rfl) :
    JV (X.suite a ((a, oe) :: pn)) Ex (.Attribute e n pos) (pXf a cls d c n X.K p) := pp_xf (X := X.suite a ((a, oe) :: pn)) (pe_xf (te := tP X.K Ex p) T hno hz hf he hb)
theorem body_of0 {K : PySem.W.Frag} {q : PSp} {E : XK} {N : List Str} {vs : List V} {H : Hp} {Q : VK} {s : PXS} (h : spOf K q vs H Q E) (hs : ∀ γ Kp Ko Ep, q γ Kp Ko Ep → s (endsP γ Kp Ko fun _ _ _ => False) (γ ++ List.replicate (N.length - γ.length) .no)) :
    tS K (fun _ _ _ _ => False) s { nx := fun _ H' => Q .non H', rt := Q } (L2.start N vs) H := by
  have h2 : spOf K (fun γ Kp Ko Ep => Ep = (fun _ _ _ => False) ∧ ∃ Ep', q γ Kp Ko Ep') vs H Q (fun _ _ _ => False) := by
    obtain ⟨R, G, γ, Kp, Ko, Ep, A, hq, k, ko, x⟩ := h
    exact ⟨R, G, γ, Kp, Ko, fun _ _ _ => False, A, ⟨rfl, Ep, hq⟩, k, ko, fun _ _ _ _ _ _ _ _ _ _ _ _ q => q.elim⟩
  exact body_of h2 fun γ Kp Ko Ep ⟨e, Ep', hq⟩ => by
    subst e
    exact hs γ Kp Ko Ep' hq
/-- the law's promise: it answers True for every script -/
def q_law : PSp := fun γ K _ _ => ∃ (ns : List Int), γ = [.sh (.ro (ns.map .int))] ∧ ns.length ≤ 63 ∧ K (.bl true) γ
def sp_lawP (K : PySem.W.Frag) : Sp := fun vs H Q _ => ∃ (a : Addr) (ns : List Int), vs = [.ref a] ∧ SqL K H a (ns.map V.int) ∧ ns.length ≤ 63 ∧ ∀ H', Q (.bl true) H'
theorem reps_ints (K : PySem.W.Frag) (G : Hp) : ∀ ns : List Int, Reps K G (ns.map V.int) (ns.map PV.int)
  | [] => .nil
  | n :: ns => .cons (.int n) (reps_ints K G ns)
theorem spOf_law {K : PySem.W.Frag} {vs : List V} {H : Hp} {Q : VK} {E : XK} (h : sp_lawP K vs H Q E) : spOf K q_law vs H Q E := by
  obtain ⟨a, ns, rfl, hS, hl, k⟩ := h
  refine ⟨fun _ => none, H, [.sh (.ro (ns.map .int))], fun x _ => x = .bl true, fun _ _ _ => False, fun _ _ _ => False, ⟨(fun _ _ z => nomatch z), (fun _ _ z => nomatch z), same_refl, rfl, fun i g e => ?_, fun i j b c c' e _ => ?_⟩, ⟨ns, rfl, hl, rfl⟩, fun v H' G' x γ' _ _ r e => ?_, fun _ _ _ _ _ _ _ _ z => z.elim, fun _ _ _ _ _ _ _ _ _ _ _ _ q => q.elim⟩
  · cases i with
    | zero =>
      cases e
      exact ⟨_, rfl, _, rfl, .ro hS (reps_ints K H ns)⟩
    | succ i => cases e
  · cases i with
    | zero => cases e
    | succ i => cases e
  · subst e
    cases r
    exact k H'
end Pu

/-! Pu9: == and != sealed: where the values are long, a reading closes them by a lemma, not by reduction -/
namespace Pu
open PySem PySem.Spec PyProof.Rows L2 Lay
@[irreducible] def eqQ (x y : PV) (k : PV → Prop) : Prop := eqP x y k
@[irreducible] def neQ (x y : PV) (k : PV → Prop) : Prop := neP x y k
theorem eqQ_of {x y : PV} {k : PV → Prop} (h : eqP x y k) : eqQ x y k := by
  unfold eqQ
  exact h
theorem neQ_of {x y : PV} {k : PV → Prop} (h : neP x y k) : neQ x y k := by
  unfold neQ
  exact h
theorem bin_eqQ {K : PySem.W.Frag} : Bin K (rEqA K) eqQ := fun {R G H σ γ v w x y Kp Q} A rx ry q k => by
  unfold eqQ at q
  exact bin_eq A rx ry q k
theorem bin_neQ {K : PySem.W.Frag} : Bin K (fun x y H Q => rNe x y H Q ∨ rNeD K x y H Q) neQ := fun {R G H σ γ v w x y Kp Q} A rx ry q k => by
  unfold neQ at q
  exact bin_ne A rx ry q k
theorem eqQ_pl {n m : Nat} {x y : PV} {k : PV → Prop} (hx : Pl n x) (hy : Pl m y) (hn : n ≤ 64) (hm : m ≤ 64) (h1 : x = y → k (.bl true)) (h2 : x ≠ y → k (.bl false)) : eqQ x y k := eqQ_of (eqP_pl hx hy hn hm h1 h2)
theorem neQ_pl {n m : Nat} {x y : PV} {k : PV → Prop} (hx : Pl n x) (hy : Pl m y) (hn : n ≤ 64) (hm : m ≤ 64) (h1 : x = y → k (.bl false)) (h2 : x ≠ y → k (.bl true)) : neQ x y k := neQ_of (neP_pl hx hy hn hm h1 h2)
theorem eqQ_same {n : Nat} {x : PV} {k : PV → Prop} (hx : Pl n x) (hn : n ≤ 64) (h : k (.bl true)) : eqQ x x k := eqQ_of (eqP_same hx hn h)
theorem neQ_same {n : Nat} {x : PV} {k : PV → Prop} (hx : Pl n x) (hn : n ≤ 64) (h : k (.bl false)) : neQ x x k := neQ_of (neP_same hx hn h)
end Pu

/-! Pu10: name = [e for x in xs if t] (a rule of its own: the name is stored within) -/
namespace Pu
open PySem PySem.Spec PyProof.Rows L2 Lay
theorem lc_imp {K : PySem.W.Frag} {Ex : WX} {vs : List Nat} {pi : PXI} {pg : PXG} {pb : PXB} {p : PX} : ∀ σ H Q, tO K Ex (pLc vs pi pg pb p) σ H Q → tLc (tI K Ex pi) (tGv K vs pg) (tT K (fun _ _ _ _ => False) pb) (tP K (fun _ _ _ _ => False) p) vs σ H Q := fun σ H Q ⟨R, G, γ, Kp, Ep, A, h, k, x⟩ =>
  ⟨R, G, γ, _, Ep, A, h, fun J H1 G1 S γ1 s1 A1 F ⟨W, w0, hW, hd⟩ D nD => by
    have A1' := A1.newO (o := .lst []) (c := .lst []) nD ⟨[], upd_same, .nil⟩
    -- the list so far is kept apart from all slots
    have Aw : At K R G1 (upd H1 D (.lst [])) (L2.wipe σ vs) (wipeP γ1 vs) := A1'.1.wipe vs
    have Ow : OwnR K R G1 (upd H1 D (.lst [])) (wipeP γ1 vs) D (.lst []) := ⟨A1'.2.r, A1'.2.g, A1'.2.c, fun j c' q => by
      rcases wipeP_get _ q with z | q
      · cases z
      · exact A1'.2.n j c' q⟩
    refine ⟨fun i m H => m + i = S.n ∧ ∃ G2 γ2 acc, Same G1 G2 ∧ At K R G2 H (L2.wipe σ vs) γ2 ∧ OwnR K R G2 H γ2 D (.lst acc) ∧ W i acc γ2, ⟨S.n, by omega, G1, _, [], same_refl, Aw, Ow, w0⟩, fun i m H2 ⟨e, G2, γ2, acc, s2, A2, O2, w2⟩ => ?_⟩
    obtain ⟨ws, eD, rD⟩ := O2.c
    have B2 := A2.hide O2 eD
    obtain ⟨f1, f2⟩ := F i _ H2 G2 _ γ2 s2 B2
    by_cases hi : i < S.n
    · obtain ⟨hgo, hy⟩ := f1 hi
      refine .inr ⟨hgo, fun H => ∃ G2 γ2 acc, Same G1 G2 ∧ At K R G2 H (L2.wipe σ vs) γ2 ∧ OwnR K R G2 H γ2 D (.lst acc) ∧ W (i + 1) acc γ2, fun H' q => ⟨m - 1, by omega, by omega, q⟩, fun v H3 y3 => ?_⟩
      obtain ⟨z, G3, hz, s3, B3, r3⟩ := hy v H3 y3
      refine ⟨_, G3, γ2, z, _, B3, r3, hW i z acc γ2 hi hz w2, fun σ4 H4 G4 γ4 s4 B4 l4 w4 h4 => ⟨w4.trans (wipe_wipe σ vs), ?_⟩⟩
      have s24 := same_trans s3 s4
      refine ⟨_, G4, γ4, _, noE, B4, h4, fun b H5 G5 γ5 s5 B5 h5 => ?_, fun c d us fs H' G' γ' s A e n r q => q.elim⟩
      have s25 := same_trans s24 s5
      have w5 : L2.wipe σ4 vs = L2.wipe σ vs := w4.trans (wipe_wipe σ vs)
      cases b with
      | true =>
        refine ⟨_, G5, γ5, _, noE, B5, h5, fun y H6 G6 u γ6 s6 B6 r6 ⟨hl, w6⟩ => ?_, fun c d us fs H' G' γ' s A e n r q => q.elim⟩
        obtain ⟨A6, e6, g6, n6⟩ := B6.unhide O2.r
        have s26 := same_trans s25 s6
        have O6 : OwnR K R G6 H6 γ6 D (.lst acc) := ⟨O2.r, g6, ⟨ws, e6, rD.same s26⟩, n6⟩
        have A7 := (O6.lost (o := .lst (ws ++ [y])) A6).wipe vs
        rw [w5] at A7
        refine ⟨ws, e6, by rw [rD.len]; exact hl, G6, _, acc ++ [u], same_trans s2 s26, A7, ⟨O2.r, g6, ⟨_, upd_same, Reps.append (.cons r6 .nil) (rD.same s26)⟩, fun j c' q => ?_⟩, w6⟩
        rcases wipeP_get _ q with q | q
        · cases q
        · exact n6 j c' q
      | false =>
        obtain ⟨A5, e5, g5, n5⟩ := B5.unhide O2.r
        have A7 := A5.wipe vs
        rw [w5] at A7
        refine ⟨G5, _, acc, same_trans s2 s25, A7, ⟨O2.r, g5, ⟨ws, e5, rD.same s25⟩, fun j c' q => ?_⟩, h5⟩
        rcases wipeP_get _ q with q | q
        · cases q
        · exact n5 j c' q
    · have ei : i = S.n := by omega
      subst ei
      exact .inl ⟨f2 (Nat.le_refl _), k D H2 G2 _ γ2 (same_trans s1 s2) A2.unwipe' ⟨O2.r, O2.g, O2.c, O2.n⟩ (hd acc γ2 w2 D)⟩, x⟩
theorem sh_imp {K : PySem.W.Frag} {Ex : WX} {p : PXO} : ∀ σ H Q, tP K Ex (pSh p) σ H Q → tO K Ex p σ H Q := fun σ H Q ⟨R, G, γ, Kp, Ep, A, h, k, x⟩ =>
  ⟨R, G, γ, _, Ep, A, h, fun a H' G' c γ' s A' O q => by
    obtain ⟨G2, s2, A2, r⟩ := O.freeze A'
    exact k _ H' G2 _ γ' (same_trans s s2) A2 r q, x⟩
theorem js_setLcO {X : Cx} {Ex : WX} {i : Nat} {y : Str} {py : PySem.Pos} {elt tg iter : Expr} {ifs : List Expr} {scope : Scope} {own : List (Str × Nat)} {pos spos : PySem.Pos} {pi : PXI} {g : PXG} {tt : PXB} {te : PX} (hc : X.calm = true) (hN : X.N.Nodup) (hy : X.N[i]? = some y) (hyl : X.env.scope.names.lookup y = some .local)
    (hsw : swapsWith (.ListComp elt [⟨tg, iter, ifs, 0⟩] scope pos) (some (.Name y py)) spos.line X.env = pure true) (hi : L2.PI X tg iter (tI X.K Ex pi)) (ok : BlkOk X.N X.env.scope scope own)
    (hg : ∀ (s : Shared) (H : Hp) (C : Addr) (cl : List (Str × Addr)) (fp : List Addr), PG (X.blk s H scope (compEnvC scope cl C X.env) fp) tg (tGv X.K (own.map (·.2)) g)) (ht : ∀ (s : Shared) (H : Hp) (C : Addr) (cl : List (Str × Addr)) (fp : List Addr), PTs (X.blk s H scope (compEnvC scope cl C X.env) fp) ifs (tT X.K (fun _ _ _ _ => False) tt))
    (he : ∀ (s : Shared) (H : Hp) (C : Addr) (cl : List (Str × Addr)) (fp : List Addr), PE (X.blk s H scope (compEnvC scope cl C X.env) fp) elt (tP X.K (fun _ _ _ _ => False) te)) (hs : ∀ x, foldedSetIterable iter X.env x = pure x := by intro _; rfl) :
    JS X Ex (.Assign [.Name y py] (.ListComp elt [⟨tg, iter, ifs, 0⟩] scope pos) spos) (sSetO i (pLc (own.map (·.2)) pi g tt te)) :=
  js_setO (PS.imp (ps_setLc hc hN hy hyl hsw hi ok hg ht he hs) fun D σ H h => lc_imp σ H _ h)
theorem js_setLc {X : Cx} {Ex : WX} {i : Nat} {y : Str} {py : PySem.Pos} {elt tg iter : Expr} {ifs : List Expr} {scope : Scope} {own : List (Str × Nat)} {pos spos : PySem.Pos} {pi : PXI} {g : PXG} {tt : PXB} {te : PX} (hc : X.calm = true) (hN : X.N.Nodup) (hy : X.N[i]? = some y) (hyl : X.env.scope.names.lookup y = some .local)
    (hsw : swapsWith (.ListComp elt [⟨tg, iter, ifs, 0⟩] scope pos) (some (.Name y py)) spos.line X.env = pure true) (hi : L2.PI X tg iter (tI X.K Ex pi)) (ok : BlkOk X.N X.env.scope scope own)
    (hg : ∀ (s : Shared) (H : Hp) (C : Addr) (cl : List (Str × Addr)) (fp : List Addr), PG (X.blk s H scope (compEnvC scope cl C X.env) fp) tg (tGv X.K (own.map (·.2)) g)) (ht : ∀ (s : Shared) (H : Hp) (C : Addr) (cl : List (Str × Addr)) (fp : List Addr), PTs (X.blk s H scope (compEnvC scope cl C X.env) fp) ifs (tT X.K (fun _ _ _ _ => False) tt))
    (he : ∀ (s : Shared) (H : Hp) (C : Addr) (cl : List (Str × Addr)) (fp : List Addr), PE (X.blk s H scope (compEnvC scope cl C X.env) fp) elt (tP X.K (fun _ _ _ _ => False) te)) (hs : ∀ x, foldedSetIterable iter X.env x = pure x := by intro _; rfl) :
    JS X Ex (.Assign [.Name y py] (.ListComp elt [⟨tg, iter, ifs, 0⟩] scope pos) spos) (sSet i (pSh (pLc (own.map (·.2)) pi g tt te))) :=
  js_set (PS.imp (ps_setLc hc hN hy hyl hsw hi ok hg ht he hs) fun D σ H h => lc_imp σ H _ (sh_imp σ H _ h))
end Pu

/-! Pu11: a method of bytes called; b"".join(list of bytes) -/
namespace Pu
open PySem PySem.Spec PyProof.Rows L2 Lay
section
variable {X : Cx} {Ex : WX} {o e : Expr} {es : List Expr} {to : TE} {t : TA} {name : Str} {apos cpos : PySem.Pos} {id : String} {r : V → List V → Hp → VK → Prop} {p : PX}
def tBMY (r : V → List V → Hp → VK → Prop) (to : TE) (t : TA) : TE := fun σ H Q => to σ H fun x H1 => ∃ z, x = .byt z ∧ t σ H1 fun xs H2 => r x xs H2 Q
theorem pe_bmY (slot : PySem.Slot "bytes" name id) (hty : typeOf (.builtin id) = pure (.type "method_descriptor")) (hm : MtR X id r) (ho : PE X o to) (ha : PA X (e :: es) t)
    (hbase : attributeBase o name X.env (eval o X.env) = eval o X.env := by rfl)
    (hfew : ((backTo cpos (starEach (e :: es) X.env)).all (fun x => !x.1) && (backToKw cpos (keywordEach [] X.env)).all (fun x => x.1.isSome)
      && decide ((e :: es).length + ([] : List Keyword).length + (if ([] : List Keyword).isEmpty then 0 else 1) < 30)) = true := by rfl)
    (hline : (apos.endLine == cpos.line) = true := by rfl) (hs : starEach (e :: es) X.env = (false, eval e X.env) :: starEach es X.env := by rfl) (hplain : (backTo cpos (starEach es X.env)).any (·.1) = false := by rfl) :
    PE X (.Call (.Attribute o name apos) (e :: es) [] cpos) (tBMY r to t) := by
  refine ⟨fun pins s σ H Q I h => ?_⟩
  refine wpAny_Call_method_late hbase hfew hline rfl (thn (ho.run pins s σ H _ I h) fun v s1 ⟨x, H1, I1, r1, z, ez, q1⟩ => ?_)
  subst ez
  obtain ⟨tk, rfl⟩ := (show ∃ tk, v = Value.bytes z tk from r1)
  refine ⟨"bytes", id, PySem.W.FB.plainAttrs_bytes, slot, hty, rfl, (fun a ea => by cases ea), ?_⟩
  have hA := ha.run cpos pins s1 σ H1 _ I1 q1
  rw [hs] at hA ⊢
  refine Calls.callWith_builtin (by show (false || (backTo cpos (starEach es X.env)).any (·.1)) = false; rw [hplain] <;> rfl) (Calls.evalArgs_plain ?_)
  exact thn hA fun us s2 ⟨vs, H2, I2, r2, q2⟩ => hm pins s2 σ H2 (.byt z) vs _ us Q I2 ⟨tk, rfl⟩ r2 q2
def pBjoin (p : PX) : PX := fun γ K E => p γ (fun x γ1 => match x with
  | .lst ys => ∃ bs : List (Array UInt8), ys = bs.map .byt ∧ Builtin.Bytes.tooLong (bs.toArray.foldl (· + ·.size) ((#[] : Array UInt8).size * (bs.length - 1))) = false ∧ (Builtin.Bytes.joined #[] bs).size ≤ sizeLine ∧ K (.byt (Builtin.Bytes.joined #[] bs)) γ1
  | _ => False) E
theorem Reps.byts {K : PySem.W.Frag} {G : Hp} : ∀ {vs : List V} {bs : List (Array UInt8)}, Reps K G vs (bs.map .byt) → vs = bs.map V.byt
  | _, [], .nil => rfl
  | _, b :: bs, .cons (.byt _) t => congrArg (V.byt b :: ·) (Reps.byts t)
theorem pp_bjoin (h : PE X e (tBMY (rBjoin X.K) (tC (.byt #[])) (tCons (tP X.K Ex p) tNil))) : JV X Ex e (pBjoin p) := PE.imp h fun σ H Q ⟨R, G, γ, Kp, Ep, A, h, k, x⟩ =>
  ⟨#[], rfl, R, G, γ, _, Ep, A, h, fun v H1 G1 y γ1 s1 A1 r1 h1 => by
    try dsimp only at h1
    split at h1
    · obtain ⟨bs, rfl, c1, c2, kk⟩ := h1
      cases r1 with
      | lst g rr =>
        rename_i a vs
        have ev := Reps.byts rr
        subst ev
        exact ⟨#[], a, bs, rfl, rfl, SqL.of (A1.gh _ _ g), c1, c2, k _ H1 G1 _ γ1 s1 A1 (.byt _) kk⟩
    · exact h1.elim, x⟩
end
end Pu

/-! Pu12: C.m(..), m a staticmethod of C -/
namespace Pu
open PySem PySem.Spec PyProof.Rows L2 Lay
/-- C.m is a staticmethod: its record at p, its def at g -/
structure SMet (K : PySem.W.Frag) (C : Addr) (m : Str) (g : Addr) : Prop where
  rd : PySem.W.readsIn K C (.type "type") = true
  at_ : ∃ p, PySem.W.findCls K (.ref C) (.type "type") m = some (.get (.builtin "staticmethod.__get__") (.ref p) .none (.ref C)) ∧ ∃ rest, PySem.W.recIn K p "staticmethod" = some (.ref g :: rest)
  kp : PySem.W.keepIn K (.ref g) = true
theorem SMet.read {K : PySem.W.Frag} {C : Addr} {m : Str} {g : Addr} (k : SMet K C m g) : ClX.CRead K C (.type "type") := by
  refine ⟨k.rd, ?_⟩
  have h := k.rd
  unfold PySem.W.readsIn at h
  have ba : ∀ {a b : Bool}, (a && b) = true → a = true ∧ b = true := fun {a b} h => by
    cases a <;> cases b <;> simp_all
  obtain ⟨h, _⟩ := ba h
  obtain ⟨h, _⟩ := ba h
  obtain ⟨h, h3⟩ := ba h
  obtain ⟨_, h2⟩ := ba h
  unfold PySem.W.specialIn
  rw [beq_iff_eq.mp h2, Option.bind_some]
  exact beq_iff_eq.mp h3
section
variable {X : Cx} {CX : CXT} {k : Nat} {C g : Addr} {m : Str} {ps : List Str} {fd : FuncData} {sp : Sp} {E : L2.St → XK} {o e : Expr} {es : List Expr} {pos apos : PySem.Pos} {ta : TE} {t : TA}
def tSta (C : Addr) (sp : Sp) (E : L2.St → XK) (ta : TE) (t : TA) : TE := fun σ H Q => ta σ H fun x H1 => x = .ref C ∧ t σ H1 fun vs H2 => sp vs H2 Q (E σ)
theorem pe_sta (he : PE X o ta) (c : SMet X.K C m g) (F : FnOk X.prog X.w X.K X.mg X.base CX k g fd ps sp) (b : Binds X.K fd ps []) (hr : Room k X.A) (hx : ∀ σ, PassesAt CX X σ (E σ)) (ha : PA X (e :: es) t) {pl : Sem Bool}
    (hst : starEach (e :: es) X.env = (false, eval e X.env) :: starEach es X.env := by rfl) (hpl : (backTo pos (starEach es X.env)).any (·.1) = false := by rfl)
    (ht : eval (.Call (.Attribute o m apos) (e :: es) [] pos) X.env = (do
      let ov ← eval o X.env
      standAt apos.atName
      let (f, first) ← holding [ov] (getMethod ov m pl)
      callWith pos f first (backTo pos (starEach (e :: es) X.env)) (backToKw pos (keywordEach [] X.env))) := by rfl) :
    PE X (.Call (.Attribute o m apos) (e :: es) [] pos) (tSta C sp E ta t) := by
  refine ⟨fun pins s σ H Q I h => PySem.W.methodCall_KW (pl := pl) (thn (he.run pins s σ H _ I h) fun u s1 hq => ?_) ht⟩
  obtain ⟨x, H1, I1, rx, rfl, q⟩ := hq
  obtain rfl : u = Value.ref C := rx
  obtain ⟨p, ef, rest, er⟩ := c.at_
  refine PySem.W.method_cls I1.kIn c.read.ga (PySem.W.cls_bind I1.kIn c.rd ef (wpAny_call (PySem.W.sm_get (s := { s1 with toks := s1.toks + 1 }) I1.kIn er (PySem.W.handed_on rfl ?_))))
  have I2 : Inv X pins σ H1 { s1 with toks := s1.toks + 1 } := I1.tok _
  refine PySem.W.callWith_K (first := []) (h₀ := X.base) I.ok.mod.kin c.kp (thn (ha.run pos pins _ σ H1 _ I2 q) fun us s2 hq2 => ?_) hst hpl
  obtain ⟨vs, H2, I3, r, q2⟩ := hq2
  exact ⟨I3.kIn, run_fnS (us := us) (vs := vs) F hr b (hx σ) I3 r q2⟩
theorem pe_staS (he : PE X o (tC (.ref C))) (c : SMet X.K C m g) (F : FnOk X.prog X.w X.K X.mg X.base CX k g fd ps sp) (b : Binds X.K fd ps []) (hr : Room k X.A) (hx : ∀ σ, PassesAt CX X σ (E σ)) (ha : PA X (e :: es) t) {pl : Sem Bool}
    (hst : starEach (e :: es) X.env = (false, eval e X.env) :: starEach es X.env := by rfl) (hpl : (backTo pos (starEach es X.env)).any (·.1) = false := by rfl)
    (ht : eval (.Call (.Attribute o m apos) (e :: es) [] pos) X.env = (do
      let ov ← eval o X.env
      standAt apos.atName
      let (f, first) ← holding [ov] (getMethod ov m pl)
      callWith pos f first (backTo pos (starEach (e :: es) X.env)) (backToKw pos (keywordEach [] X.env))) := by rfl) :
    PE X (.Call (.Attribute o m apos) (e :: es) [] pos) (tCallS sp E t) := PE.imp (pe_sta he c F b hr hx ha hst hpl ht) fun σ H Q h => ⟨rfl, h⟩
end
theorem smet_ok {K : PySem.W.Frag} {C : Addr} {m : Str} (h : (He5.wrapB K C "staticmethod" "staticmethod.__get__" m && (PySem.W.readsIn K C (.type "type") && PySem.W.keepIn K (.ref (He5.wf K C "staticmethod" m)))) = true) : SMet K C m (He5.wf K C "staticmethod" m) := by
  rw [Bool.and_eq_true, Bool.and_eq_true] at h
  obtain ⟨h1, h2⟩ := He5.wrapB_ok h.1
  exact ⟨h.2.1, ⟨_, h1, h2⟩, h.2.2⟩
/-- a staticmethod m of the class C, what it promises -/
def SOk (P : Program) (w : World) (K : PySem.W.Frag) (mg : Str → Option Value) (base : Heap) (CX : CXT) (k : Nat) (C m : Str) (ps : List Str) (sp : Sp) : Prop :=
  ∃ fd, FnOk P w K mg base CX k (He5.wf K (He.ga K C) "staticmethod" m) fd ps sp ∧ Binds K fd ps []
theorem pe_staF {X : Cx} {CX : CXT} {k : Nat} {C m : Str} {ps : List Str} {sp : Sp} {E : L2.St → XK} {o e : Expr} {es : List Expr} {pos apos : PySem.Pos} {t : TA} (he : PE X o (tC (.ref (He.ga X.K C)))) (c : SMet X.K (He.ga X.K C) m (He5.wf X.K (He.ga X.K C) "staticmethod" m)) (F : SOk X.prog X.w X.K X.mg X.base CX k C m ps sp) (hr : Room k X.A) (hx : ∀ σ, PassesAt CX X σ (E σ)) (ha : PA X (e :: es) t) {pl : Sem Bool}
    (hst : starEach (e :: es) X.env = (false, eval e X.env) :: starEach es X.env := by rfl) (hpl : (backTo pos (starEach es X.env)).any (·.1) = false := by rfl)
    (ht : eval (.Call (.Attribute o m apos) (e :: es) [] pos) X.env = (do
      let ov ← eval o X.env
      standAt apos.atName
      let (f, first) ← holding [ov] (getMethod ov m pl)
      callWith pos f first (backTo pos (starEach (e :: es) X.env)) (backToKw pos (keywordEach [] X.env))) := by rfl) :
    PE X (.Call (.Attribute o m apos) (e :: es) [] pos) (tCallS sp E t) := by
  obtain ⟨fd, F, b⟩ := F
  exact pe_staS he c F b hr hx ha hst hpl ht
end Pu

/-! Pu13: x == y, x != y of two instances of a class with its own == -/
namespace Pu
open PySem PySem.Spec PyProof.Rows L2 Lay
section
open PySem.W
variable {prog : Program} {w : World} {A : Around} {E : Value → Shared → Prop} {s : Shared} {K : PySem.W.Frag} {x C L f : Addr} {h₀ : Heap} {m : Str → Option Value} {ox : Obj} {od : Option Obj} {name : Str} {b tb : Value}
theorem ifBound_B {M : Model} {id : String} {args : List Value} {Q : Option Value → Shared → Prop} (X : K.In s.heap) (I : InstAt s.heap x ox C od) (hs : findIn K (.ref C) name = some (some (.builtin id)))
    (hb : ∀ self, bindSpecial (.builtin id) self = pure (.builtin id, [self])) (h : wpAny M A (call (.builtin id) (.ref x :: args)) (fun v => Q (some v)) E s) : wpAny M A (callSpecialIfBound? (.ref x) name args) Q E s := by
  simp only [callSpecialIfBound?, bindSpecialIfBound?]
  refine wpAny_holding (wpAny_bind (wpAny_bind (wpAny_bind (I.type.here ((looks_findIn X hs).here ?_)))))
  refine wpAny_bind (wpAny_askSetting (wpAny_ite ?_))
  have fin : wpAny M A (call (.builtin id) ([.ref x] ++ args) >>= fun v => pure (some v)) Q E s := wpAny_bind (wpAny_mono h (fun v s' h' => wpAny_pure h') fun _ _ h' => h')
  split
  · exact wpAny_bind ((Looks.of_pure (hb _)).here (wpAny_pure (by exact fin)))
  · exact wpAny_tryCatch (wpAny_bind ((Looks.of_pure (hb _)).here (wpAny_pure (by exact fin))))
theorem objNe_K {Q : Value → Shared → Prop} (hu : A.in1.units < cLine) (X : K.In s.heap) (I : InstAt s.heap x ox C od) (hm : mroIn K C (.type "object") = some true) (hs : findIn K (.ref C) "__eq__" = some (some (.ref f))) (hf : isFn K (.ref f) = true)
    (h : wpAny (model prog w) A.in1 (call (.ref f) [.ref x, b]) (fun v s' => ∃ r, v = .bool r ∧ Q (.bool (!r)) s') E s) : wpAny (model prog w) A (call (.builtin "object.__ne__") [.ref x, b]) Q E s := by
  refine wpAny_call (codeAny_call_builtin PySem.F.cmp_object.ne.plain PySem.F.cmpEntry_ne (check_slot (i := "object.__ne__") (owner := "object") (n := "__ne__") PySem.F.cmpKind_ne PySem.F.cmpSplit_ne (I.type.andThen (looks_mroIn X hm)) (PySem.F.cmpArgs_ne _ _) ?_))
  unfold Builtin.«object.__ne__»
  refine wpAny_bind (m := slotArgs "__ne__" 1 _) (wpAny_pure ?_)
  refine wpAny_bind (m := cRoomFor _ _) (wpAny_cRoomFor hu ?_)
  refine wpAny_bind (m := callSpecialIfBound? (.ref x) (Str.ofString "__eq__") [b]) (ifBound_K X I hs hf (wpAny_mono h (fun r s' hq => ?_) fun _ _ y => y))
  obtain ⟨r, rfl, hq⟩ := hq
  refine wpAny_bind (m := truthy (.bool r)) (wpAny_truthy_bool ?_)
  exact wpAny_pure hq
theorem ne_K {Q : Value → Shared → Prop} (hu : A.units + 1 < cLine) (F : Fr h₀ L s.heap m) (X₀ : K.In h₀) (I : InstAt s.heap x ox C od) (hb : Looks (model prog w) s.heap (typeOf b) tb) (hn : notFirst K C tb = true)
    (hne : findIn K (.ref C) "__ne__" = some (some (.builtin "object.__ne__"))) (hm : mroIn K C (.type "object") = some true)
    (hs : findIn K (.ref C) "__eq__" = some (some (.ref f))) (hf : isFn K (.ref f) = true)
    (h : wpAny (model prog w) A.in1 (call (.ref f) [.ref x, b]) (fun v s' => ∃ r, v = .bool r ∧ Q (.bool (!r)) s') E s) : wpAny (model prog w) A (richCompare .NotEq (.ref x) b) Q E s := by
  have X := X₀.keeps F.keep
  have one : wpAny (model prog w) A (tryCompare (.ref x) (cmpInfo .NotEq).2.1 b) (fun r s' => ∃ v, r = some v ∧ Q v s') E s := by
    unfold tryCompare
    refine wpAny_bind (ifBound_B X I hne PySem.F.cmp_object.ne.bind (objNe_K hu X I hm hs hf (wpAny_mono h (fun v s' hv => ?_) fun _ _ e => e)))
    obtain ⟨r, rfl, hq⟩ := hv
    exact ⟨r, rfl, wpAny_pure ⟨_, rfl, hq⟩⟩
  unfold richCompare
  simp only [oneThing_ref]
  refine wpAny_holding (wpAny_bind (wpAny_cRoomFor (Nat.lt_of_succ_lt hu) ?_))
  refine wpAny_bind (I.type.here (wpAny_bind (hb.here ?_)))
  split
  · rename_i q
    have e : subIn K tb (.ref C) = some false := by
      rcases Bool.or_eq_true_iff.mp hn with e | e
      · rw [beq_iff_eq.mp e] at q; simp at q
      · exact beq_iff_eq.mp e
    refine wpAny_bind ((looks_subIn X e).here ?_)
    simp only [Bool.false_eq_true, if_false]
    refine wpAny_bind (wpAny_mono one (fun r s' z => ?_) fun _ _ e => e)
    obtain ⟨v, rfl, hq⟩ := z
    exact wpAny_pure hq
  · refine wpAny_bind (wpAny_pure ?_)
    simp only [Bool.false_eq_true, if_false]
    refine wpAny_bind (wpAny_mono one (fun r s' z => ?_) fun _ _ e => e)
    obtain ⟨v, rfl, hq⟩ := z
    exact wpAny_pure hq
end
/-- C has its own == (f), and the common != -/
structure OwnE (K : PySem.W.Frag) (C f : Addr) : Prop where
  eq : PySem.W.findIn K (.ref C) "__eq__" = some (some (.ref f))
  fn : PySem.W.isFn K (.ref f) = true
  ne : PySem.W.findIn K (.ref C) "__ne__" = some (some (.builtin "object.__ne__"))
  mro : PySem.W.mroIn K C (.type "object") = some true
theorem ownE_ok {K : PySem.W.Frag} {C f : Addr} (h : ownB K C f = true) : OwnE K C f := by
  unfold ownB at h
  rw [Bool.and_eq_true, Bool.and_eq_true, Bool.and_eq_true] at h
  obtain ⟨h1, h2, h3, h4⟩ := h
  refine ⟨?_, h2, ?_, ?_⟩
  · split at h1
    · rename_i g e
      rw [e, of_decide_eq_true h1]
    · cases h1
  · split at h3
    · rename_i g e
      rw [e, of_decide_eq_true h3]
    · cases h3
  · split at h4
    · rename_i g e
      rw [e, h4]
    · cases h4
/-- x == y (neg: x != y), two instances of C, what C's own == promises -/
def rOwn (K : PySem.W.Frag) (neg : Bool) (C : Addr) (sp : Sp) (E : XK) : R2 := fun x y H Q => ∃ a b dx dy fs gs, x = .ref a ∧ y = .ref b ∧ H a = some (.ins C dx fs) ∧ H b = some (.ins C dy gs) ∧ sp [x, y] H (fun v H' => ∃ r, v = .bl r ∧ Q (.bl (neg != r)) H') E
section
variable {X : Cx} {CX : CXT} {k : Nat} {C f : Addr} {fd : FuncData} {ps : List Str} {sp : Sp} {E : XK}
theorem run_own {A : Around} {pins : List (Addr × Obj)} {s : Shared} {σ : L2.St} {H : Hp} {x y : V} {u v : Value} {Q : V → Hp → Prop} (F : FnOk X.prog X.w X.K X.mg X.base CX k f fd ps sp) (hb : Binds X.K fd ps []) (hx : PassesAt CX X σ E)
    (hr : Room k A) (hfr : A.frames = X.A.frames) (I : Inv X pins σ H s) (rx : RelV x u) (ry : RelV y v) (h : sp [x, y] H Q E) : wpAny (model X.prog X.w) A (call (.ref f) [u, v]) (EP X pins σ Q) X.xe s := by
  have e0 : Env0 X.prog X.w X.K X.mg X.base A X.stack s H := by
    have e := I.env0
    exact ⟨by rw [hfr]; exact e.frames, e.mod, e.bs, e.bsz, e.funs, e.frf, e.hok, e.bare⟩
  have hl := F.len _ _ _ _ h
  have r2 : Vals [x, y] [u, v] := .cons rx (.cons ry .nil)
  refine wpAny_call (codeAny_mono (F.run A X.stack s H ⟨[u, v], []⟩ [u, v] [x, y] _ E hr e0 (by
    have := hb s [u, v] I.kIn (by simpa using hl)
    simpa using this) r2 h) fun r s' hq => ?_)
  cases r with
  | error e => exact hx pins H s e s' I hq
  | ok fl =>
    cases fl with
    | ret w => exact I.after hq
    | next => exact False.elim hq
    | brk => exact False.elim hq
    | cont => exact False.elim hq
theorem op_own_eq (O : OwnE X.K C f) (F : FnOk X.prog X.w X.K X.mg X.base CX k f fd ps sp) (hb : Binds X.K fd ps []) (hx : ∀ σ, PassesAt CX X σ E) (hr : Room k X.A) : OpR X (compareOp .Eq) (rOwn X.K false C sp E) := by
  intro pins s σ H x y u v Q I rx ry hq
  obtain ⟨a, b, dx, dy, fs, gs, rfl, rfl, ha, hb', q⟩ := hq
  obtain rfl : u = Value.ref a := rx
  obtain rfl : v = Value.ref b := ry
  show wpAny (model X.prog X.w) X.A (richCompare .Eq (.ref a) (.ref b)) _ X.xe s
  obtain ⟨mA, J, _⟩ := ins_get I.hok ha
  obtain ⟨mB, J', _⟩ := ins_get I.hok hb'
  obtain ⟨od, J, _⟩ := J.look
  obtain ⟨od', J', _⟩ := J'.look
  obtain ⟨m, hF⟩ := I.fr
  refine PySem.W.cmp_K (op := .Eq) (tb := .ref C) hr.units0 hF I.ok.mod.kin J J'.type (by simp [PySem.W.notFirst]) O.eq O.fn ?_
  refine wpAny_mono (run_own F hb (hx σ) hr rfl I (x := .ref a) (y := .ref b) rfl rfl q) (fun r s' z => ?_) fun _ _ e => e
  obtain ⟨v, H', I', rv, r, rfl, q⟩ := z
  cases rv
  refine (show EP X pins σ Q (.bool r) s' from ⟨.bl r, H', I', rfl, ?_⟩)
  cases r <;> exact q
theorem op_own_ne (O : OwnE X.K C f) (F : FnOk X.prog X.w X.K X.mg X.base CX k f fd ps sp) (hb : Binds X.K fd ps []) (hx : ∀ σ, PassesAt CX X σ E) (hr : Room (k + 1) X.A) : OpR X (compareOp .NotEq) (rOwn X.K true C sp E) := by
  intro pins s σ H x y u v Q I rx ry hq
  obtain ⟨a, b, dx, dy, fs, gs, rfl, rfl, ha, hb', q⟩ := hq
  obtain rfl : u = Value.ref a := rx
  obtain rfl : v = Value.ref b := ry
  show wpAny (model X.prog X.w) X.A (richCompare .NotEq (.ref a) (.ref b)) _ X.xe s
  obtain ⟨mA, J, _⟩ := ins_get I.hok ha
  obtain ⟨mB, J', _⟩ := ins_get I.hok hb'
  obtain ⟨od, J, _⟩ := J.look
  obtain ⟨od', J', _⟩ := J'.look
  obtain ⟨m, hF⟩ := I.fr
  refine ne_K (tb := .ref C) (by have := hr.un; omega) hF I.ok.mod.kin J J'.type (by simp [PySem.W.notFirst]) O.ne O.mro O.eq O.fn ?_
  refine wpAny_mono (run_own (A := X.A.in1) F hb (hx σ) hr.in1 rfl I (x := .ref a) (y := .ref b) rfl rfl q) (fun r s' z => ?_) fun _ _ e => e
  obtain ⟨v, H', I', rv, r, rfl, q⟩ := z
  cases rv
  refine ⟨r, rfl, .bl (!r), H', I', rfl, ?_⟩
  cases r <;> exact q
end
/-! ### as values without addresses -/
def ownP0 (n : Str) (neg : Bool) (q : PSp) (x y : PV) (k : PV → Prop) : Prop := match x, y with
  | .obj c fs, .obj c' gs => c = n ∧ c' = n ∧ q [.sh (.obj c fs), .sh (.obj c' gs)] (fun v _ => match v with
    | .bl r => k (.bl (neg != r))
    | _ => False) (fun _ _ _ => False) (fun _ _ _ => False)
  | _, _ => False
/-- the same, which does not reduce by itself -/
@[irreducible] def ownP (n : Str) (neg : Bool) (q : PSp) (x y : PV) (k : PV → Prop) : Prop := ownP0 n neg q x y k
theorem ownP_of {n : Str} {neg : Bool} {q : PSp} {x y : PV} {k : PV → Prop} (h : ownP0 n neg q x y k) : ownP n neg q x y k := by
  unfold ownP
  exact h
theorem bin_own {K : PySem.W.Frag} {n : Str} {neg : Bool} {q : PSp} : Bin K (rOwn K neg (He.ga K n) (spOf K q) (fun _ _ _ => True)) (ownP n neg q) := fun {R G H σ γ v w x y Kp Q} A rx ry h k => by
  unfold ownP ownP0 at h
  split at h
  · rename_i c fs c' gs
    obtain ⟨rfl, rfl, h⟩ := h
    have rs : Reps K G [v, w] [.obj c' fs, .obj c' gs] := .cons rx (.cons ry .nil)
    cases rx with
    | obj g1 r1 =>
      cases ry with
      | obj g2 r2 =>
        refine ⟨_, _, _, _, _, _, rfl, rfl, A.gh _ _ g1, A.gh _ _ g2, frm G H none, G, _, _, _, _, A.call0 rs, h, fun v' H' G' x' γ' s' B r h' => ?_, fun a H' G' c γ' s' B O h => h.elim, fun c d ws fs H' G' γ' s' B e n r h => True.intro⟩
        split at h'
        · rename_i r0
          cases r
          exact ⟨r0, rfl, k _ H' G' _ s' (A.back0 s' B) (.bl _) h'⟩
        · exact h'.elim
  · exact h.elim
section
variable {X : Cx} {k : Nat} {n : Str} {ps : List Str} {q : PSp}
theorem op_ownEq (O : OwnE X.K (He.ga X.K n) (He.ma X.K (He.ga X.K n) "__eq__")) (F : MOk X.prog X.w X.K X.mg X.base CX0 k n "__eq__" ps (spOf X.K q)) (hr : Room k X.A) : OpR X (compareOp .Eq) (rOwn X.K false (He.ga X.K n) (spOf X.K q) (fun _ _ _ => True)) := by
  obtain ⟨fd, F, b⟩ := F
  exact op_own_eq O F b (fun _ _ _ _ _ _ _ h => h.elim) hr
theorem op_ownNe (O : OwnE X.K (He.ga X.K n) (He.ma X.K (He.ga X.K n) "__eq__")) (F : MOk X.prog X.w X.K X.mg X.base CX0 k n "__eq__" ps (spOf X.K q)) (hr : Room (k + 1) X.A) : OpR X (compareOp .NotEq) (rOwn X.K true (He.ga X.K n) (spOf X.K q) (fun _ _ _ => True)) := by
  obtain ⟨fd, F, b⟩ := F
  exact op_own_ne O F b (fun _ _ _ _ _ _ _ h => h.elim) hr
end
/-! ### isinstance(x, C), C a class of the text -/
def Ins0 (K : PySem.W.Frag) (C : Addr) : Prop := Cls K C → C8.InsC K C
theorem ins0_ok {K : PySem.W.Frag} {C : Addr} (h : insB K C = true) : Ins0 K C := fun c => by
  unfold insB at h
  rw [Bool.and_eq_true, Bool.and_eq_true, Bool.and_eq_true, Bool.and_eq_true] at h
  obtain ⟨h1, h2, h3, h4, h5⟩ := h
  refine ⟨c, ?_, ?_, of_decide_eq_true h3, of_decide_eq_true h4, of_decide_eq_true h5⟩
  · split at h1
    · rename_i g e
      rw [e, of_decide_eq_true h1]
    · cases h1
  · split at h2
    · rename_i g e
      rw [e, of_decide_eq_true h2]
    · cases h2
/-- the types that are no class of the text -/
def NotC (K : PySem.W.Frag) (C : Addr) : Prop := ∀ n ∈ kinds, PySem.W.kitOne K (.type n) (.ref C) = some false
theorem notC_ok {K : PySem.W.Frag} {C : Addr} (h : notB K C = true) : NotC K C := fun n hn => of_decide_eq_true (List.all_eq_true.mp h n hn)
theorem tyN_kinds {x : PV} {t : String} (h : x.tyN = some t) : t ∈ kinds := by
  cases x <;> first | (cases h; simp [kinds]; done) | (cases h; done)
/-- isinstance(x, n) -/
def pIsC (n : Str) (p : PX) : PX := fun γ K E => p γ (fun x γ1 => match x with
  | .obj c _ => c = n ∧ K (.bl true) γ1
  | x => (∃ t, x.tyN = some t) ∧ K (.bl false) γ1) E
theorem pp_isC {X : Cx} {Ex : WX} {e : Expr} {n : Str} {p : PX} (c : C8.InsC X.K (He.ga X.K n)) (nc : NotC X.K (He.ga X.K n)) (h : PE X e (tCB (rIsi X.K) (tCons (tP X.K Ex p) (tCons (tC (.ref (He.ga X.K n))) tNil)))) : JV X Ex e (pIsC n p) :=
  PE.imp h fun σ H Q ⟨R, G, γ, Kp, Ep, A, h, k, x⟩ =>
  ⟨R, G, γ, _, Ep, A, h, fun v H1 G1 y γ1 s1 A1 r1 h1 => by
    show rIsi X.K [v, .ref (He.ga X.K n)] H1 Q
    split at h1
    · obtain ⟨rfl, h1⟩ := h1
      cases r1 with
      | obj g r => exact ⟨_, _, _, _, true, rfl, .own _, .base (TyOf.ins (A1.gh _ _ g) c.cl c.ha c.hn c.htk c.hm), c.me, k _ H1 G1 _ γ1 s1 A1 (.bl _) h1⟩
    · obtain ⟨⟨t, e⟩, h1⟩ := h1
      exact ⟨_, _, _, _, false, rfl, .own _, r1.tyx A1.gh e, nc t (tyN_kinds e), k _ H1 G1 _ γ1 s1 A1 (.bl _) h1⟩, x⟩
end Pu

/-! Pu14: try with several except clauses, each with a name or without -/
namespace Pu
open PySem PySem.Spec PyProof.Rows L2 Lay
/-- where a suite leads: its name is gone behind it -/
def outD (D : Ends) : Option Nat → Ends
  | none => D
  | some i => { nx := fun σ' H' => D.nx (σ'.set i none) H', rt := D.rt, bk := fun σ' H' => D.bk (σ'.set i none) H', ct := fun σ' H' => D.ct (σ'.set i none) H' }
def inS (σ : L2.St) (a : Addr) : Option Nat → L2.St
  | none => σ
  | some i => σ.set i (some (.ref a))
abbrev HdT := Value × Option Nat × (Addr → Value → Option Addr → TS)
def wManyA (K : PySem.W.Frag) (Wout : WX) (D : Ends) : List HdT → WX
  | [] => Wout
  | (c, o, ts) :: r => fun cls d σ H => ∃ b, PySem.W.exmOne K cls c = some b ∧ (b = true → ∀ a, H a = none → ts a cls d (outD D o) (inS σ a o) H) ∧ (b = false → wManyA K Wout D r cls d σ H)
inductive HdsA (X : Cx) : List ExceptHandler → List HdT → Prop
  | nil : HdsA X [] []
  | named {x n : Str} {i : Nat} {c : Value} {ts : Addr → Value → Option Addr → TS} {b₀ : Stmt} {suite : List Stmt} {np pos' : PySem.Pos} {hds : List ExceptHandler} {l : List HdT} (hi : X.N[i]? = some n) (hln : X.env.kindOf n = some .local) (hc : Names X x c)
      (hsu : ∀ (a : Addr) (oe : Obj) (cls : Value) (d : Option Addr) (pn : List (Addr × Obj)), Zc cls d oe → (∃ vs, oe.data = .fields vs) → PSs (X.suite a ((a, oe) :: pn)) (b₀ :: suite) (ts a cls d)) (r : HdsA X hds l) :
      HdsA X (.ExceptHandler (some (.Name x np)) (some n) (b₀ :: suite) pos' :: hds) ((c, some i, ts) :: l)
  | plain {x : Str} {c : Value} {ts : Addr → Value → Option Addr → TS} {b₀ : Stmt} {suite : List Stmt} {np pos' : PySem.Pos} {hds : List ExceptHandler} {l : List HdT} (hc : Names X x c)
      (hsu : ∀ (a : Addr) (oe : Obj) (cls : Value) (d : Option Addr) (pn : List (Addr × Obj)), Zc cls d oe → (∃ vs, oe.data = .fields vs) → PSs (X.suite a ((a, oe) :: pn)) (b₀ :: suite) (ts a cls d)) (r : HdsA X hds l) :
      HdsA X (.ExceptHandler (some (.Name x np)) none (b₀ :: suite) pos' :: hds) ((c, none, ts) :: l)
section
variable {X : Cx} {body : List Stmt} {h₀ : ExceptHandler} {hds : List ExceptHandler} {l : List HdT} {pos : PySem.Pos} {tb : WX → TS} {Wout : WX}
theorem ps_try_manyA (hs : X.stack = X.env :: X.outer) (hf : X.env.frame = some X.env.locals) (hN : X.N.Nodup) (tk : Takes X Wout)
    (hb : ∀ (W : WX) (pn : List (Addr × Obj)) (xe : Value → Shared → Prop), Takes (X.tr pn xe) W → PassesOwn (model X.prog X.w) X.A X.env xe → PSs (X.tr pn xe) body (tb W))
    (hh : HdsA X (h₀ :: hds) l) : PS X (.Try body (h₀ :: hds) [] [] pos) (fun D σ H => tb (wManyA X.K Wout D l) D σ H) := by
  refine ⟨fun pins s σ H D I h => ?_⟩
  have ok := I.ok
  have hfr : X.A.frames = some (X.env :: X.outer) := by rw [ok.frames, hs]
  refine wpAny_Try_except ?_
  refine wpAny_mono ((hb (wManyA X.K Wout D l) (X.pn ++ pins) (fun e s₁ => wpAny (model X.prog X.w) X.A (noteFrame e X.env) (fun _ s₂ => wpAny (model X.prog X.w) X.A (setFlight e none) (fun _ s₃ =>
    wpAny (model X.prog X.w) X.A (handleBy e X.env (h₀ :: hds)) (SP X pins D) X.xe s₃) X.xe s₂) X.xe s₁) (fun u s' xx => ?_) PassesOwn.looking).run [] s σ H D (I.toTry _) h) (fun f s1 hsp => ?_) (fun e s1 he => he)
  · -- the catch
    obtain ⟨a, B, sI, pins', σ', H', cls, d, rfl, J', nb, up, sky, na, os, ag, w⟩ := xx
    have J : Inv X pins σ' H' sI := J'.ofTry ok
    have sky' : Sky B (X.env :: X.outer) a (Zc cls d) X.env.locals s'.heap := by rw [← hs]; exact sky
    show wpAny (model X.prog X.w) X.A (noteFrame (.ref a) X.env) _ _ _
    refine Sky.land Zc.steady hfr hf sky' fun h3 fl3 up3 => ?_
    have J3 : Inv X pins σ' H' { s' with heap := h3 } := J.landed nb fl3.1 (up.trans up3) os ag
    obtain ⟨oe3, vs3, he3, hz3, hd3⟩ := fl3.there
    have notFr : ∀ {h : Heap} {o : Obj} {vs : Array Value}, h.FunFrames B (X.env :: X.outer) → h.get? a = some o → o.data = .fields vs → a ∉ frs (X.env :: X.outer) := fun {h o vs} ff e dd hm => by
      obtain ⟨_, o', e', hnf⟩ := ff.mem hm
      rw [e] at e'; cases e'
      exact hnf _ dd
    have nfr := notFr fl3.2.2.1 he3 hd3
    have nL : a ≠ X.env.locals := fun z => nfr (List.mem_filterMap.mpr ⟨X.env, List.mem_cons_self, by rw [hf, z]⟩)
    have nF : a ∉ X.fs := fun hm => by
      obtain ⟨e, he, q⟩ := List.mem_filterMap.mp hm
      exact nfr (List.mem_filterMap.mpr ⟨e, List.mem_cons_of_mem _ he, q⟩)
    have S3 := J3.suite he3 hd3 na nL nF
    have go : ∀ {hds' : List ExceptHandler} {l' : List HdT}, HdsA X hds' l' → wManyA X.K Wout D l' cls d σ' H' →
        wpAny (model X.prog X.w) X.A (handleBy (.ref a) X.env hds') (SP X pins D) X.xe { s' with heap := h3 } := by
      intro hds' l' hk
      induction hk with
      | nil =>
        intro w
        refine wpAny_handleBy_nil ?_
        obtain ⟨k1, k2, k3, oe, vs, T, oT, ts', he, hz, hd, h1, hr⟩ := id fl3
        unfold PySem.passOn
        refine wpAny_bind (wpAny_field he hd h1 ?_)
        rw [if_neg (show ¬ ((Value.ref T == Value.none) = true) from by simp)]
        have fin : wpAny (model X.prog X.w) X.A (setFlight (.ref a) X.env.frame) (fun _ s4 => wpAny (model X.prog X.w) X.A (throw (.ref a) : Sem Flow) (SP X pins D) X.xe s4) X.xe { s' with heap := h3 } := by
          rw [hf]
          refine HandSPX.setFlight_upZ fl3 fun h4 hh4 up4 => wpAny_throw (tk _ _ ?_)
          exact ⟨a, B, sI, pins, σ', H', cls, d, rfl, J, nb, (up.trans up3).trans up4, .inr (.inr (by rw [hs]; exact hh4)), na, os, ag, w⟩
        first
          | exact wpAny_bind (wpAny_pure (wpAny_bind fin))
          | exact wpAny_bind fin
      | @named x n i c ts b₀ suite np pos' hds2 l2 hi hln hc hsu r ih =>
        intro w
        obtain ⟨b, hb1, hyes, hno⟩ := w
        have hloc : Loc X.env.scope n := .inl hln
        refine wpAny_handleBy_cons (codeAny_handlers_test ?_) (by intro q; cases q)
        have LT : PySem.W.Looks (model X.prog X.w) h3 (typeOf (.ref a)) cls := fun A Q E s k q => wpAny_typeOf_ref (k _ _ he3) (by rw [hz3.1]; exact q)
        have LM := PySem.W.exm_one (M := model X.prog X.w) (J3.kIn) LT hb1
        have test : ∀ {Q : Value → Shared → Prop} {E : Value → Shared → Prop}, Q c { s' with heap := h3 } → wpAny (model X.prog X.w) (X.A.mark (some (.ref a))) (eval (.Name x np) X.env) Q E { s' with heap := h3 } := fun {Q E} q => by
          obtain ⟨hg, hdbg, hm | ⟨hm, hv, hnn⟩⟩ := hc
          · exact ld_glob (X := X.suite a ((a, oe3) :: (X.pn ++ pins))) S3 hg hm q hdbg
          · exact ld_blt (X := X.suite a ((a, oe3) :: (X.pn ++ pins))) S3 hg hm hv q hnn hdbg
        refine test (LM.here ?_)
        cases b with
        | true =>
          refine codeAny_handlers_suite_as ?_
          refine HandSPX.lands_againZ fl3 fun h4 fl4 up4 => ?_
          have J4 : Inv X pins σ' H' { s' with heap := h4 } := J.landed nb fl4.1 ((up.trans up3).trans up4) os ag
          obtain ⟨oe4, vs4, he4, hz4, hd4⟩ := fl4.there
          have S4 := J4.suite he4 hd4 na nL nF
          refine store_ok (X := X.suite a ((a, oe4) :: (X.pn ++ pins))) (v := .ref a) S4 hN hi hloc rfl (fun s5 S5 => ?_) (.inr hln)
          refine wpAny_mono ((hsu a oe4 cls d (X.pn ++ pins) hz4 ⟨_, hd4⟩).run [] s5 _ H' _ S5 (hyes rfl a na)) (fun f s6 hsp => ?_) (fun _ _ z => False.elim z)
          have end_ : ∀ {σ6 : L2.St} {H6 : Hp} {Q : Shared → Prop}, Inv (X.suite a ((a, oe4) :: (X.pn ++ pins))) [] σ6 H6 s6 → (∀ s7, Inv X pins (σ6.set i none) H6 s7 → Q s7) →
              wpAny (model X.prog X.w) X.A (do bindName X.env n .none; unbindBehindTheSuite X.env n pos') (fun _ s7 => Q s7) X.xe s6 := fun {σ6 H6 Q} S6 hq => gone_ok (S6.unsuite ok) hN hi hln hq
          cases f with
          | next =>
            obtain ⟨σ6, H6, S6, q6⟩ := hsp
            exact end_ S6 fun s7 J7 => ⟨_, _, J7, q6⟩
          | brk =>
            obtain ⟨σ6, H6, S6, q6⟩ := hsp
            exact end_ S6 fun s7 J7 => ⟨_, _, J7, q6⟩
          | cont =>
            obtain ⟨σ6, H6, S6, q6⟩ := hsp
            exact end_ S6 fun s7 J7 => ⟨_, _, J7, q6⟩
          | ret u =>
            obtain ⟨v6, σ6, H6, S6, r6, q6⟩ := hsp
            exact end_ S6 fun s7 J7 => ⟨_, _, _, J7, r6, q6⟩
        | false =>
          show wpAny _ X.A (handleBy (.ref a) X.env hds2) _ _ _
          exact ih (hno rfl)
      | @plain x c ts b₀ suite np pos' hds2 l2 hc hsu r ih =>
        intro w
        obtain ⟨b, hb1, hyes, hno⟩ := w
        refine wpAny_handleBy_cons (codeAny_handlers_test ?_) (by intro q; cases q)
        have LT : PySem.W.Looks (model X.prog X.w) h3 (typeOf (.ref a)) cls := fun A Q E s k q => wpAny_typeOf_ref (k _ _ he3) (by rw [hz3.1]; exact q)
        have LM := PySem.W.exm_one (M := model X.prog X.w) (J3.kIn) LT hb1
        have test : ∀ {Q : Value → Shared → Prop} {E : Value → Shared → Prop}, Q c { s' with heap := h3 } → wpAny (model X.prog X.w) (X.A.mark (some (.ref a))) (eval (.Name x np) X.env) Q E { s' with heap := h3 } := fun {Q E} q => by
          obtain ⟨hg, hdbg, hm | ⟨hm, hv, hnn⟩⟩ := hc
          · exact ld_glob (X := X.suite a ((a, oe3) :: (X.pn ++ pins))) S3 hg hm q hdbg
          · exact ld_blt (X := X.suite a ((a, oe3) :: (X.pn ++ pins))) S3 hg hm hv q hnn hdbg
        refine test (LM.here ?_)
        cases b with
        | true =>
          refine codeAny_handlers_suite ?_
          refine HandSPX.lands_againZ fl3 fun h4 fl4 up4 => ?_
          have J4 : Inv X pins σ' H' { s' with heap := h4 } := J.landed nb fl4.1 ((up.trans up3).trans up4) os ag
          obtain ⟨oe4, vs4, he4, hz4, hd4⟩ := fl4.there
          have S4 := J4.suite he4 hd4 na nL nF
          refine wpAny_mono ((hsu a oe4 cls d (X.pn ++ pins) hz4 ⟨_, hd4⟩).run [] _ _ H' _ S4 (hyes rfl a na)) (fun f s6 hsp => ?_) (fun _ _ z => False.elim z)
          cases f with
          | next =>
            obtain ⟨σ6, H6, S6, q6⟩ := hsp
            exact ⟨_, _, S6.unsuite ok, q6⟩
          | brk =>
            obtain ⟨σ6, H6, S6, q6⟩ := hsp
            exact ⟨_, _, S6.unsuite ok, q6⟩
          | cont =>
            obtain ⟨σ6, H6, S6, q6⟩ := hsp
            exact ⟨_, _, S6.unsuite ok, q6⟩
          | ret u =>
            obtain ⟨v6, σ6, H6, S6, r6, q6⟩ := hsp
            exact ⟨_, _, _, S6.unsuite ok, r6, q6⟩
        | false =>
          show wpAny _ X.A (handleBy (.ref a) X.env hds2) _ _ _
          exact ih (hno rfl)
    exact go hh w
  · cases f with
    | next =>
      obtain ⟨σ', H', J', q⟩ := hsp
      exact wpAny_execs_nil ⟨σ', H', J'.ofTry ok, q⟩
    | brk =>
      obtain ⟨σ', H', J', q⟩ := hsp
      exact ⟨σ', H', J'.ofTry ok, q⟩
    | cont =>
      obtain ⟨σ', H', J', q⟩ := hsp
      exact ⟨σ', H', J'.ofTry ok, q⟩
    | ret u =>
      obtain ⟨v, σ', H', J', r, q⟩ := hsp
      exact ⟨v, σ', H', J'.ofTry ok, r, q⟩
end
/-! ### as values without addresses -/
abbrev HdP := Str × Option Nat × (Addr → Value → Option Addr → PXS)
def outP (D : PD) : Option Nat → PD
  | none => { D with ex := fun _ _ _ => False }
  | some i => { nx := fun γ2 => D.nx (γ2.set i .no), rt := D.rt, ro := D.ro, bk := fun γ2 => D.bk (γ2.set i .no), ct := fun γ2 => D.ct (γ2.set i .no), ex := fun _ _ _ => False }
def inP (γ : PEnv) (x : PV) : Option Nat → PEnv
  | none => γ
  | some i => γ.set i (.sh x)
/-- what the clauses wish, one after the other -/
def exMany (K : PySem.W.Frag) (D : PD) : List HdP → EK
  | [] => D.ex
  | (c, o, ts) :: r => fun c' fs γ' => ∃ b, PySem.W.exmOne K (.ref (He.ga K c')) (.ref (He.ga K c)) = some b ∧ (b = true → ∀ a d, ts a (.ref (He.ga K c')) (some d) (outP D o) (inP γ' (.exo a d c' fs) o)) ∧ (b = false → exMany K D r c' fs γ')
def sTryM (K : PySem.W.Frag) (s : PXS) (l : List HdP) : PXS := fun D γ => s { D with ex := exMany K D l } γ
def hdT (K : PySem.W.Frag) : List HdP → List HdT
  | [] => []
  | (c, o, ts) :: r => (.ref (He.ga K c), o, fun a cls d => tS K (fun _ _ _ _ => False) (ts a cls d)) :: hdT K r
theorem many_ex {K : PySem.W.Frag} {R G : Hp} {Ex : WX} {D : Ends} {P : PD} (E : EndR K R G Ex D P) : ∀ (l : List HdP) (σ' : L2.St) (c' : Str) (d : Addr) (ws : List (Str × V)) (fs : List (Str × PV)) (H' G' : Hp) (γ' : PEnv), Same G G' → At K R G' H' σ' γ' → H' d = some (.xd ws) → R d = none → RepF K G' ws fs →
    exMany K P l c' fs γ' → wManyA K Ex D (hdT K l) (.ref (He.ga K c')) (some d) σ' H'
  | [], σ', c', d, ws, fs, H', G', γ', s', A', e, n, r, h => E.ex σ' c' d ws fs H' G' γ' s' A' e n r h
  | (c, o, ts) :: l, σ', c', d, ws, fs, H', G', γ', s', A', e, n, r, h => by
    obtain ⟨b, h1, h2, h3⟩ := h
    refine ⟨b, h1, fun hb a na => ?_, fun hb => many_ex E l σ' c' d ws fs H' G' γ' s' A' e n r (h3 hb)⟩
    obtain ⟨A2, s2⟩ := A'.xd e n
    have s12 := same_trans s' s2
    cases o with
    | none => exact ⟨R, _, _, _, A2, h2 hb a d, ⟨fun σ3 H3 G3 γ3 s3 A3 q => E.nx _ H3 G3 _ (same_trans s12 s3) A3 q, fun v H3 G3 x σ3 γ3 s3 A3 r q => E.rt v H3 G3 x σ3 γ3 (same_trans s12 s3) A3 r q,
        fun a H3 G3 c σ3 γ3 s3 A3 O q => E.ro a H3 G3 c σ3 γ3 (same_trans s12 s3) A3 O q, fun σ3 H3 G3 γ3 s3 A3 q => E.bk _ H3 G3 _ (same_trans s12 s3) A3 q, fun σ3 H3 G3 γ3 s3 A3 q => E.ct _ H3 G3 _ (same_trans s12 s3) A3 q, fun σ3 c d ws fs H' G' γ' s A e n r q => q.elim⟩⟩
    | some i => exact ⟨R, _, _, _, A2.setS (v := .ref a) (x := .exo a d c' fs) (.exo upd_same (r.same s2)), h2 hb a d, ⟨fun σ3 H3 G3 γ3 s3 A3 q => E.nx _ H3 G3 _ (same_trans s12 s3) (A3.setN none) q, fun v H3 G3 x σ3 γ3 s3 A3 r q => E.rt v H3 G3 x σ3 γ3 (same_trans s12 s3) A3 r q,
        fun a H3 G3 c σ3 γ3 s3 A3 O q => E.ro a H3 G3 c σ3 γ3 (same_trans s12 s3) A3 O q, fun σ3 H3 G3 γ3 s3 A3 q => E.bk _ H3 G3 _ (same_trans s12 s3) (A3.setN none) q, fun σ3 H3 G3 γ3 s3 A3 q => E.ct _ H3 G3 _ (same_trans s12 s3) (A3.setN none) q, fun σ3 c d ws fs H' G' γ' s A e n r q => q.elim⟩⟩
theorem js_tryM {X : Cx} {Ex : WX} {s : PXS} {l : List HdP} {body : List Stmt} {h₀ : ExceptHandler} {hds : List ExceptHandler} {pos : PySem.Pos}
    (hs : X.stack = X.env :: X.outer) (hf : X.env.frame = some X.env.locals) (hN : X.N.Nodup) (tk : Takes X Ex)
    (hb : ∀ (W : WX) (pn : List (Addr × Obj)) (xe : Value → Shared → Prop), Takes (X.tr pn xe) W → PassesOwn (model X.prog X.w) X.A X.env xe → JSs (X.tr pn xe) W body s)
    (hh : HdsA X (h₀ :: hds) (hdT X.K l)) : JS X Ex (.Try body (h₀ :: hds) [] [] pos) (sTryM X.K s l) :=
  PS.imp (ps_try_manyA (tb := fun W => tS X.K W s) hs hf hN tk hb hh) fun D σ H ⟨R, G, γ, P, A, h, E⟩ =>
  ⟨R, G, γ, _, A, h, ⟨E.nx, E.rt, E.ro, E.bk, E.ct, fun σ' c' d ws fs H' G' γ' s' A' e n r h => many_ex E l σ' c' d ws fs H' G' γ' s' A' e n r h⟩⟩
/-- the clauses, as they stand in the text -/
inductive HdsP (X : Cx) : List ExceptHandler → List HdP → Prop
  | nil : HdsP X [] []
  | named {x n c : Str} {i : Nat} {ts : Addr → Value → Option Addr → PXS} {b₀ : Stmt} {suite : List Stmt} {np pos' : PySem.Pos} {hds : List ExceptHandler} {l : List HdP} (hi : X.N[i]? = some n) (hln : X.env.kindOf n = some .local) (hc : Names X x (.ref (He.ga X.K c)))
      (hsu : ∀ (a : Addr) (oe : Obj) (cls : Value) (d : Option Addr) (pn : List (Addr × Obj)), Zc cls d oe → (∃ vs, oe.data = .fields vs) → JSs (X.suite a ((a, oe) :: pn)) (fun _ _ _ _ => False) (b₀ :: suite) (ts a cls d)) (r : HdsP X hds l) :
      HdsP X (.ExceptHandler (some (.Name x np)) (some n) (b₀ :: suite) pos' :: hds) ((c, some i, ts) :: l)
  | plain {x c : Str} {ts : Addr → Value → Option Addr → PXS} {b₀ : Stmt} {suite : List Stmt} {np pos' : PySem.Pos} {hds : List ExceptHandler} {l : List HdP} (hc : Names X x (.ref (He.ga X.K c)))
      (hsu : ∀ (a : Addr) (oe : Obj) (cls : Value) (d : Option Addr) (pn : List (Addr × Obj)), Zc cls d oe → (∃ vs, oe.data = .fields vs) → JSs (X.suite a ((a, oe) :: pn)) (fun _ _ _ _ => False) (b₀ :: suite) (ts a cls d)) (r : HdsP X hds l) :
      HdsP X (.ExceptHandler (some (.Name x np)) none (b₀ :: suite) pos' :: hds) ((c, none, ts) :: l)
theorem HdsP.to {X : Cx} {hs : List ExceptHandler} {l : List HdP} (h : HdsP X hs l) : HdsA X hs (hdT X.K l) := by
  induction h with
  | nil => exact .nil
  | named hi hln hc hsu r ih => exact .named hi hln hc hsu ih
  | plain hc hsu r ih => exact .plain hc hsu ih
theorem js_tryP {X : Cx} {Ex : WX} {s : PXS} {l : List HdP} {body : List Stmt} {h₀ : ExceptHandler} {hds : List ExceptHandler} {pos : PySem.Pos}
    (hs : X.stack = X.env :: X.outer) (hf : X.env.frame = some X.env.locals) (hN : X.N.Nodup) (tk : Takes X Ex)
    (hb : ∀ (W : WX) (pn : List (Addr × Obj)) (xe : Value → Shared → Prop), Takes (X.tr pn xe) W → PassesOwn (model X.prog X.w) X.A X.env xe → JSs (X.tr pn xe) W body s)
    (hh : HdsP X (h₀ :: hds) l) : JS X Ex (.Try body (h₀ :: hds) [] [] pos) (sTryM X.K s l) := js_tryM hs hf hN tk hb hh.to
end Pu

/-! Pu15: a value with bools is equal to itself -/
namespace Pu
open PySem PySem.Spec PyProof.Rows L2 Lay
/-- plain values with bools, at most n deep -/
inductive PlB : Nat → PV → Prop
  | non (n : Nat) : PlB n .non
  | bl (n : Nat) (b : Bool) : PlB n (.bl b)
  | int (n : Nat) (i : Int) : PlB n (.int i)
  | str (n : Nat) (x : Str) (h : PyData.canLay0 (.str x) = true) : PlB n (.str x)
  | lst (n : Nat) (xs : List PV) (h : ∀ x ∈ xs, PlB n x) : PlB (n + 1) (.lst xs)
  | tup (n : Nat) (xs : List PV) (h : ∀ x ∈ xs, PlB n x) : PlB (n + 1) (.tup xs)
theorem dats_refl : ∀ {xs : List PV} {ds : List PyData}, (∀ x ∈ xs, ∀ d, x.dat = some d → PyData.eqv d d = true) → PV.dats xs = some ds → PyData.eqvAll ds ds = true
  | [], ds, _, h => by cases h; rfl
  | x :: xs, ds, k, h => by
    rw [PV.dats] at h
    split at h
    · rename_i d ds' a1 a2
      cases h
      rw [PyData.eqvAll, k x (List.mem_cons_self ..) d a1, dats_refl (fun z hz => k z (List.mem_cons_of_mem _ hz)) a2]
      rfl
    · cases h
theorem PlB.dat {n : Nat} {x : PV} (h : PlB n x) : (∃ d, x.dat = some d ∧ PyData.canLay0 d = true ∧ PyData.depth d ≤ n) ∧ ∀ d, x.dat = some d → PyData.eqv d d = true := by
  induction h with
  | non n => exact ⟨⟨_, rfl, rfl, Nat.zero_le _⟩, fun d e => by cases e; simp [PyData.eqv]⟩
  | bl n b => exact ⟨⟨_, rfl, rfl, Nat.zero_le _⟩, fun d e => by cases e; simp [PyData.eqv]⟩
  | int n i => exact ⟨⟨_, rfl, rfl, Nat.zero_le _⟩, fun d e => by cases e; simp [PyData.eqv]⟩
  | str n x h => exact ⟨⟨_, rfl, h, Nat.zero_le _⟩, fun d e => by cases e; simp [PyData.eqv]⟩
  | lst n xs h ih =>
    obtain ⟨ds, g1, g2, g3⟩ := dats_of fun x hx => (ih x hx).1
    refine ⟨⟨.list ds, by rw [PV.dat, g1]; rfl, g2, Nat.succ_le_succ g3⟩, fun d e => ?_⟩
    rw [PV.dat, g1] at e
    cases e
    rw [PyData.eqv]
    exact dats_refl (fun x hx => (ih x hx).2) g1
  | tup n xs h ih =>
    obtain ⟨ds, g1, g2, g3⟩ := dats_of fun x hx => (ih x hx).1
    refine ⟨⟨.tuple ds, by rw [PV.dat, g1]; rfl, g2, Nat.succ_le_succ g3⟩, fun d e => ?_⟩
    rw [PV.dat, g1] at e
    cases e
    rw [PyData.eqv]
    exact dats_refl (fun x hx => (ih x hx).2) g1
theorem eqS_self {x : PV} {b : Bool} (e : eqS x x = some b) : b = true := by
  cases x <;> (simp [eqS] at e; try (subst e; simp))
theorem neQ_sameB {n : Nat} {x : PV} {k : PV → Prop} (hx : PlB n x) (hn : n ≤ 64) (h : k (.bl false)) : neQ x x k := neQ_of (by
  unfold neP
  split
  · rename_i b e
    rw [eqS_self e]
    exact h
  · obtain ⟨⟨d, h1, h2, h3⟩, h4⟩ := hx.dat
    have hs : SeqAt.shaped d = true := by
      unfold SeqAt.shaped
      rw [h2, decide_eq_true (Nat.le_trans h3 hn)]
      rfl
    refine ⟨d, d, h1, h1, hs, hs, ?_⟩
    rw [h4 d h1]
    exact h)
theorem eqQ_sameB {n : Nat} {x : PV} {k : PV → Prop} (hx : PlB n x) (hn : n ≤ 64) (h : k (.bl true)) : eqQ x x k := eqQ_of (by
  unfold eqP
  split
  · rename_i b e
    rw [eqS_self e]
    exact h
  · obtain ⟨⟨d, h1, h2, h3⟩, h4⟩ := hx.dat
    have hs : SeqAt.shaped d = true := by
      unfold SeqAt.shaped
      rw [h2, decide_eq_true (Nat.le_trans h3 hn)]
      rfl
    split
    · exact h
    · refine ⟨d, d, h1, h1, hs, hs, ?_⟩
      rw [h4 d h1]
      exact h)
theorem PlB.of {n : Nat} {x : PV} (h : Pl n x) : PlB n x := by
  induction h with
  | non n => exact .non n
  | int n i => exact .int n i
  | str n x h => exact .str n x h
  | lst n xs h ih => exact .lst n xs ih
  | tup n xs h ih => exact .tup n xs ih
end Pu

/-! Pu16: enumerate over tuples -/
namespace PySem
open Sem (wp)
open AutoSeq1 (wpAny_loadPart')
theorem meets_enumerate_newTu (l : Addr) (items : Array Value) (n : Nat) (dct : Option Addr) (sl : Array (Option Value)) :
    Meets (Builtin.«enumerate.__new__» ⟨[.type "enumerate", .ref l], []⟩) (fun _ R s => s.heap.get? l = some { cls := .type "tuple", dict := dct, data := .seq items n, slots := sl } ∧
      R (.ok (.ret (.ref (s.heap.push { cls := .type "tuple_iterator", data := .fields #[.ref l, .int 0 0] }).objs.size)))
        { s with heap := (s.heap.push { cls := .type "tuple_iterator", data := .fields #[.ref l, .int 0 0] }).push { cls := .type "enumerate", data := .fields #[.none, .bool false, .ref s.heap.objs.size, rawInt 0, .none, .none] } }) :=
  .of_wp fun prog w A R s h => by
    obtain ⟨hp, g, d, tk, os⟩ := s; obtain ⟨hl, h⟩ := h
    have hsub := sub_enumerate
    have hL : Heap.IsTuple (Shared.heap ⟨hp, g, d, tk, os⟩) l items := ⟨_, hl, rfl, n, rfl⟩
    wp_walk using wpAny_loadPart' hl
    refine wpAny_stack_any fun st => wpAny_pure ?_
    split
    · rename_i c _ _ _ _ _
      cases (c == Value.type "enumerate")
      · wp_walk using wpAny_loadPart' hl, wpAny_pyIter_tuple hL
        exact ⟨_, rfl, h⟩
      · wp_walk using wpAny_loadPart' hl, wpAny_pyIter_tuple hL
        exact ⟨_, rfl, h⟩
    · wp_walk using wpAny_loadPart' hl, wpAny_pyIter_tuple hL
      exact ⟨_, rfl, h⟩
section
variable {prog : Program} {w : World} {A : Around} {E : Value → Shared → Prop} {s : Shared}
theorem call_enumerate_tuple {l : Addr} {items : Array Value} {Q : Value → Shared → Prop} (hL : s.heap.IsTuple l items)
    (h : ∀ h', IsEnum h' (s.heap.objs.size + 1) s.heap.objs.size 0 .none → h'.IsTupleIter s.heap.objs.size l 0 → h'.objs.size = s.heap.objs.size + 2 →
      (∀ b o, s.heap.get? b = some o → h'.get? b = some o) → Q (.ref (s.heap.objs.size + 1)) { s with heap := h' }) :
    wpAny (model prog w) A (call (.type "enumerate") [.ref l]) Q E s := by
  obtain ⟨⟨c, dct, dt, sl⟩, hl, hc, n, hd⟩ := hL
  replace hc : c = .type "tuple" := hc
  replace hd : dt = .seq items n := hd
  subst hc hd
  refine callType_new F.called_enumerate (by decide) (F.typeCall_enumerate_1 _) (F.newCall_enumerate_1 _) (fun obj => F.args_object_init_2 obj _) F.entry_enumerate_new
    (meets_enumerate_newTu l items n dct sl) ⟨hl, ?_⟩
  have hz : (s.heap.push { cls := .type "tuple_iterator", data := .fields #[.ref l, .int 0 0] }).objs.size = s.heap.objs.size + 1 := Heap.size_push ..
  show _ ∧ _
  rw [hz]
  have he : IsEnum ((s.heap.push { cls := .type "tuple_iterator", data := .fields #[.ref l, .int 0 0] }).push
      { cls := .type "enumerate", data := .fields #[.none, .bool false, .ref s.heap.objs.size, rawInt 0, .none, .none] }) (s.heap.objs.size + 1) s.heap.objs.size 0 .none := by
    have := Heap.get?_push_size (s.heap.push { cls := .type "tuple_iterator", data := .fields #[.ref l, .int 0 0] })
      (o := { cls := .type "enumerate", data := .fields #[.none, .bool false, .ref s.heap.objs.size, rawInt 0, .none, .none] }) rfl
    rw [hz] at this; exact this
  refine ⟨⟨_, he, rfl⟩, h _ he ⟨_, Heap.get?_push_of_some _ (Heap.get?_push_size _ rfl), rfl, rfl⟩ (by rw [Heap.size_push, hz]) fun b o x => Heap.get?_push_of_some _ (Heap.get?_push_of_some _ x)⟩
theorem draws_tuple {it l : Addr} {items : Array Value} (hh : A.handled = none) (hne : l ≠ it) : Draws prog w A it [it, l] items.size (fun i x => items[i]? = some x) (fun i h => h.IsTupleIter it l i ∧ h.IsTuple l items) where
  live := fun i h st => let ⟨⟨o, e, _⟩, _⟩ := st; ⟨o, e⟩
  frame := fun i h h' st k => by
    obtain ⟨hit, o, e, r⟩ := st
    exact ⟨hit.at fun o q => k it (by simp) o q, o, k l (by simp) o e, r⟩
  item := fun i s Q E hi st hQ => by
    obtain ⟨hit, hl⟩ := st
    refine RZ.nextOf_tuple_item hit hl (x := items[i]) (by simp [hi]) fun h' hit' sb => hQ _ h' s.toks (by simp [hi]) ⟨hit', ?_⟩ sb
    obtain ⟨o, e, r⟩ := hl
    exact ⟨o, (sb.2 l hne).trans e, r⟩
  done := fun s Q E st hE => by
    obtain ⟨hit, hl⟩ := st
    exact RZ.nextOf_tuple_end hh hit hl (by simp) hE
end
end PySem
namespace Pu
open PySem PySem.Spec PyProof.Rows L2 Lay
/-- the tuple at a, each item in a new pair -/
def IteT (K : PySem.W.Frag) (a : Addr) : It :=
  ⟨fun i H => ∃ (xs : List V) (x : V), SqT K H a xs ∧ xs[i]? = some x, fun i H v H' => ∃ T x, v = .ref T ∧ H T = none ∧ H' = upd H T (.tup [.int (i : Nat), x]) ∧ ∀ xs, SqT K H a xs → xs[i]? = some x, fun i H => ∃ xs : List V, SqT K H a xs ∧ xs.length ≤ i⟩
theorem turn_enumT {P : Program} {w : World} {K : PySem.W.Frag} {elts : List Expr} {kk : Nat} {tpos : PySem.Pos} (a e it : Addr) :
    Turn P w K (.Tuple elts kk tpos) (IteT K a) [e, it] e (fun i h => (∃ old, IsEnum h e it ((i : Nat) : Int) old) ∧ h.IsTupleIter it a i ∧ e ≠ it ∧ a ≠ it ∧ e ≠ a) where
  mem := by simp
  obj := fun i h st b hb => by
    obtain ⟨⟨old, he⟩, ⟨o, ho, hc, hd⟩, _⟩ := st
    have e' : b = e ∨ b = it := by simpa using hb
    rcases e' with z | z
    · rw [z]; exact ⟨_, he, fun v q => nomatch q⟩
    · rw [z]; exact ⟨o, ho, fun v q => by rw [hd] at q; cases q⟩
  keep := fun i h h' st k => let ⟨⟨old, he⟩, hi, hne⟩ := st; ⟨⟨old, k e (by simp) _ he⟩, hi.at fun o q => k it (by simp) o q, hne⟩
  item := by
    intro X hP hw hK hc i pins s σ H E I hf st hg
    subst hP hw hK
    obtain ⟨⟨old, he⟩, hit, hne, hai, hea⟩ := st
    obtain ⟨xs, x, hq, hx⟩ := hg
    obtain ⟨its, rv, p, hz⟩ := I.tuple hq
    obtain ⟨u, hu, ru⟩ := rv.get hx
    have hu' : its.toArray[i]? = some u := by simpa using hu
    have hlt : i < its.toArray.size := by
      rcases Nat.lt_or_ge i its.toArray.size with h | h
      · exact h
      · rw [Array.getElem?_eq_none h] at hu'; cases hu'
    have hel : e < s.heap.objs.size := Heap.lt_size he
    have hil : it < s.heap.objs.size := by obtain ⟨_, q, _⟩ := hit; exact Heap.lt_size q
    refine wpAny_pyNext_enum_itemD (draws_tuple (A := X.A.in1) (I.ok.hd hc) hai) he ⟨hit, p⟩ hlt hne (by simp [hne, hea]) fun x' h' tk hx' ho hst hT hsz hk => ?_
    obtain rfl : x' = u := by
      have hx' : its.toArray[i]? = some x' := hx'
      rw [hu'] at hx'
      exact (Option.some.inj hx').symm
    obtain ⟨hit', _⟩ := hst
    refine ⟨_, rfl, wpAny_letOwnedTupleGo_enum (s := { s with heap := h', toks := tk + 1 }) ho fun h'' he' sb => ?_⟩
    have hT2 : h''.get? s.heap.objs.size = some { cls := .type "tuple", data := .seq #[.int i tk, x'] } := (sb.2 _ (Nat.ne_of_gt hel)).trans hT
    have new : ObjOk X.prog X.w (upd H s.heap.objs.size (.tup [.int (i : Nat), x])) h'' s.heap.objs.size (.tup [.int (i : Nat), x]) :=
      ⟨by show 2 ≤ sizeLine; decide, [.int i tk, x'], .cons ⟨_, rfl⟩ (.cons ru .nil), ⟨_, hT2, rfl, _, rfl⟩⟩
    have I1 : Inv X pins σ (upd H s.heap.objs.size (.tup [.int (i : Nat), x])) { s with heap := h'', toks := tk + 1 } :=
      I.turnedNew (ch := [e, it]) (fun b ob hb q => (sb.2 b (fun z => hb (by simp [z]))).trans (hk b ob (fun z => hb (by simp [z])) (fun z => hb (by simp [z])) q)) hf (Nat.le_refl _) new
    refine ⟨.ref s.heap.objs.size, _, I1, rfl, ⟨_, x, rfl, I.hok.fresh (Nat.le_refl _), rfl, fun ys hy => by rw [I.tuple_inj hy hq]; exact hx⟩, ⟨⟨x', ?_⟩, hit'.at fun o q => (sb.2 it (Ne.symm hne)).trans q, hne, hai, hea⟩, fun b hb => ?_⟩
    · have e1 : ((i + 1 : Nat) : Int) = (i : Int) + 1 := by omega
      rw [e1]; exact he'
    · have hb' : b < s.heap.objs.size := by
        have e' : b = e ∨ b = it := by simpa using hb
        rcases e' with z | z
        · rw [z]; exact hel
        · rw [z]; exact hil
      rw [upd_ne (Nat.ne_of_lt hb')]
      exact (hf b hb).1
  done := by
    intro X hP hw hK hc i pins s σ H E I hf st hg
    subst hP hw hK
    obtain ⟨⟨old, he⟩, hit, hne, hai, hea⟩ := st
    obtain ⟨xs, hq, hx⟩ := hg
    obtain ⟨its, rv, p, hz⟩ := I.tuple hq
    obtain ⟨f0, f1, f2, f3, f4, f5⟩ := hf it (by simp)
    have hl := rv.length
    have hT : s.TypeIs (.ref e) "enumerate" := ⟨_, he, rfl⟩
    unfold pyNext
    refine wpAny_bind (wpAny_attempt (wpAny_callSpecial?_slot (name := Str.ofString "__next__") hT PySem.F.slot_enumerate_next
      (wpAny_call_entry PySem.F.slot_enumerate_next hT PySem.F.entry_enumerate_next ?_ (PySem.F.args_enumerate_next_1 _))))
    show wpAny _ _ (field (.ref e) 2 >>= _) _ _ _
    refine wpAny_bind (wpAny_field he rfl (x := .ref it) rfl ?_)
    refine wpAny_bind (RZ.nextOf_tuple_end (I.ok.hd hc) hit p (by simp; omega) fun h' x he' hx' => ?_)
    obtain ⟨o, ho, hc⟩ := hx'
    refine wpAny_bind (wpAny_isInstance (T := "StopIteration") (b := true) ⟨o, ho, hc⟩ isSubtype_stop ?_)
    exact wpAny_pure ⟨rfl, I.turned (t' := s.toks) (fun b o hb q => he' b o hb q) f0 f1 f3 f4 f5⟩
  self := fun A i s Q E st h => let ⟨⟨_, he⟩, _⟩ := st; wpAny_pyIter_enum he h
def iEnumA (K : PySem.W.Frag) (ta : TA) : TI := fun σ H R => ta σ H fun vs H1 => (∃ a xs, vs = [.ref a] ∧ SqL K H1 a xs ∧ R (Ite K a) H1) ∨ ∃ a xs, vs = [.ref a] ∧ SqT K H1 a xs ∧ R (IteT K a) H1
theorem pi_enumA {X : Cx} {e : Expr} {ta : TA} {p pos tpos : PySem.Pos} {elts : List Expr} {kk : Nat} (hg : Gl X "enumerate") (hm : X.mg "enumerate" = none) (ha : PA X [e] ta) (hs : starEach [e] X.env = [(false, eval e X.env)] := by rfl) :
    PI X (.Tuple elts kk tpos) (.Call (.Name "enumerate" p) [e] [] pos) (iEnumA X.K ta) := by
  refine ⟨fun pins s σ H R I h => ?_⟩
  refine Call_ (ld_blt I hg hm boot_enumerate (PyProof.Rows.callWith_type1 (thn (ha.run pos pins s σ H _ I h) fun us s1 ⟨vs, H1, I1, r1, q1⟩ => ?_) hs rfl))
  rcases q1 with ⟨a, xs, ex, hq, q⟩ | ⟨a, xs, ex, hq, q⟩
  · subst ex
    cases r1 with
    | cons r rr =>
      cases rr
      cases r
      obtain ⟨its, rv, p', hz⟩ := I1.list hq
      refine call_enumerate_list p'.isList fun h' he hit hsz hk => wpAny_pyIter_enum he ?_
      have I2 : Inv X pins σ H1 { s1 with heap := h' } := I1.kept (t' := s1.toks) hk
      refine ⟨s1.heap.objs.size + 1, [s1.heap.objs.size + 1, s1.heap.objs.size], _, _, H1, rfl, I2, turn_enum a (s1.heap.objs.size + 1) s1.heap.objs.size, ⟨⟨.none, he⟩, hit, Nat.succ_ne_self _⟩, fun b hb => ?_, q⟩
      have e' : b = s1.heap.objs.size + 1 ∨ b = s1.heap.objs.size := by simpa using hb
      have hle : s1.heap.objs.size ≤ b := by
        rcases e' with z | z
        · rw [z]; exact Nat.le_add_right _ _
        · rw [z]; exact Nat.le_refl _
      exact I1.fpOk hle (I1.hok.fresh hle)
  · subst ex
    cases r1 with
    | cons r rr =>
      cases rr
      cases r
      obtain ⟨its, rv, p', hz⟩ := I1.tuple hq
      have hal : a < s1.heap.objs.size := by obtain ⟨_, q', _⟩ := p'; exact Heap.lt_size q'
      refine call_enumerate_tuple p' fun h' he hit hsz hk => wpAny_pyIter_enum he ?_
      have I2 : Inv X pins σ H1 { s1 with heap := h' } := I1.kept (t' := s1.toks) hk
      refine ⟨s1.heap.objs.size + 1, [s1.heap.objs.size + 1, s1.heap.objs.size], _, _, H1, rfl, I2, turn_enumT a (s1.heap.objs.size + 1) s1.heap.objs.size, ⟨⟨.none, he⟩, hit, Nat.succ_ne_self _, Nat.ne_of_lt hal, Nat.ne_of_gt (Nat.lt_succ_of_lt hal)⟩, fun b hb => ?_, q⟩
      have e' : b = s1.heap.objs.size + 1 ∨ b = s1.heap.objs.size := by simpa using hb
      have hle : s1.heap.objs.size ≤ b := by
        rcases e' with z | z
        · rw [z]; exact Nat.le_add_right _ _
        · rw [z]; exact Nat.le_refl _
      exact I1.fpOk hle (I1.hok.fresh hle)
/-- enumerate(list or tuple) -/
def iEnA (pa : PXA) : PXI := fun γ K E => pa γ (fun xs γ1 => match xs with
  | [.lst ys] => K (srcE ys) γ1
  | [.tup ys] => K (srcE ys) γ1
  | _ => False) E
theorem ji_enumA {X : Cx} {Ex : WX} {tg e : Expr} {pa : PXA} (h : PI X tg e (iEnumA X.K (tA X.K Ex pa))) : JI X Ex tg e (iEnA pa) := PI.imp h fun σ H R ⟨R0, G, γ, Kp, Ep, A, h, k, x⟩ =>
  ⟨R0, G, γ, _, Ep, A, h, fun vs H1 G1 ys γ1 s1 A1 r1 h1 => by
    try dsimp only at h1
    split at h1
    · cases r1 with | cons r r' =>
        cases r'
        cases r with | lst g r =>
          refine .inl ⟨_, _, rfl, SqL.of (A1.gh _ _ g), k _ H1 G1 _ γ1 s1 A1 (fun i R2 H2 G2 σ2 γ2 s2 A2 => ⟨fun hi => ?_, fun hi => ?_⟩) h1⟩
          · obtain ⟨x, ex⟩ := lt_get (xs := _) hi
            obtain ⟨v, ev, rv⟩ := r.get ex
            refine ⟨⟨_, v, SqL.of (A2.gh _ _ (s2 _ _ g)), ev⟩, fun v' H3 hy => ?_⟩
            obtain ⟨T, w, rfl, nT, rfl, hy⟩ := hy
            have := hy _ (SqL.of (A2.gh _ _ (s2 _ _ g)))
            rw [ev] at this
            cases this
            obtain ⟨A', s, g'⟩ := A2.newG (o := .tup _) nT
            exact ⟨_, _, ⟨x, ex, rfl⟩, s, A', .tup (.inl g') (.cons (.int _) (.cons ((rv.same s2).same s) .nil))⟩
          · exact ⟨_, SqL.of (A2.gh _ _ (s2 _ _ g)), by rw [r.len]; exact hi⟩
    · cases r1 with | cons r r' =>
        cases r'
        cases r with | tup g r =>
          refine .inr ⟨_, _, rfl, g.sq A1.gh, k _ H1 G1 _ γ1 s1 A1 (fun i R2 H2 G2 σ2 γ2 s2 A2 => ⟨fun hi => ?_, fun hi => ?_⟩) h1⟩
          · obtain ⟨x, ex⟩ := lt_get (xs := _) hi
            obtain ⟨v, ev, rv⟩ := r.get ex
            have sq := (tupr_same s2 g).sq A2.gh
            refine ⟨⟨_, v, sq, ev⟩, fun v' H3 hy => ?_⟩
            obtain ⟨T, w, rfl, nT, rfl, hy⟩ := hy
            have := hy _ sq
            rw [ev] at this
            cases this
            obtain ⟨A', s, g'⟩ := A2.newG (o := .tup _) nT
            exact ⟨_, _, ⟨x, ex, rfl⟩, s, A', .tup (.inl g') (.cons (.int _) (.cons ((rv.same s2).same s) .nil))⟩
          · exact ⟨_, (tupr_same s2 g).sq A2.gh, by rw [r.len]; exact hi⟩
    · exact h1.elim, x⟩
end Pu

/-! Pu17: x or y, x and y of any values; x in ys, x not in ys of data; list(zip(a, b)) -/
namespace Pu
open PySem PySem.Spec PyProof.Rows L2 Lay
section
variable {X : Cx} {Ex : WX} {a b : Expr} {p q : PX} {pos : PySem.Pos} {rest : List Expr}
def pOrT (p q : PX) : PX := fun γ K E => p γ (fun x γ1 => truP x fun b => if b = true then K x γ1 else q γ1 K E) E
def pAndT (p q : PX) : PX := fun γ K E => p γ (fun x γ1 => truP x fun b => if b = true then q γ1 K E else K x γ1) E
theorem pp_orT (ha : JV X Ex a p) (hb : JV X Ex (.BoolOp .Or (b :: rest) pos) q) : JV X Ex (.BoolOp .Or (a :: b :: rest) pos) (pOrT p q) := PE.imp (pe_orT ha hb) fun σ H Q ⟨R, G, γ, Kp, Ep, A, h, k, x⟩ =>
  ⟨R, G, γ, _, Ep, A, h, fun v H1 G1 y γ1 s1 A1 r1 h1 => by
    obtain ⟨bb, h2, h3⟩ := tru_of A1.gh r1 h1
    refine ⟨bb, h2, ?_⟩
    cases bb with
    | true => exact k v H1 G1 y γ1 s1 A1 r1 h3
    | false => exact ⟨R, G1, γ1, Kp, Ep, A1, h3, fun v' H2 G2 y' γ2 s2 A2 r2 h2 => k v' H2 G2 y' γ2 (same_trans s1 s2) A2 r2 h2, x.mono s1⟩, x⟩
theorem pp_andT (ha : JV X Ex a p) (hb : JV X Ex (.BoolOp .And (b :: rest) pos) q) : JV X Ex (.BoolOp .And (a :: b :: rest) pos) (pAndT p q) := PE.imp (pe_andT ha hb) fun σ H Q ⟨R, G, γ, Kp, Ep, A, h, k, x⟩ =>
  ⟨R, G, γ, _, Ep, A, h, fun v H1 G1 y γ1 s1 A1 r1 h1 => by
    obtain ⟨bb, h2, h3⟩ := tru_of A1.gh r1 h1
    refine ⟨bb, h2, ?_⟩
    cases bb with
    | false => exact k v H1 G1 y γ1 s1 A1 r1 h3
    | true => exact ⟨R, G1, γ1, Kp, Ep, A1, h3, fun v' H2 G2 y' γ2 s2 A2 r2 h2 => k v' H2 G2 y' γ2 (same_trans s1 s2) A2 r2 h2, x.mono s1⟩, x⟩
end
/-- a, b = x, y: plain names -/
def sPar (i j : Nat) (pa : PXA) : PXS := fun D γ => pa γ (fun xs γ1 => match xs with
  | [x, y] => D.nx ((γ1.set i (.sh x)).set j (.sh y))
  | _ => False) D.ex
theorem js_par {X : Cx} {Ex : WX} {st : Stmt} {i j : Nat} {pa : PXA} (h : PS X st (tPar i j (tA X.K Ex pa))) : JS X Ex st (sPar i j pa) := PS.imp h fun D σ H ⟨R, G, γ, P, A, h, E⟩ =>
  ⟨R, G, γ, _, _, A, h, fun vs H1 G1 xs γ1 s1 A1 r1 h1 => by
    try dsimp only at h1
    split at h1
    · cases r1 with | cons r r' => cases r' with | cons r2 r3 =>
        cases r3
        exact ⟨_, _, rfl, E.nx _ H1 G1 _ s1 ((A1.setS r).setS r2) h1⟩
    · exact h1.elim, E.ex σ⟩
/-- a, b, c = x, y, z: plain names -/
def sPar3 (i j l : Nat) (pa : PXA) : PXS := fun D γ => pa γ (fun xs γ1 => match xs with
  | [x, y, z] => D.nx (((γ1.set i (.sh x)).set j (.sh y)).set l (.sh z))
  | _ => False) D.ex
theorem js_par3 {X : Cx} {Ex : WX} {st : Stmt} {i j l : Nat} {pa : PXA} (h : PS X st (tPar3 i j l (tA X.K Ex pa))) : JS X Ex st (sPar3 i j l pa) := PS.imp h fun D σ H ⟨R, G, γ, P, A, h, E⟩ =>
  ⟨R, G, γ, _, _, A, h, fun vs H1 G1 xs γ1 s1 A1 r1 h1 => by
    try dsimp only at h1
    split at h1
    · cases r1 with | cons r r' => cases r' with | cons r2 r3 => cases r3 with | cons r3 r4 =>
        cases r4
        exact ⟨_, _, _, rfl, E.nx _ H1 G1 _ s1 (((A1.setS r).setS r2).setS r3) h1⟩
    · exact h1.elim, E.ex σ⟩
end Pu

/-! Pu18: zip of two byte strings; byte strings turned round -/
namespace PySem
open Sem (wp)
open PySem.W.KBw (IsBytesIter iter_typeIs)
section
variable {prog : Program} {w : World} {A : Around} {E : Value → Shared → Prop} {s : Shared} {b : Array UInt8} {t : Tok}
theorem nextOf_bytes_item {it : Addr} {i : Nat} {c : UInt8} {Q : Value → Shared → Prop} (hit : IsBytesIter s.heap it b t i) (hx : b[i]? = some c)
    (hQ : ∀ h', IsBytesIter h' it b t (i + 1) → Heap.SameBut it s.heap h' → Q (.int (c.toNat : Int) s.toks) { s with heap := h', toks := s.toks + 1 }) : wpAny (model prog w) A (Builtin.SmallTypes.nextOf (.ref it)) Q E s := by
  obtain ⟨o, ho, hc, hd⟩ := id hit
  unfold Builtin.SmallTypes.nextOf
  refine wpAny_bind (wpAny_callSpecial?_slot (name := PySem.Str.ofString "__next__") (iter_typeIs hit) PySem.W.KBw.slot_next
    (wpAny_call_entry PySem.W.KBw.slot_next (iter_typeIs hit) PySem.W.KBw.entry_next ?_ (PySem.W.KBw.args_next _)))
  show wpAny _ _ (field (.ref it) 0 >>= _) _ _ s
  refine wpAny_bind (wpAny_field ho hd (x := .bytes b t) rfl ?_)
  show wpAny _ _ (if (Value.bytes b t == Value.none) = true then _ else _) _ _ s
  rw [if_neg (show ¬ ((Value.bytes b t == Value.none) = true) from Bool.false_ne_true)]
  show wpAny _ _ (field (.ref it) 1 >>= _) _ _ s
  refine wpAny_bind (wpAny_field ho hd (x := .int i 0) rfl ?_)
  refine wpAny_bind (wpAny_of_eq (a := b) rfl ?_)
  simp only [Int.toNat_natCast, hx]
  refine wpAny_bind (wpAny_setField ho hd (by simp) (wpAny_bind (wpAny_mkInt (wpAny_pure ⟨_, rfl, wpAny_pure (hQ _ ?_ (Heap.SameBut.update ..))⟩))))
  exact ⟨_, Heap.get?_update_self _ ho (Obj.isFreed_of_fields (Obj.data_mapFields hd _)), (Obj.cls_mapFields ..).trans hc, by
    rw [Obj.data_mapFields hd]; simp [rawInt]⟩
theorem nextOf_bytes_end {it : Addr} {i : Nat} {Q : Value → Shared → Prop} (hh : A.handled = none) (hit : IsBytesIter s.heap it b t i) (hx : b[i]? = none)
    (hE : ∀ h' e, Heap.ExtBut it s.heap h' → (∃ o, h'.get? e = some o ∧ o.cls = .type "StopIteration") → E (.ref e) { s with heap := h' }) : wpAny (model prog w) A (Builtin.SmallTypes.nextOf (.ref it)) Q E s := by
  obtain ⟨o, ho, hc, hd⟩ := id hit
  unfold Builtin.SmallTypes.nextOf
  refine wpAny_bind (wpAny_callSpecial?_slot (name := PySem.Str.ofString "__next__") (iter_typeIs hit) PySem.W.KBw.slot_next
    (wpAny_call_entry PySem.W.KBw.slot_next (iter_typeIs hit) PySem.W.KBw.entry_next ?_ (PySem.W.KBw.args_next _)))
  show wpAny _ _ (field (.ref it) 0 >>= _) _ _ s
  refine wpAny_bind (wpAny_field ho hd (x := .bytes b t) rfl ?_)
  show wpAny _ _ (if (Value.bytes b t == Value.none) = true then _ else _) _ _ s
  rw [if_neg (show ¬ ((Value.bytes b t == Value.none) = true) from Bool.false_ne_true)]
  show wpAny _ _ (field (.ref it) 1 >>= _) _ _ s
  refine wpAny_bind (wpAny_field ho hd (x := .int i 0) rfl ?_)
  refine wpAny_bind (wpAny_of_eq (a := b) rfl ?_)
  simp only [Int.toNat_natCast, hx]
  refine wpAny_bind (wpAny_rule (wpAny_bind (wpAny_setField ho hd (by simp) ?_)))
  show wpAny _ _ (newExc (.type "StopIteration") [] >>= _) _ _ _
  refine wpAny_bind ?_
  simp only [newExc, newTuple]
  refine wpAny_bind (wpAny_newObj_type ?_ (by size_fits))
  refine wpAny_bind (m := firstArgMember _ _) (wpAny_of_eq (a := Value.none) (by first | rfl | (simp only [firstArgMember]; rfl)) ?_)
  refine wpAny_newObj_type ?_ (by size_fits)
  simp only [raiseNew]
  refine wpAny_bind (wpAny_handled ?_)
  first | rw [show A.in1.handled = none from hh] | rw [hh]
  refine wpAny_bind (wpAny_pure (wpAny_throw ?_))
  exact hE _ _ (((Heap.SameBut.update ..).extBut.push _).push _) ⟨_, Heap.get?_push_size _ rfl, rfl⟩
theorem draws_bytes {it : Addr} (hh : A.handled = none) (b : Array UInt8) (t : Tok) : Draws prog w A it [it] b.size (fun i x => ∃ c u, b[i]? = some c ∧ x = .int (c.toNat : Int) u) (fun i h => IsBytesIter h it b t i) where
  live := fun i h st => let ⟨o, e, _⟩ := st; ⟨o, e⟩
  frame := fun i h h' st k => let ⟨o, e, r⟩ := st; ⟨o, k it (by simp) o e, r⟩
  item := fun i s Q E hi st hQ => nextOf_bytes_item st (c := b[i]) (by simp [hi]) fun h' hit' sb => hQ _ h' _ ⟨_, _, by simp [hi], rfl⟩ hit' sb
  done := fun s Q E st hE => nextOf_bytes_end hh st (by simp) hE
theorem begins_bytes (b : Array UInt8) (t : Tok) : Begins (.bytes b t) { cls := .type "bytes_iterator", data := .fields #[.bytes b t, .int 0 0] } fun _ => True where
  iter := fun prog w A E s Q _ h => PySem.W.KBw.pyIter_bytes h
  keeps := fun _ _ _ _ => trivial
  free := rfl
end
end PySem
namespace Pu
open PySem PySem.Spec PyProof.Rows L2 Lay
open PySem.W.KBw (IsBytesIter iter_typeIs)
/-- the bytes of a and b, side by side, in new pairs -/
def ItzB (a b : Array UInt8) : It :=
  ⟨fun i H => i < a.size ∧ i < b.size,
    fun i H v H' => ∃ T x y, v = .ref T ∧ H T = none ∧ H' = upd H T (.tup [.int x, .int y]) ∧ (bi a)[i]? = some x ∧ (bi b)[i]? = some y,
    fun i H => a.size ≤ i ∨ b.size ≤ i⟩
theorem bi_get {b : Array UInt8} {i : Nat} {c : UInt8} (h : b[i]? = some c) : (bi b)[i]? = some (c.toNat : Int) := by
  have h : b.toList[i]? = some c := by rw [Array.getElem?_toList]; exact h
  show (b.toList.map fun c => ((c.toNat : Nat) : Int))[i]? = _
  rw [List.getElem?_map, h]
  rfl
theorem turn_zipB {P : Program} {w : World} {K : PySem.W.Frag} {elts : List Expr} {kk : Nat} {tpos : PySem.Pos} {a b : Array UInt8} {t1 t2 : Tok} {z TI TO i1 i2 : Addr} (D : ZipSep2 z TI TO i1 i2 [i1] [i2]) :
    Turn P w K (.Tuple elts kk tpos) (ItzB a b) [z, TI, TO, i1, i2] z (fun i h => IsZip h z TI TO .none ∧ IsTupOf2 h TI (.ref i1) (.ref i2) ∧ (∃ x y, IsTupOf2 h TO x y) ∧ IsBytesIter h i1 a t1 i ∧ IsBytesIter h i2 b t2 i ∧ i ≤ a.size ∧ i ≤ b.size) where
  mem := by simp
  obj := fun i h st c hc => by
    obtain ⟨hz, hTI, ⟨x, y, hTO⟩, ⟨o1, e1, _, d1⟩, ⟨o2, e2, _, d2⟩, _⟩ := st
    have e' : c = z ∨ c = TI ∨ c = TO ∨ c = i1 ∨ c = i2 := by simpa using hc
    rcases e' with q | q | q | q | q
    · rw [q]; exact ⟨_, hz, fun v q => nomatch q⟩
    · rw [q]; exact ⟨_, hTI, fun v q => nomatch q⟩
    · rw [q]; exact ⟨_, hTO, fun v q => nomatch q⟩
    · rw [q]; exact ⟨o1, e1, fun v q => by rw [d1] at q; cases q⟩
    · rw [q]; exact ⟨o2, e2, fun v q => by rw [d2] at q; cases q⟩
  keep := fun i h h' st k => by
    obtain ⟨hz, hTI, ⟨x, y, hTO⟩, ⟨o1, e1, r1⟩, ⟨o2, e2, r2⟩, hl⟩ := st
    exact ⟨k z (by simp) _ hz, k TI (by simp) _ hTI, ⟨x, y, k TO (by simp) _ hTO⟩, ⟨o1, k i1 (by simp) _ e1, r1⟩, ⟨o2, k i2 (by simp) _ e2, r2⟩, hl⟩
  item := by
    intro X hP hw hK hc i pins s σ H E I hf st hg
    subst hP hw hK
    obtain ⟨hz, hTI, ⟨x0, y0, hTO⟩, h1, h2, hl1, hl2⟩ := st
    obtain ⟨g1, g2⟩ := hg
    have hzl : z < s.heap.objs.size := Heap.lt_size hz
    refine wpAny_pyNext_zipD2_item D (draws_bytes (A := X.A.in1) (I.ok.hd hc) a t1) (draws_bytes (A := X.A.in1) (I.ok.hd hc) b t2) hz hTI hTO h1 h2 g1 g2 fun u u2 h' tk p1 p2 z' TO' h1' h2' hT hsz hk => ?_
    obtain ⟨c1, k1, hc1, rfl⟩ := p1
    obtain ⟨c2, k2, hc2, rfl⟩ := p2
    refine ⟨_, rfl, wpAny_letOwnedTupleGo_zip (s := { s with heap := h', toks := tk }) z' fun h'' z'' sb => ?_⟩
    have hT2 : h''.get? s.heap.objs.size = some { cls := .type "tuple", data := .seq #[.int (c1.toNat : Int) k1, .int (c2.toNat : Int) k2] } := (sb.2 _ (Nat.ne_of_gt hzl)).trans hT
    have new : ObjOk X.prog X.w (upd H s.heap.objs.size (.tup [.int (c1.toNat : Int), .int (c2.toNat : Int)])) h'' s.heap.objs.size (.tup [.int (c1.toNat : Int), .int (c2.toNat : Int)]) :=
      ⟨by show 2 ≤ sizeLine; decide, [.int (c1.toNat : Int) k1, .int (c2.toNat : Int) k2], .cons ⟨_, rfl⟩ (.cons ⟨_, rfl⟩ .nil), ⟨_, hT2, rfl, _, rfl⟩⟩
    have I1 : Inv X pins σ (upd H s.heap.objs.size (.tup [.int (c1.toNat : Int), .int (c2.toNat : Int)])) { s with heap := h'', toks := tk } :=
      I.turnedNew (t' := tk) (ch := [z, TI, TO, i1, i2]) (fun c o hb q => (sb.2 c (fun q' => hb (by simp [q']))).trans (hk c o (fun q' => hb (by simp [q'])) (fun q' => hb (by simp [q'])) (fun q' => hb (by simp [q'])) (fun q' => hb (by simp [q'])) q)) hf (Nat.le_refl _) new
    refine ⟨.ref s.heap.objs.size, _, I1, rfl, ⟨_, _, _, rfl, I.hok.fresh (Nat.le_refl _), rfl, bi_get hc1, bi_get hc2⟩, ⟨z'', ?_, ⟨.int (c1.toNat : Int) k1, .int (c2.toNat : Int) k2, ?_⟩, ?_, ?_, g1, g2⟩, fun c hcm => ?_⟩
    · exact (sb.2 _ D.TIz).trans (hk _ _ D.TIz D.TITO D.TIi1 D.TIi2 hTI)
    · exact (sb.2 _ D.TOz).trans TO'
    · obtain ⟨o1, e1, r1⟩ := h1'
      exact ⟨o1, (sb.2 _ D.zi1.symm).trans e1, r1⟩
    · obtain ⟨o2, e2, r2⟩ := h2'
      exact ⟨o2, (sb.2 _ D.zi2.symm).trans e2, r2⟩
    · have hlt : c < s.heap.objs.size := by
        have e' : c = z ∨ c = TI ∨ c = TO ∨ c = i1 ∨ c = i2 := by simpa using hcm
        rcases e' with q | q | q | q | q
        · rw [q]; exact hzl
        · rw [q]; exact Heap.lt_size hTI
        · rw [q]; exact Heap.lt_size hTO
        · rw [q]; obtain ⟨_, e1, _⟩ := h1; exact Heap.lt_size e1
        · rw [q]; obtain ⟨_, e2, _⟩ := h2; exact Heap.lt_size e2
      rw [upd_ne (Nat.ne_of_lt hlt)]
      exact (hf c hcm).1
  done := by
    intro X hP hw hK hc i pins s σ H E I hf st hg
    subst hP hw hK
    obtain ⟨hz, hTI, ⟨x0, y0, hTO⟩, h1, h2, hl1, hl2⟩ := st
    have hend : i = a.size ∨ i = b.size := by
      rcases hg with q | q
      · exact .inl (Nat.le_antisymm hl1 q)
      · exact .inr (Nat.le_antisymm hl2 q)
    exact wpAny_pyNext_zipD2_end D (draws_bytes (A := X.A.in1) (I.ok.hd hc) a t1) (draws_bytes (A := X.A.in1) (I.ok.hd hc) b t2) hz hTI hTO h1 h2 hl1 hl2 hend fun h' tk hk => ⟨rfl, I.turnedL (t' := tk) (ch := [z, TI, TO, i1, i2]) (fun c o hb q =>
      hk c o (fun q' => hb (by simp [q'])) (fun q' => hb (by simp [q'])) (fun q' => hb (by simp [q'])) (fun q' => hb (by simp [q'])) q) hf⟩
  self := fun A i s Q E st h => wpAny_pyIter_zip st.1 h
def iZipB (ta : TA) : TI := fun σ H R => ta σ H fun vs H1 => ∃ a b, vs = [.byt a, .byt b] ∧ R (ItzB a b) H1
theorem pi_zipB {X : Cx} {e e2 : Expr} {ta : TA} {p pos tpos : PySem.Pos} {elts : List Expr} {kk : Nat} (hg : Gl X "zip") (hm : X.mg "zip" = none) (ha : PA X [e, e2] ta)
    (hs : starEach [e, e2] X.env = (false, eval e X.env) :: starEach [e2] X.env := by rfl) (hpl : (backTo pos (starEach [e2] X.env)).any (·.1) = false := by rfl) :
    PI X (.Tuple elts kk tpos) (.Call (.Name "zip" p) [e, e2] [] pos) (iZipB ta) := by
  refine ⟨fun pins s σ H R I h => ?_⟩
  refine Call_ (ld_blt I hg hm PyProof.Rows.boot_zip (PyProof.Rows.callWith_type1 (thn (ha.run pos pins s σ H _ I h) fun us s1 ⟨vs, H1, I1, r1, q1⟩ => ?_) hs hpl))
  obtain ⟨a, b, ex, q⟩ := q1
  subst ex
  cases r1 with
  | cons r rr =>
    cases rr with
    | cons r' rr =>
      cases rr
      obtain ⟨t1, rfl⟩ : ∃ t, _ = Value.bytes a t := r
      obtain ⟨t2, rfl⟩ : ∃ t, _ = Value.bytes b t := r'
      have fresh5 : ∀ c, c ∈ [s1.heap.objs.size + 4, s1.heap.objs.size + 2, s1.heap.objs.size + 3, s1.heap.objs.size, s1.heap.objs.size + 1] → FpOk X pins H1 c := fun c hcm => by
        have e' : c = s1.heap.objs.size + 4 ∨ c = s1.heap.objs.size + 2 ∨ c = s1.heap.objs.size + 3 ∨ c = s1.heap.objs.size ∨ c = s1.heap.objs.size + 1 := by simpa using hcm
        have hle : s1.heap.objs.size ≤ c := by
          rcases e' with z | z | z | z | z
          · rw [z]; exact Nat.le_add_right _ _
          · rw [z]; exact Nat.le_add_right _ _
          · rw [z]; exact Nat.le_add_right _ _
          · rw [z]; exact Nat.le_refl _
          · rw [z]; exact Nat.le_add_right _ _
        exact I1.fpOk hle (I1.hok.fresh hle)
      refine zip_begins2 (begins_bytes a t1) (begins_bytes b t2) trivial trivial fun h' hz hTI hTO h1 h2 hsz hk => wpAny_pyIter_zip hz ?_
      have I2 : Inv X pins σ H1 { s1 with heap := h' } := I1.kept (t' := s1.toks) hk
      have D : ZipSep2 (s1.heap.objs.size + 4) (s1.heap.objs.size + 2) (s1.heap.objs.size + 3) s1.heap.objs.size (s1.heap.objs.size + 1) [s1.heap.objs.size] [s1.heap.objs.size + 1] := by
        constructor <;> simp
      exact ⟨s1.heap.objs.size + 4, [s1.heap.objs.size + 4, s1.heap.objs.size + 2, s1.heap.objs.size + 3, s1.heap.objs.size, s1.heap.objs.size + 1], _, _, H1, rfl, I2, turn_zipB D, ⟨hz, hTI, ⟨_, _, hTO⟩, ⟨_, h1, rfl, rfl⟩, ⟨_, h2, rfl, rfl⟩, Nat.zero_le _, Nat.zero_le _⟩, fresh5, q⟩
/-- zip(a, b) of byte strings -/
def srcZB (a b : Array UInt8) : Src := ⟨min a.size b.size, fun i x => ∃ y z, (bi a)[i]? = some y ∧ (bi b)[i]? = some z ∧ x = .tup [.int y, .int z]⟩
def iZpB (pa : PXA) : PXI := fun γ K E => pa γ (fun xs γ1 => match xs with
  | [.byt a, .byt b] => K (srcZB a b) γ1
  | _ => False) E
theorem ji_zipB {X : Cx} {Ex : WX} {tg e : Expr} {pa : PXA} (h : PI X tg e (iZipB (tA X.K Ex pa))) : JI X Ex tg e (iZpB pa) := PI.imp h fun σ H R ⟨R0, G, γ, Kp, Ep, A, h, k, x⟩ =>
  ⟨R0, G, γ, _, Ep, A, h, fun vs H1 G1 ys γ1 s1 A1 r1 h1 => by
    try dsimp only at h1
    split at h1
    · rename_i a b
      cases r1 with | cons r r' => cases r' with | cons r2 r3 =>
        cases r3
        cases r
        cases r2
        refine ⟨_, _, rfl, k _ H1 G1 _ γ1 s1 A1 (fun i R2 H2 G2 σ2 γ2 s2 A2 => ⟨fun hi => ?_, fun hi => ?_⟩) h1⟩
        · have hi : i < min a.size b.size := hi
          refine ⟨⟨by omega, by omega⟩, fun v' H3 hy => ?_⟩
          obtain ⟨T, u, v, rfl, nT, rfl, h1', h2'⟩ := hy
          obtain ⟨A', s, g'⟩ := A2.newG (o := .tup [.int u, .int v]) nT
          exact ⟨_, _, ⟨u, v, h1', h2', rfl⟩, s, A', .tup (.inl g') (.cons (.int _) (.cons (.int _) .nil))⟩
        · have hi : min a.size b.size ≤ i := hi
          show a.size ≤ i ∨ b.size ≤ i
          omega
    · exact h1.elim, x⟩
end Pu

/-! Pu19: xs[::-1] of lists and of bytes -/
namespace Pu
open PySem PySem.Spec PyProof.Rows L2 Lay
/-- bytes in turned order -/
@[irreducible] def revA (b : Array UInt8) : Array UInt8 := PySem.W.KBs.picked b none none (some (-1))
theorem bi_revA (b : Array UInt8) : bi (revA b) = (bi b).reverse := by
  unfold revA
  exact (PySem.W.KBs.ints_picked rfl none none (some (-1))).trans (PySem.W.KBs.cut_reverse _)
theorem revA_size (b : Array UInt8) : (revA b).size = b.size := by
  have h := congrArg List.length (bi_revA b)
  rw [List.length_reverse] at h
  have e : ∀ c : Array UInt8, (bi c).length = c.size := fun c => PySem.W.KBw.ints_length c
  rwa [e, e] at h
def tRevB (te : TE) : TE := fun σ H Q => te σ H fun x H1 => ∃ b, x = .byt b ∧ b.size ≤ 16777216 ∧ Q (.byt (revA b)) H1
theorem pe_revB {X : Cx} {e : Expr} {te : TE} {k : Nat} {p1 p2 p3 pos : PySem.Pos} (he : PE X e te) : PE X (.Subscript e (.Slice none none (some (.UnaryOp .USub (.Constant (.int 1) k p1) p2)) p3) pos) (tRevB te) := by
  refine ⟨fun pins s σ H Q I h => ?_⟩
  refine Subscript_ (thn (he.run pins s σ H _ I h) fun v s1 ⟨x, H1, I1, r1, q1⟩ => ?_)
  obtain ⟨b, ex, hx, q⟩ := q1
  subst ex
  obtain ⟨t, rfl⟩ := r1
  have hst : L2.PO X (some (.UnaryOp .USub (.Constant (.int 1) k p1) p2)) (tPart (tUn (rU fun i => .int (-i)) (tC (.int 1)))) := po_some (pe_un un_neg pe_int)
  refine wpAny_Slice (thn (po_none.run pins s1 σ H1 (fun o H2 => o = none ∧ H2 = H1) I1 ⟨rfl, rfl⟩) fun vl s2 ⟨l, H2, I2, pl, el, e2⟩ => ?_)
  subst el e2
  refine thn (po_none.run pins s2 σ H2 (fun o H3 => o = none ∧ H3 = H2) I2 ⟨rfl, rfl⟩) fun vu s3 ⟨u, H3, I3, pu, eu, e3⟩ => ?_
  subst eu e3
  refine thn (hst.run pins s3 σ H3 (fun o H4 => o = some (-1) ∧ H4 = H3) I3 ⟨1, rfl, -1, rfl, rfl, rfl⟩) fun vs s4 ⟨o, H4, I4, ps, eo, e4⟩ => ?_
  subst eo e4
  cases ps with
  | int _ ks =>
  have I5 : Inv X pins σ H4 { s4 with heap := s4.heap.push { cls := .type "slice", data := .fields #[vl, vu, .int (-1) ks] } } := I4.kept (t' := s4.toks) fun b ob q => Heap.get?_push_of_some _ q
  show wpAny (model X.prog X.w) X.A (subscriptTail e (.Slice none none (some (.UnaryOp .USub (.Constant (.int 1) k p1) p2)) p3) (.bytes b t) (.ref s4.heap.objs.size)) (EP X pins σ Q) X.xe { s4 with heap := s4.heap.push { cls := .type "slice", data := .fields #[vl, vu, .int (-1) ks] } }
  refine tail_any (ops := [.bytes b t, .ref s4.heap.objs.size]) (PySem.W.typeIs_bytes _ _ _) PySem.W.FB.slot_bytes_getitem.lookup ?_ (by with_unfolding_all rfl)
  refine getItem_meets (PySem.W.typeIs_bytes _ _ _) (by decide) PySem.W.FB.slot_bytes_getitem PySem.W.FB.entry_bytes_getitem (PySem.W.FB.args_bytes_getitem_2 _ _) (PySem.W.KBs.meets_step b t _ (k := -1) (uk := ks) pl pu (by decide)) ?_
  refine ⟨Heap.IsSliceOf.new _ vl vu _, ?_, fun t' k' => ⟨.byt (revA b), _, I5.tok _, ⟨t', ?_⟩, q⟩⟩
  · have h := revA_size b
    unfold revA at h
    rw [h, sizeLine_eq]
    exact hx
  · unfold revA
    rfl
section
variable {X : Cx} {Ex : WX} {e : Expr} {p : PX} {k : Nat} {p1 p2 p3 pos : PySem.Pos}
def pRevB (p : PX) : PX := fun γ K E => p γ (fun x γ1 => match x with | .byt b => b.size ≤ 16777216 ∧ K (.byt (revA b)) γ1 | _ => False) E
theorem pp_revB (he : JV X Ex e p) : JV X Ex (.Subscript e (.Slice none none (some (.UnaryOp .USub (.Constant (.int 1) k p1) p2)) p3) pos) (pRevB p) := PE.imp (pe_revB he) fun σ H Q ⟨R, G, γ, Kp, Ep, A, h, k, x⟩ =>
  ⟨R, G, γ, _, Ep, A, h, fun v H1 G1 y γ1 s1 A1 r1 h1 => by
    try dsimp only at h1
    split at h1
    · cases r1
      exact ⟨_, rfl, h1.1, k _ H1 G1 _ γ1 s1 A1 (.byt _) h1.2⟩
    · exact h1.elim, x⟩
def pRevL (p : PX) : PX := fun γ K E => p γ (fun x γ1 => match x with | .lst xs => K (.lst xs.reverse) γ1 | _ => False) E
theorem Reps.rev {K : PySem.W.Frag} {G : Hp} : ∀ {vs : List V} {xs : List PV}, Reps K G vs xs → Reps K G vs.reverse xs.reverse
  | _, _, .nil => .nil
  | _, _, .cons h t => by
    rw [List.reverse_cons, List.reverse_cons]
    exact Reps.append (.cons h .nil) (Reps.rev t)
theorem pp_revL (he : JV X Ex e p) : JV X Ex (.Subscript e (.Slice none none (some (.UnaryOp .USub (.Constant (.int 1) k p1) p2)) p3) pos) (pRevL p) := PE.imp (pe_revL he) fun σ H Q ⟨R, G, γ, Kp, Ep, A, h, k, x⟩ =>
  ⟨R, G, γ, _, Ep, A, h, fun v H1 G1 y γ1 s1 A1 r1 h1 => by
    try dsimp only at h1
    split at h1
    · cases r1 with
      | lst g r =>
        refine ⟨_, _, rfl, SqL.of (A1.gh _ _ g), fun l nl => ?_⟩
        obtain ⟨A', s, g'⟩ := A1.newG (o := .lst _) nl
        exact k _ _ _ _ γ1 (same_trans s1 s) A' (.lst g' ((Reps.rev r).same s)) h1
    · exact h1.elim, x⟩
end
end Pu

/-! Pu20: == and != of bytes, and of tuples that hold the same (bytes too) -/
namespace Pu
open PySem PySem.Spec PyProof.Rows L2 Lay
def rFl (K : PySem.W.Frag) (neg : Bool) : R2 := fun x y H Q => (∃ a b : Array UInt8, x = .byt a ∧ y = .byt b ∧ Q (.bl (neg != decide (bi a = bi b))) H) ∨
  ∃ a b xs, x = .ref a ∧ y = .ref b ∧ SqT K H a xs ∧ SqT K H b xs ∧ (∀ z ∈ xs, flatB z = true) ∧ Q (.bl (neg != true)) H
theorem vals_eqAt {A : Around} {s : Shared} : ∀ {xs : List V} {us ws : List Value}, Vals xs us → Vals xs ws → (∀ z ∈ xs, flatB z = true) → ∀ j (h1 : j < us.length) (h2 : j < ws.length), SeqAt.EqAt A s us[j] ws[j] true
  | [], us, ws, r1, r2, hf, j, h1, h2 => by
    cases r1
    exact absurd h1 (Nat.not_lt_zero j)
  | x :: xs, us, ws, r1, r2, hf, j, h1, h2 => by
    cases r1 with
    | cons a1 b1 =>
      cases r2 with
      | cons a2 b2 =>
        cases j with
        | zero => exact eqAt_same a1 a2 (hf x List.mem_cons_self)
        | succ j => exact vals_eqAt b1 b2 (fun z hz => hf z (List.mem_cons_of_mem _ hz)) j (Nat.lt_of_succ_lt_succ h1) (Nat.lt_of_succ_lt_succ h2)
theorem op_eqF {X : Cx} (hu : X.A.units + 64 < cLine) : OpR X (compareOp .Eq) (rFl X.K false) := by
  intro pins s σ H x y v u Q I rx ry h
  rcases h with ⟨a, b, rfl, rfl, q⟩ | ⟨a, b, xs, rfl, rfl, h1, h2, hf, q⟩
  · obtain ⟨t, rfl⟩ := rx
    obtain ⟨t', rfl⟩ := ry
    refine PySem.W.KBq.eq_K rfl rfl ⟨_, H, I, ?_, q⟩
    show Value.bool _ = Value.bool _
    congr 1
    rw [Bool.false_bne]
    exact (Bool.eq_iff_iff).mpr (by simp)
  · obtain rfl : v = Value.ref a := rx
    obtain rfl : u = Value.ref b := ry
    obtain ⟨us, r1, p1, _⟩ := I.tuple h1
    obtain ⟨ws, r2, p2, _⟩ := I.tuple h2
    have hl : us.length = ws.length := by rw [← r1.length, ← r2.length]
    refine SeqAt.eq_tupleAt (e := fun _ => true) p1 p2 (by omega) (fun j g1 g2 => ?_) ⟨_, H, I, ?_, q⟩
    · have k := vals_eqAt (A := X.A.in1) (s := s) r1 r2 hf j (by simpa using g1) (by simpa using g2)
      simpa using k
    · show Value.bool _ = Value.bool _
      simp [hl]
theorem op_neF {X : Cx} (hu : X.A.units + 64 < cLine) : OpR X (compareOp .NotEq) (rFl X.K true) := by
  intro pins s σ H x y v u Q I rx ry h
  rcases h with ⟨a, b, rfl, rfl, q⟩ | ⟨a, b, xs, rfl, rfl, h1, h2, hf, q⟩
  · obtain ⟨t, rfl⟩ := rx
    obtain ⟨t', rfl⟩ := ry
    refine PySem.W.KBq.ne_K rfl rfl ⟨_, H, I, ?_, q⟩
    show Value.bool _ = Value.bool _
    congr 1
    rw [Bool.true_bne]
    show (!(_ == _)) = _
    congr 1
    exact (Bool.eq_iff_iff).mpr (by simp)
  · obtain rfl : v = Value.ref a := rx
    obtain rfl : u = Value.ref b := ry
    obtain ⟨us, r1, p1, _⟩ := I.tuple h1
    obtain ⟨ws, r2, p2, _⟩ := I.tuple h2
    have hl : us.length = ws.length := by rw [← r1.length, ← r2.length]
    refine SeqAt.RcNeAt.tuples (e := fun _ => true) p1 p2 (by omega) (fun j g1 g2 => ?_) _ _ _ _ ⟨_, H, I, ?_, q⟩
    · have k := vals_eqAt (A := X.A.in1) (s := s) r1 r2 hf j (by simpa using g1) (by simpa using g2)
      simpa using k
    · show Value.bool _ = Value.bool _
      simp [hl]
def flatP : PV → Bool
  | .non => true | .bl _ => true | .int _ => true | .str _ => true | .byt _ => true
  | _ => false
@[irreducible] def flP (neg : Bool) (x y : PV) (k : PV → Prop) : Prop := (∃ a b : Array UInt8, x = .byt a ∧ y = .byt b ∧ k (.bl (neg != decide (bi a = bi b)))) ∨
  ∃ xs, x = .tup xs ∧ y = .tup xs ∧ xs.all flatP = true ∧ k (.bl (neg != true))
theorem flP_b {neg : Bool} {a b : Array UInt8} {k : PV → Prop} (h : k (.bl (neg != decide (bi a = bi b)))) : flP neg (.byt a) (.byt b) k := by
  unfold flP
  exact .inl ⟨a, b, rfl, rfl, h⟩
theorem flP_t {neg : Bool} {xs : List PV} {k : PV → Prop} (hf : xs.all flatP = true) (h : k (.bl (neg != true))) : flP neg (.tup xs) (.tup xs) k := by
  unfold flP
  exact .inr ⟨xs, rfl, rfl, hf, h⟩
theorem Rep.flatE {K : PySem.W.Frag} {G : Hp} {v w : V} {x : PV} (h : Rep K G v x) (h' : Rep K G w x) (f : flatP x = true) : v = w ∧ flatB v = true := by
  cases x <;> first | (cases f; done) | (cases h; cases h'; exact ⟨rfl, rfl⟩)
theorem Reps.flatE {K : PySem.W.Frag} {G : Hp} : ∀ {vs ws : List V} {xs : List PV}, Reps K G vs xs → Reps K G ws xs → xs.all flatP = true → vs = ws ∧ ∀ z ∈ vs, flatB z = true
  | _, _, [], .nil, .nil, _ => ⟨rfl, fun z h => nomatch h⟩
  | _, _, x :: xs, .cons h t, .cons h' t', f => by
    rw [List.all_cons, Bool.and_eq_true] at f
    obtain ⟨e1, f1⟩ := Rep.flatE h h' f.1
    obtain ⟨e2, f2⟩ := Reps.flatE t t' f.2
    rw [e1, e2]
    refine ⟨rfl, fun z hz => ?_⟩
    rcases List.mem_cons.mp hz with hz | hz
    · rw [hz, ← e1]
      exact f1
    · exact f2 z (e2 ▸ hz)
theorem bin_fl {K : PySem.W.Frag} {neg : Bool} : Bin K (rFl K neg) (flP neg) := fun {R G H σ γ v w x y Kp Q} A rx ry q k => by
  unfold flP at q
  rcases q with ⟨a, b, rfl, rfl, q⟩ | ⟨xs, rfl, rfl, hf, q⟩
  · cases rx
    cases ry
    exact .inl ⟨a, b, rfl, rfl, k _ H G _ same_refl A (.bl _) q⟩
  · cases rx with
    | tup h1 r1 =>
      cases ry with
      | tup h2 r2 =>
        obtain ⟨e, f⟩ := Reps.flatE r1 r2 hf
        subst e
        exact .inr ⟨_, _, _, rfl, rfl, h1.sq A.gh, h2.sq A.gh, f, k _ H G _ same_refl A (.bl _) q⟩
end Pu

/-! Pu21: dicts of one's own, their keys ints or texts; sum -/
namespace Pu
open PySem PySem.Spec PyProof.Rows L2 Lay
def keyOf : PV → Option Key
  | .int i => some (.inl i)
  | .str x => some (.inr x)
  | _ => none
def dgetP (kvs : List (Key × PV)) (k : Key) : Option PV := (kvs.find? fun kv => decide (kv.1 = k)).map (·.2)
def dputP (kvs : List (Key × PV)) (k : Key) (v : PV) : List (Key × PV) :=
  if (kvs.any fun kv => decide (kv.1 = k)) = true then kvs.map (fun kv => if kv.1 = k then (kv.1, v) else kv) else kvs ++ [(k, v)]
def dmergeP (kvs more : List (Key × PV)) : List (Key × PV) := more.foldl (fun acc kv => dputP acc kv.1 kv.2) kvs
section
variable {K : PySem.W.Frag} {G : Hp}
theorem keyOf_v {v : V} {x : PV} {k : Key} (h : Rep K G v x) (e : keyOf x = some k) : v = kV k := by
  cases x <;> first | (cases e; done) | (cases e; cases h; rfl)
theorem RepK.getK : ∀ {vs : List (Key × V)} {xs : List (Key × PV)}, RepK K G vs xs → ∀ k : Key, (∀ x, dgetP xs k = some x → ∃ v, valV vs k = some v ∧ Rep K G v x) ∧ (dgetP xs k = none → valV vs k = none)
  | _, _, .nil, k => ⟨fun x h => (by cases h), fun _ => rfl⟩
  | _, _, .cons (n := n) h t, k => by
    obtain ⟨i1, i2⟩ := RepK.getK t k
    unfold dgetP valV at *
    rw [List.find?_cons, List.find?_cons]
    by_cases e : n = k
    · rw [decide_eq_true e]
      exact ⟨fun x hx => ⟨_, rfl, by cases hx; exact h⟩, fun hx => by cases hx⟩
    · rw [decide_eq_false e]
      exact ⟨i1, i2⟩
theorem RepK.len : ∀ {vs : List (Key × V)} {xs : List (Key × PV)}, RepK K G vs xs → vs.length = xs.length
  | _, _, .nil => rfl
  | _, _, .cons _ t => congrArg Nat.succ (RepK.len t)
theorem RepK.anyK : ∀ {vs : List (Key × V)} {xs : List (Key × PV)}, RepK K G vs xs → ∀ k : Key, (vs.any fun kv => decide (kv.1 = k)) = (xs.any fun kv => decide (kv.1 = k))
  | _, _, .nil, k => rfl
  | _, _, .cons _ t, k => by rw [List.any_cons, List.any_cons, RepK.anyK t k]
theorem RepK.mapK : ∀ {vs : List (Key × V)} {xs : List (Key × PV)} {v : V} {x : PV}, RepK K G vs xs → Rep K G v x → ∀ k : Key, RepK K G (vs.map fun kv => if kv.1 = k then (kv.1, v) else kv) (xs.map fun kv => if kv.1 = k then (kv.1, x) else kv)
  | _, _, _, _, .nil, _, k => .nil
  | _, _, v, x, .cons (n := n) h t, hv, k => by
    rw [List.map_cons, List.map_cons]
    by_cases e : n = k
    · rw [if_pos e, if_pos e]
      exact .cons hv (RepK.mapK t hv k)
    · rw [if_neg e, if_neg e]
      exact .cons h (RepK.mapK t hv k)
theorem RepK.snoc : ∀ {vs : List (Key × V)} {xs : List (Key × PV)} {v : V} {x : PV}, RepK K G vs xs → Rep K G v x → ∀ k : Key, RepK K G (vs ++ [(k, v)]) (xs ++ [(k, x)])
  | _, _, _, _, .nil, hv, k => .cons hv .nil
  | _, _, _, _, .cons h t, hv, k => .cons h (RepK.snoc t hv k)
theorem RepK.put {vs : List (Key × V)} {xs : List (Key × PV)} {v : V} {x : PV} (h : RepK K G vs xs) (hv : Rep K G v x) (k : Key) : RepK K G (putK vs k v) (dputP xs k x) := by
  unfold putK dputP
  rw [RepK.anyK h k]
  split
  · exact RepK.mapK h hv k
  · exact RepK.snoc h hv k
theorem RepK.mergeK : ∀ {ms : List (Key × V)} {ns : List (Key × PV)}, RepK K G ms ns → ∀ {vs : List (Key × V)} {xs : List (Key × PV)}, RepK K G vs xs → RepK K G (L2.mergeK vs ms) (dmergeP xs ns)
  | _, _, .nil, _, _, h => h
  | _, _, .cons (n := n) a t, _, _, h => RepK.mergeK t (RepK.put h a n)
end
section
variable {X : Cx} {Ex : WX} {a b e : Expr} {p q : PX} {i : Nat} {pos : PySem.Pos}
/-- d[y] of a dict of one's own -/
def pDgO (i : Nat) (q : PX) : PX := fun γ K E => q γ (fun y γ1 => match γ1[i]? with
  | some (.ow _ (.dic kvs)) => ∃ k x, keyOf y = some k ∧ dgetP kvs k = some x ∧ K x γ1
  | _ => False) E
theorem pp_dgO (hu : X.A.units + 64 < cLine) (ha : PE X a (tVar i)) (hb : JV X Ex b q) (hs : NoSl b := by exact fun _ _ => rfl) : JV X Ex (.Subscript a b pos) (fun γ K E => pSlotO i (fun γ => pDgO i q γ K E) γ) := PE.imp (pe_dget (by omega) ha hb hs) fun σ H Q ⟨R, G, γ, Kp, Ep, A, h, k, x⟩ => by
  obtain ⟨h, ad, ea⟩ := slot_at A h
  refine ⟨_, ea, R, G, γ, _, Ep, A, h, fun v H1 G1 y γ1 s1 A1 r1 h1 => ?_, x⟩
  try dsimp only at h1
  split at h1
  · rename_i a' kvs e2
    obtain ⟨k', x', ek, eg, h1⟩ := h1
    obtain ⟨e4, vs, e5, r5⟩ := own_at ea A1 e2
    cases e4
    obtain ⟨v', e6, r6⟩ := (RepK.getK r5 k').1 _ eg
    obtain rfl := keyOf_v r1 ek
    exact ⟨_, v', rfl, e6 ▸ DGet.k e5, k v' H1 G1 x' γ1 s1 A1 r6 h1⟩
  · exact h1.elim
/-- y in d, y not in d -/
def pInO (neg : Bool) (q : PX) (i : Nat) : PX := fun γ K E => q γ (fun y γ1 => match γ1[i]? with
  | some (.ow _ (.dic kvs)) => ∃ k, keyOf y = some k ∧ K (.bl (neg != (dgetP kvs k).isSome)) γ1
  | _ => False) E
def pInOB (neg : Bool) (q : PX) (i : Nat) : PXB := fun γ K E => q γ (fun y γ1 => match γ1[i]? with
  | some (.ow _ (.dic kvs)) => ∃ k, keyOf y = some k ∧ K (neg != (dgetP kvs k).isSome) γ1
  | _ => False) E
theorem din_of {neg : Bool} {σ : L2.St} {H : Hp} {Q : VK} {c : Option V → Bool} (hc : ∀ o : Option V, c o = (neg != o.isSome)) (h : tP X.K Ex (pInO neg q i) σ H Q) :
    (tP X.K Ex q) σ H fun y H1 => tVar i σ H1 fun x H2 => ∃ a o, x = .ref a ∧ DGet H2 a y o ∧ Q (.bl (c o)) H2 := by
  obtain ⟨R, G, γ, Kp, Ep, A, h, k, x⟩ := h
  refine ⟨R, G, γ, _, Ep, A, h, fun v H1 G1 y γ1 s1 A1 r1 h1 => ?_, x⟩
  try dsimp only at h1
  split at h1
  · rename_i a' kvs e2
    obtain ⟨k', ek, h1⟩ := h1
    obtain ⟨e4, _, _, vs, e5, r5⟩ := A1.ow e2
    obtain rfl := keyOf_v r1 ek
    refine ⟨_, e4, _, _, rfl, DGet.k e5, ?_⟩
    have eo : (valV vs k').isSome = (dgetP kvs k').isSome := by
      obtain ⟨g1, g2⟩ := RepK.getK r5 k'
      cases e : dgetP kvs k' with
      | none => rw [g2 e]; rfl
      | some z =>
        obtain ⟨u, e6, _⟩ := g1 z e
        rw [e6]
        rfl
    rw [hc, eo]
    exact k _ H1 G1 _ γ1 s1 A1 (.bl _) h1
  · exact h1.elim
theorem pp_inO (hu : X.A.units + 64 < cLine) (ha : PE X a (tVar i)) (hb : JV X Ex b q) (hm : behindInMarks .In a = false := by rfl) : JV X Ex (.Compare b [.In] [a] pos) (pInO false q i) := PE.imp (pe_cmp (pc_din (by omega) hb ha) hm) fun σ H Q h => din_of (c := fun o => o.isSome) (fun o => by simp) h
theorem pp_notinO (hu : X.A.units + 64 < cLine) (ha : PE X a (tVar i)) (hb : JV X Ex b q) (hm : behindInMarks .NotIn a = false := by rfl) : JV X Ex (.Compare b [.NotIn] [a] pos) (pInO true q i) := PE.imp (pe_cmp (pc_dnotin (by omega) hb ha) hm) fun σ H Q h => din_of (c := fun o => !o.isSome) (fun o => by simp) h
theorem pb_of {neg : Bool} {σ : L2.St} {H : Hp} {Q : Bool → Hp → Prop} (h : tT X.K Ex (pInOB neg q i) σ H Q) : tP X.K Ex (pInO neg q i) σ H fun x H1 => ∃ c, x = .bl c ∧ Q c H1 := by
  obtain ⟨R, G, γ, Kp, Ep, A, h, k, x⟩ := h
  exact ⟨R, G, γ, fun z γ2 => match z with | .bl b => Kp b γ2 | _ => False, Ep, A, h, fun v H1 G1 y γ1 s1 A1 r1 h1 => by
    dsimp only at h1
    split at h1
    · rename_i bb
      cases r1
      exact ⟨bb, rfl, k bb H1 G1 γ1 s1 A1 h1⟩
    · exact h1.elim, x⟩
theorem pb_inO (hu : X.A.units + 64 < cLine) (ha : PE X a (tVar i)) (hb : JV X Ex b q) (hm : behindInMarks .In a = false := by rfl) : JB X Ex (.Compare b [.In] [a] pos) (pInOB false q i) := PT.imp (pt_cmp (pc_din (by omega) hb ha) hm) fun σ H Q h => din_of (c := fun o => o.isSome) (fun o => by simp) (pb_of h)
theorem pb_notinO (hu : X.A.units + 64 < cLine) (ha : PE X a (tVar i)) (hb : JV X Ex b q) (hm : behindInMarks .NotIn a = false := by rfl) : JB X Ex (.Compare b [.NotIn] [a] pos) (pInOB true q i) := PT.imp (pt_cmp (pc_dnotin (by omega) hb ha) hm) fun σ H Q h => din_of (c := fun o => !o.isSome) (fun o => by simp) (pb_of h)
/-- d[y] = x -/
def sDput (i : Nat) (p q : PX) : PXS := fun D γ => p γ (fun x γ1 => pSlotO i (fun γ1 => q γ1 (fun y γ2 => match γ2[i]? with
  | some (.ow a (.dic kvs)) => ∃ k, keyOf y = some k ∧ kvs.length < sizeLine ∧ D.nx (γ2.set i (.ow a (.dic (dputP kvs k x))))
  | _ => False) D.ex) γ1) D.ex
theorem js_dputO {st : Stmt} (h : PS X st (tAsg (tP X.K Ex p) (gSub (tVar i) (tP X.K Ex q) rSetD))) : JS X Ex st (sDput i p q) := PS.imp h fun D σ H ⟨R, G, γ, P, A, h, E⟩ =>
  ⟨R, G, γ, _, _, A, h, fun v H1 G1 x γ1 s1 A1 r1 h1 => by
    obtain ⟨h1, ad, ea⟩ := slot_at A1 h1
    refine ⟨_, ea, R, G1, γ1, _, _, A1, h1, fun w H2 G2 y γ2 s2 A2 r2 h2 => ?_, (E.ex σ).mono s1⟩
    try dsimp only at h2
    split at h2
    · rename_i a' kvs e2
      obtain ⟨k', ek, hz, h2⟩ := h2
      obtain ⟨e4, ws, e5, r5⟩ := own_at ea A2 e2
      cases e4
      obtain rfl := keyOf_v r2 ek
      exact ⟨_, _, rfl, DPut.k e5 (by rw [r5.len]; exact hz), E.nx σ _ G2 _ (same_trans s1 s2) (At.write (c' := .dic (dputP kvs k' x)) A2 e2 ⟨_, upd_same, RepK.put r5 (r1.same s2) k'⟩) h2⟩
    · exact h2.elim, E.ex σ⟩
end
/-- dict(pairs) -/
def kP : Key → PV
  | .inl i => .int i
  | .inr x => .str x
def pairP (kv : Key × PV) : PV := .tup [kP kv.1, kv.2]
def dictOf (xs : List PV) (k : List (Key × PV) → Prop) : Prop := match xs with
  | [.lst ys] => ∃ kvs : List (Key × PV), ys = kvs.map pairP ∧ k (dmergeP [] kvs)
  | _ => False
def rDictP (K : PySem.W.Frag) : List V → Hp → VK → Prop := fun xs H Q => ∃ (a : Addr) (ps : List Addr) (kvs : List (Key × V)), xs = [.ref a] ∧ SqL K H a (ps.map V.ref) ∧ Paired (fun p kv => SqT K H p [kV kv.1, kv.2]) ps kvs ∧ ∀ p, H p = none → Q (.ref p) (upd H p (.dK (L2.mergeK [] kvs)))
theorem pairs_of {K : PySem.W.Frag} {G H : Hp} (gh : Same G H) : ∀ {kvs : List (Key × PV)} {vs : List V}, Reps K G vs (kvs.map pairP) → ∃ (ps : List Addr) (ks : List (Key × V)), vs = ps.map V.ref ∧ Paired (fun p kv => SqT K H p [kV kv.1, kv.2]) ps ks ∧ RepK K G ks kvs
  | [], _, .nil => ⟨[], [], rfl, .nil, .nil⟩
  | (n, x) :: kvs, _, .cons h t => by
    obtain ⟨ps, ks, rfl, hp, hk⟩ := pairs_of gh t
    cases h with
    | tup g r =>
      cases r with
      | cons r1 r2 =>
        cases r2 with
        | cons r2 r3 =>
          cases r3
          rename_i ad v1 v2
          have e1 : v1 = kV n := by cases n <;> (cases r1; rfl)
          subst e1
          exact ⟨ad :: ps, (n, v2) :: ks, rfl, .cons (g.sq gh) hp, .cons r2 hk⟩
def pDict (pa : PXA) : PXO := fun γ K E => pa γ (fun xs γ1 => dictOf xs fun zs => ∀ a, K a (.dic zs) γ1) E
theorem po_dict {X : Cx} {Ex : WX} {e : Expr} {pa : PXA} (h : PE X e (tCB (rDictP X.K) (tA X.K Ex pa))) : JO X Ex e (pDict pa) := PE.imp h fun σ H Q ⟨R, G, γ, Kp, Ep, A, h, k, x⟩ =>
  ⟨R, G, γ, _, Ep, A, h, fun vs H1 G1 ys γ1 s1 A1 r1 h1 => by
    try dsimp only at h1
    unfold dictOf at h1
    split at h1
    · rename_i zs
      obtain ⟨kvs, rfl, h1⟩ := h1
      cases r1 with
      | cons r r2 =>
        cases r2
        cases r with
        | lst g r =>
          obtain ⟨ps, ks, rfl, hp, hk⟩ := pairs_of A1.gh r
          refine ⟨_, ps, ks, rfl, SqL.of (A1.gh _ _ g), hp, fun l nl => ?_⟩
          obtain ⟨A', O⟩ := A1.newO (c := .dic (dmergeP [] kvs)) nl ⟨_, upd_same, RepK.mergeK hk .nil⟩
          exact k l _ G1 _ γ1 s1 A' O (h1 l)
    · exact h1.elim, x⟩
theorem call_dictPs {X : Cx} (hc : X.calm = true) : CallR X (.type "dict") (rDictP X.K) := call_dictP hc
/-- sum of ints -/
def sumOf (xs : List PV) (k : PV → Prop) : Prop := match xs with
  | [.lst ys] => ∃ ns : List Int, ys = ns.map .int ∧ k (.int ns.sum)
  | _ => False
theorem cb_sum {K : PySem.W.Frag} : Cb K (rSum K) sumOf := fun {R G H σ γ vs xs Kp Q} A r q k => by
  unfold sumOf at q
  split at q
  · obtain ⟨ns, rfl, q⟩ := q
    cases r with
    | cons r1 r2 =>
      cases r2
      cases r1 with
      | lst g r =>
        have e := Reps.ints r
        subst e
        exact ⟨_, ns, rfl, SqL.of (A.gh _ _ g), k _ H G _ same_refl A (.int _) q⟩
  · exact q.elim
end Pu

/-! Pu22: zip's next, whether or not the tuple handed out before is still held -/
namespace PySem
open Sem (wp)
/-- a zip's cell: what was handed out, whether that is known to be held -/
abbrev ZipC (h : Heap) (z TI TO : Addr) (f0 : Value) (fl : Bool) : Prop :=
  h.get? z = some { cls := .type "zip", dict := none, data := .fields #[f0, .bool fl, .bool false, .ref TI, .ref TO], slots := #[] }
def OutOk (f0 : Value) : Prop := f0 = .none ∨ ∃ T : Addr, f0 = rawInt T
section
variable {prog : Program} {w : World} {A : Around} {E : Value → Shared → Prop} {s : Shared} {z TI TO i1 i2 : Addr} {fp1 fp2 : List Addr} {n1 n2 i : Nat} {P1 P2 : Nat → Value → Prop} {St1 St2 : Nat → Heap → Prop}
theorem wpAny_alive {M : Model} {a : Addr} {Q : Option Obj → Shared → Prop} (h : Q (s.heap.get? a) s) : wpAny M A (loadIfAlive a) Q E s := fun Γ p hΓ => by
  unfold loadIfAlive
  rw [Sem.wp_loadIfAlive]
  exact wpAny_pure h Γ p hΓ
theorem sameBut_refl (z : Addr) (h : Heap) : Heap.SameBut z h h := ⟨rfl, fun _ _ => rfl⟩
theorem zip_isFree {f0 : Value} {fl : Bool} {Q : Bool → Shared → Prop} (hz : ZipC s.heap z TI TO f0 fl) (ho : OutOk f0) (h1 : Q true s) (h2 : ∀ h', ZipC h' z TI TO f0 true → Heap.SameBut z s.heap h' → Q false { s with heap := h' }) :
    wpAny (model prog w) A (Builtin.SmallTypes.ownedTupleIsFree (.ref z)) Q E s := by
  unfold Builtin.SmallTypes.ownedTupleIsFree
  refine wpAny_bind (wpAny_field hz rfl (x := f0) rfl ?_)
  rcases ho with rfl | ⟨T, rfl⟩
  · exact wpAny_pure h1
  · show wpAny _ _ (loadIfAlive (T : Int).toNat >>= _) _ _ s
    refine wpAny_bind (wpAny_alive ?_)
    cases hT : s.heap.get? (T : Int).toNat with
    | none => exact wpAny_pure h1
    | some o =>
      show wpAny _ _ (field (.ref z) 1 >>= _) _ _ s
      refine wpAny_bind (wpAny_field hz rfl (x := .bool fl) rfl ?_)
      cases fl with
      | true => exact wpAny_pure (h2 s.heap hz (sameBut_refl _ _))
      | false =>
        show wpAny _ _ (setField (.ref z) 1 (.bool true) >>= fun _ => pure false) _ _ s
        exact wpAny_bind (wpAny_setField_rec hz (by simp) fun h' hz' hs' => wpAny_pure (h2 h' hz' hs'))
/-- the next pair: a new tuple at the heap's end, whether or not the one before is held -/
theorem zipA_next_item {f0 : Value} {fl : Bool} {Q : Value → Shared → Prop} (S : ZipSep2 z TI TO i1 i2 fp1 fp2) (D1 : Draws prog w A i1 fp1 n1 P1 St1) (D2 : Draws prog w A i2 fp2 n2 P2 St2)
    (hz : ZipC s.heap z TI TO f0 fl) (ho : OutOk f0) (hTI : IsTupOf2 s.heap TI (.ref i1) (.ref i2)) (hTO : ∃ a1 a2, IsTupOf2 s.heap TO a1 a2) (st1 : St1 i s.heap) (st2 : St2 i s.heap) (hlt1 : i < n1) (hlt2 : i < n2)
    (hQ : ∀ x1 x2 h' tk f1 fl1, P1 i x1 → P2 i x2 → ZipC h' z TI TO f1 fl1 → OutOk f1 → (∃ a1 a2, IsTupOf2 h' TO a1 a2) → St1 (i + 1) h' → St2 (i + 1) h' → IsTupOf2 h' s.heap.objs.size x1 x2 → h'.objs.size = s.heap.objs.size + 1 →
      (∀ c o, c ≠ z → c ≠ TO → c ≠ i1 → c ≠ i2 → s.heap.get? c = some o → h'.get? c = some o) → Q (.ref s.heap.objs.size) { s with heap := h', toks := tk }) :
    wpAny (model prog w) A (Builtin.«zip.__next__» ⟨[.ref z], []⟩) (fun fin s' => ∃ v, fin = .done (.ret v) ∧ Q v s') E s := by
  obtain ⟨hp, g, d, tk0, os⟩ := s
  obtain ⟨a1, a2, hTO⟩ := hTO
  show wpAny _ _ (field (.ref z) 2 >>= _) _ _ _
  refine wpAny_bind (wpAny_field hz rfl (x := .bool false) rfl ?_)
  show wpAny _ _ (field (.ref z) 3 >>= _) _ _ _
  refine wpAny_bind (wpAny_field hz rfl (x := .ref TI) rfl ?_)
  refine wpAny_bind (wpAny_seqItems hTI rfl ?_)
  show wpAny _ _ (Builtin.SmallTypes.ownedTupleIsFree (.ref z) >>= _) _ _ _
  refine wpAny_bind (zip_isFree hz ho ?_ fun q0 hq0 hs0 => ?_)
  · simp only [if_true]
    refine wpAny_bind (wpAny_rule ?_)
    refine wpAny_bind (wpAny_field hz rfl (x := .ref TO) rfl ?_)
    refine wpAny_bind (wpAny_setField_rec hz (by simp) fun g0 hz0 hs0 => ?_)
    replace hz0 : ZipC g0 z TI TO .ellipsis fl := hz0
    replace hs0 : Heap.SameBut z hp g0 := hs0
    refine wpAny_bind ?_
    simp only [List.zipIdx_cons, List.zipIdx_nil, List.forIn_cons, List.forIn_nil]
    refine wpAny_bind (wpAny_bind (wpAny_onRaise ?_))
    show wpAny _ _ (Builtin.SmallTypes.nextOf (.ref i1) >>= _) _ _ ⟨g0, g, d, tk0, os⟩
    refine wpAny_bind (D1.item i _ _ _ hlt1 (D1.over st1 hs0 S.zf1) fun x1 p1 tk1 hx1 sn1 hp1 => wpAny_pure ?_)
    replace hp1 : Heap.SameBut i1 g0 p1 := hp1
    have hU1 : IsTupOf2 p1 TO a1 a2 := hp1.extBut _ _ S.Ti1 (hs0.extBut _ _ S.TOz hTO)
    refine wpAny_bind (wpAny_seqItems (s := ⟨p1, g, d, tk1, os⟩) hU1 rfl (wpAny_bind (updateSeq_IsTupOf2 (s := ⟨p1, g, d, tk1, os⟩) hU1 fun g1 hT1 hs1 => wpAny_bind (wpAny_letGo (wpAny_pure ?_)))))
    replace hT1 : IsTupOf2 g1 TO x1 a2 := hT1
    replace hs1 : Heap.SameBut TO p1 g1 := hs1
    refine wpAny_bind (wpAny_bind (wpAny_onRaise ?_))
    show wpAny _ _ (Builtin.SmallTypes.nextOf (.ref i2) >>= _) _ _ ⟨g1, g, d, tk1, os⟩
    refine wpAny_bind (D2.item i _ _ _ hlt2 (D2.over (D2.over (D2.over st2 hs0 S.zf2) hp1 S.sep1_2) hs1 S.Tf2) fun x2 p2 tk2 hx2 sn2 hp2 => wpAny_pure ?_)
    replace hp2 : Heap.SameBut i2 g1 p2 := hp2
    have hU2 : IsTupOf2 p2 TO x1 a2 := hp2.extBut _ _ S.Ti2 hT1
    refine wpAny_bind (wpAny_seqItems (s := ⟨p2, g, d, tk2, os⟩) hU2 rfl (wpAny_bind (updateSeq_IsTupOf2 (s := ⟨p2, g, d, tk2, os⟩) hU2 fun g2 hT2 hs2 => wpAny_bind (wpAny_letGo (wpAny_pure (wpAny_pure ?_))))))
    replace hT2 : IsTupOf2 g2 TO x1 x2 := hT2
    replace hs2 : Heap.SameBut TO p2 g2 := hs2
    refine wpAny_bind (wpAny_seqItems (s := ⟨g2, g, d, tk2, os⟩) hT2 rfl (wpAny_bind (wpAny_newTuple ?_)))
    have hsz : g2.objs.size = hp.objs.size := by rw [hs2.1, hp2.1, hs1.1, hp1.1, hs0.1]
    have hzz : ZipC g2 z TI TO .ellipsis fl := hs2.extBut _ _ S.TOz.symm (hp2.extBut _ _ S.zi2 (hs1.extBut _ _ S.TOz.symm (hp1.extBut _ _ S.zi1 hz0)))
    have hkk : ∀ c o, c ≠ z → c ≠ TO → c ≠ i1 → c ≠ i2 → hp.get? c = some o → g2.get? c = some o := fun c o cz cT c1 c2 e =>
      hs2.extBut _ _ cT (hp2.extBut _ _ c2 (hs1.extBut _ _ cT (hp1.extBut _ _ c1 (hs0.extBut _ _ cz e))))
    have hj1 : St1 (i + 1) g2 := D1.over (D1.over (D1.over sn1 hs1 S.Tf1) hp2 S.sep2_1) hs2 S.Tf1
    have hj2 : St2 (i + 1) g2 := D2.over sn2 hs2 S.Tf2
    have hzlt : z < g2.objs.size := Heap.lt_size hzz
    show wpAny _ _ (Builtin.SmallTypes.ownedTupleHandOut (.ref z) (.ref g2.objs.size) >>= _) _ _ ⟨g2.push { cls := .type "tuple", data := .seq #[x1, x2] }, g, d, tk2, os⟩
    unfold Builtin.SmallTypes.ownedTupleHandOut
    have hz6 : ZipC (g2.push { cls := .type "tuple", data := .seq #[x1, x2] }) z TI TO .ellipsis fl := Heap.get?_push_of_some _ hzz
    refine wpAny_bind (wpAny_bind (wpAny_setField_rec hz6 (by simp) fun h7 hz7 hs7 => ?_))
    replace hz7 : ZipC h7 z TI TO (rawInt g2.objs.size) fl := hz7
    refine wpAny_setField_rec hz7 (by simp) fun h8 hz8 hs8 => ?_
    replace hz8 : ZipC h8 z TI TO (rawInt g2.objs.size) false := hz8
    replace hs7 : Heap.SameBut z (g2.push { cls := .type "tuple", data := .seq #[x1, x2] }) h7 := hs7
    replace hs8 : Heap.SameBut z h7 h8 := hs8
    have up : ∀ c o, c ≠ z → g2.get? c = some o → h8.get? c = some o := fun c o c1 e => hs8.extBut _ _ c1 (hs7.extBut _ _ c1 (Heap.get?_push_of_some _ e))
    have hT8 : IsTupOf2 h8 g2.objs.size x1 x2 := hs8.extBut _ _ (Nat.ne_of_gt hzlt) (hs7.extBut _ _ (Nat.ne_of_gt hzlt) (Heap.get?_push_size _ rfl))
    have h8z : h8.objs.size = g2.objs.size + 1 := by rw [hs8.1, hs7.1, Heap.size_push]
    rw [hsz] at hz8 hT8 h8z
    refine wpAny_pure ⟨_, rfl, ?_⟩
    show Q (.ref g2.objs.size) ⟨h8, g, d, tk2, os⟩
    rw [hsz]
    exact hQ x1 x2 h8 tk2 _ false hx1 hx2 hz8 (.inr ⟨_, rfl⟩) ⟨_, _, up _ _ S.TOz hT2⟩ (D1.frame _ _ _ hj1 fun b hb o e => up b o (fun q => S.zf1 (q ▸ hb)) e) (D2.frame _ _ _ hj2 fun b hb o e => up b o (fun q => S.zf2 (q ▸ hb)) e) hT8 h8z
      fun c o cz cT c1 c2 e => up c o cz (hkk c o cz cT c1 c2 e)
  · replace hs0 : Heap.SameBut z hp q0 := hs0
    simp only [Bool.false_eq_true, if_false]
    show wpAny _ _ (forIn #[Value.ref i1, Value.ref i2] _ _ >>= _) _ _ _
    rw [← Array.forIn_toList]
    simp only [List.forIn_cons, List.forIn_nil]
    refine wpAny_bind (wpAny_bind (wpAny_bind (wpAny_holding ?_)))
    show wpAny _ _ (Builtin.SmallTypes.nextOf (.ref i1) >>= _) _ _ ⟨q0, g, d, tk0, os⟩
    refine wpAny_bind (D1.item i _ _ _ hlt1 (D1.over st1 hs0 S.zf1) fun x1 p1 tk1 hx1 sn1 hp1 => wpAny_pure ?_)
    replace hp1 : Heap.SameBut i1 q0 p1 := hp1
    refine wpAny_pure ?_
    refine wpAny_bind (wpAny_bind (wpAny_holding ?_))
    show wpAny _ _ (Builtin.SmallTypes.nextOf (.ref i2) >>= _) _ _ ⟨p1, g, d, tk1, os⟩
    refine wpAny_bind (D2.item i _ _ _ hlt2 (D2.over (D2.over st2 hs0 S.zf2) hp1 S.sep1_2) fun x2 p2 tk2 hx2 sn2 hp2 => wpAny_pure ?_)
    replace hp2 : Heap.SameBut i2 p1 p2 := hp2
    refine wpAny_pure (wpAny_pure ?_)
    have hsz : p2.objs.size = hp.objs.size := by rw [hp2.1, hp1.1, hs0.1]
    have hzz : ZipC p2 z TI TO f0 true := hp2.extBut _ _ S.zi2 (hp1.extBut _ _ S.zi1 hq0)
    have hT2 : IsTupOf2 p2 TO a1 a2 := hp2.extBut _ _ S.Ti2 (hp1.extBut _ _ S.Ti1 (hs0.extBut _ _ S.TOz hTO))
    have hj1 : St1 (i + 1) p2 := D1.over sn1 hp2 S.sep2_1
    have up : ∀ c o, p2.get? c = some o → (p2.push { cls := .type "tuple", data := .seq #[x1, x2] }).get? c = some o := fun c o e => Heap.get?_push_of_some _ e
    refine wpAny_bind (wpAny_newTuple ?_ (by show 2 ≤ sizeLine; decide))
    refine wpAny_pure ⟨_, rfl, ?_⟩
    show Q (.ref p2.objs.size) ⟨p2.push { cls := .type "tuple", data := .seq #[x1, x2] }, g, d, tk2, os⟩
    rw [hsz]
    refine hQ x1 x2 _ tk2 f0 true hx1 hx2 (up _ _ hzz) ho ⟨a1, a2, up _ _ hT2⟩ (D1.frame _ _ _ hj1 fun b hb o e => up b o e) (D2.frame _ _ _ sn2 fun b hb o e => up b o e) ?_ (by rw [Heap.size_push, hsz]) fun c o cz cT c1 c2 e => ?_
    · have := Heap.get?_push_size p2 (o := { cls := .type "tuple", data := .seq #[x1, x2] }) rfl
      rw [hsz] at this
      exact this
    · exact up _ _ (hp2.extBut _ _ c2 (hp1.extBut _ _ c1 (hs0.extBut _ _ cz e)))
theorem zipA_next_end {f0 : Value} {fl : Bool} {Q : Fin → Shared → Prop} (S : ZipSep2 z TI TO i1 i2 fp1 fp2) (D1 : Draws prog w A i1 fp1 n1 P1 St1) (D2 : Draws prog w A i2 fp2 n2 P2 St2)
    (hz : ZipC s.heap z TI TO f0 fl) (ho : OutOk f0) (hTI : IsTupOf2 s.heap TI (.ref i1) (.ref i2)) (hTO : ∃ a1 a2, IsTupOf2 s.heap TO a1 a2) (st1 : St1 i s.heap) (st2 : St2 i s.heap) (hle1 : i ≤ n1) (hle2 : i ≤ n2) (hend : i = n1 ∨ i = n2)
    (hE : ∀ h' tk e, (∀ c o, c ≠ z → c ≠ TO → c ≠ i1 → c ≠ i2 → s.heap.get? c = some o → h'.get? c = some o) → (∃ o, h'.get? e = some o ∧ o.cls = .type "StopIteration") → E (.ref e) { s with heap := h', toks := tk }) :
    wpAny (model prog w) A (Builtin.«zip.__next__» ⟨[.ref z], []⟩) Q E s := by
  obtain ⟨hp, g, d, tk0, os⟩ := s
  obtain ⟨a1, a2, hTO⟩ := hTO
  show wpAny _ _ (field (.ref z) 2 >>= _) _ _ _
  refine wpAny_bind (wpAny_field hz rfl (x := .bool false) rfl ?_)
  show wpAny _ _ (field (.ref z) 3 >>= _) _ _ _
  refine wpAny_bind (wpAny_field hz rfl (x := .ref TI) rfl ?_)
  refine wpAny_bind (wpAny_seqItems hTI rfl ?_)
  show wpAny _ _ (Builtin.SmallTypes.ownedTupleIsFree (.ref z) >>= _) _ _ _
  refine wpAny_bind (zip_isFree hz ho ?_ fun q0 hq0 hs0 => ?_)
  · simp only [if_true]
    refine wpAny_bind (wpAny_rule ?_)
    refine wpAny_bind (wpAny_field hz rfl (x := .ref TO) rfl ?_)
    refine wpAny_bind (wpAny_setField_rec hz (by simp) fun g0 hz0 hs0 => ?_)
    replace hz0 : ZipC g0 z TI TO .ellipsis fl := hz0
    replace hs0 : Heap.SameBut z hp g0 := hs0
    refine wpAny_bind ?_
    simp only [List.zipIdx_cons, List.zipIdx_nil, List.forIn_cons, List.forIn_nil]
    refine wpAny_bind (wpAny_bind (wpAny_onRaise ?_))
    show wpAny _ _ (Builtin.SmallTypes.nextOf (.ref i1) >>= _) _ _ ⟨g0, g, d, tk0, os⟩
    by_cases hlt1 : i < n1
    · refine wpAny_bind (D1.item i _ _ _ hlt1 (D1.over st1 hs0 S.zf1) fun x1 p1 tk1 hx1 sn1 hp1 => wpAny_pure ?_)
      replace hp1 : Heap.SameBut i1 g0 p1 := hp1
      have hU1 : IsTupOf2 p1 TO a1 a2 := hp1.extBut _ _ S.Ti1 (hs0.extBut _ _ S.TOz hTO)
      refine wpAny_bind (wpAny_seqItems (s := ⟨p1, g, d, tk1, os⟩) hU1 rfl (wpAny_bind (updateSeq_IsTupOf2 (s := ⟨p1, g, d, tk1, os⟩) hU1 fun g1 hT1 hs1 => wpAny_bind (wpAny_letGo (wpAny_pure ?_)))))
      replace hT1 : IsTupOf2 g1 TO x1 a2 := hT1
      replace hs1 : Heap.SameBut TO p1 g1 := hs1
      have hi2 : i = n2 := by omega
      refine wpAny_bind (wpAny_bind (wpAny_onRaise ?_))
      show wpAny _ _ (Builtin.SmallTypes.nextOf (.ref i2) >>= _) _ _ ⟨g1, g, d, tk1, os⟩
      refine wpAny_bind (D2.done ⟨g1, g, d, tk1, os⟩ _ _ (by rw [← hi2]; exact (D2.over (D2.over (D2.over st2 hs0 S.zf2) hp1 S.sep1_2) hs1 S.Tf2)) fun q e hq he => ?_)
      replace hq : Heap.ExtBut i2 g1 q := hq
      obtain ⟨oe, hoe, hce⟩ := he
      replace hoe : q.get? e = some oe := hoe
      have hzq : ZipC q z TI TO .ellipsis fl := hq _ _ S.zi2 (hs1.extBut _ _ S.TOz.symm (hp1.extBut _ _ S.zi1 hz0))
      have hez : e ≠ z := fun x => by subst x; rw [hzq] at hoe; cases hoe; simp at hce
      refine wpAny_setField_rec (s := ⟨q, g, d, tk1, os⟩) hzq (by simp) fun q' _ hq' => ?_
      replace hq' : Heap.SameBut z q q' := hq'
      exact hE q' tk1 e (fun c o cz cT c1 c2 x => hq'.extBut _ _ cz (hq _ _ c2 (hs1.extBut _ _ cT (hp1.extBut _ _ c1 (hs0.extBut _ _ cz x))))) ⟨oe, hq'.extBut _ _ hez hoe, hce⟩
    · have hi1 : i = n1 := by omega
      refine wpAny_bind (D1.done ⟨g0, g, d, tk0, os⟩ _ _ (by rw [← hi1]; exact (D1.over st1 hs0 S.zf1)) fun q e hq he => ?_)
      replace hq : Heap.ExtBut i1 g0 q := hq
      obtain ⟨oe, hoe, hce⟩ := he
      replace hoe : q.get? e = some oe := hoe
      have hzq : ZipC q z TI TO .ellipsis fl := hq _ _ S.zi1 hz0
      have hez : e ≠ z := fun x => by subst x; rw [hzq] at hoe; cases hoe; simp at hce
      refine wpAny_setField_rec (s := ⟨q, g, d, tk0, os⟩) hzq (by simp) fun q' _ hq' => ?_
      replace hq' : Heap.SameBut z q q' := hq'
      exact hE q' tk0 e (fun c o cz cT c1 c2 x => hq'.extBut _ _ cz (hq _ _ c1 (hs0.extBut _ _ cz x))) ⟨oe, hq'.extBut _ _ hez hoe, hce⟩
  · replace hs0 : Heap.SameBut z hp q0 := hs0
    simp only [Bool.false_eq_true, if_false]
    show wpAny _ _ (forIn #[Value.ref i1, Value.ref i2] _ _ >>= _) _ _ _
    rw [← Array.forIn_toList]
    simp only [List.forIn_cons, List.forIn_nil]
    refine wpAny_bind (wpAny_bind (wpAny_bind (wpAny_holding ?_)))
    show wpAny _ _ (Builtin.SmallTypes.nextOf (.ref i1) >>= _) _ _ ⟨q0, g, d, tk0, os⟩
    by_cases hlt1 : i < n1
    · refine wpAny_bind (D1.item i _ _ _ hlt1 (D1.over st1 hs0 S.zf1) fun x1 p1 tk1 hx1 sn1 hp1 => wpAny_pure ?_)
      replace hp1 : Heap.SameBut i1 q0 p1 := hp1
      refine wpAny_pure ?_
      refine wpAny_bind (wpAny_bind (wpAny_holding ?_))
      show wpAny _ _ (Builtin.SmallTypes.nextOf (.ref i2) >>= _) _ _ ⟨p1, g, d, tk1, os⟩
      have hi2 : i = n2 := by omega
      refine wpAny_bind (D2.done ⟨p1, g, d, tk1, os⟩ _ _ (by rw [← hi2]; exact (D2.over (D2.over st2 hs0 S.zf2) hp1 S.sep1_2)) fun q e hq he => ?_)
      replace hq : Heap.ExtBut i2 p1 q := hq
      exact hE q tk1 e (fun c o cz cT c1 c2 x => hq _ _ c2 (hp1.extBut _ _ c1 (hs0.extBut _ _ cz x))) he
    · have hi1 : i = n1 := by omega
      refine wpAny_bind (D1.done ⟨q0, g, d, tk0, os⟩ _ _ (by rw [← hi1]; exact (D1.over st1 hs0 S.zf1)) fun q e hq he => ?_)
      replace hq : Heap.ExtBut i1 q0 q := hq
      exact hE q tk0 e (fun c o cz cT c1 c2 x => hq _ _ c1 (hs0.extBut _ _ cz x)) he
end
end PySem

/-! Pu23: enumerate(zip(a, b)) -/
namespace PySem
open Sem (wp)
section
variable {prog : Program} {w : World} {A : Around} {E : Value → Shared → Prop} {s : Shared}
/-- enumerate over an iterator whose draw may lay new things -/
theorem enumA_next_item {e it : Addr} {c : Int} {R : Value → Heap → Prop} {old : Value} {Q : Value → Shared → Prop} (he : IsEnum s.heap e it c old)
    (hdraw : ∀ (Q' : Value → Shared → Prop) (E' : Value → Shared → Prop), (∀ x h1 tk, R x h1 → IsEnum h1 e it c old → Q' x { s with heap := h1, toks := tk }) → wpAny (model prog w) A (Builtin.SmallTypes.nextOf (.ref it)) Q' E' s)
    (hQ : ∀ x h1 h' tk, R x h1 → IsEnumOut h' e it (c + 1) x h1.objs.size → h'.get? h1.objs.size = some { cls := .type "tuple", data := .seq #[.int c tk, x] } → h'.objs.size = h1.objs.size + 1 →
      (∀ b o, b ≠ e → h1.get? b = some o → h'.get? b = some o) → Q (.ref h1.objs.size) { s with heap := h', toks := tk + 1 }) :
    wpAny (model prog w) A (Builtin.«enumerate.__next__» ⟨[.ref e], []⟩) (fun fin s' => ∃ v, fin = .done (.ret v) ∧ Q v s') E s := by
  obtain ⟨hp, g, d, tk0, os⟩ := s
  show wpAny _ _ (field (.ref e) 2 >>= _) _ _ _
  refine wpAny_bind (wpAny_field he rfl (x := .ref it) rfl ?_)
  refine wpAny_bind (hdraw _ _ fun x h1 tk hR he1 => ?_)
  show wpAny _ _ (field (.ref e) 3 >>= _) _ _ ⟨h1, g, d, tk, os⟩
  refine wpAny_bind (wpAny_field he1 rfl (x := rawInt c) rfl ?_)
  show wpAny _ _ (field (.ref e) 4 >>= _) _ _ ⟨h1, g, d, tk, os⟩
  refine wpAny_bind (wpAny_field he1 rfl (x := .none) rfl ?_)
  show wpAny _ _ (mkInt c >>= _) _ _ ⟨h1, g, d, tk, os⟩
  refine wpAny_bind (wpAny_mkInt ?_)
  show wpAny _ _ (setField (.ref e) 3 (rawInt (c + 1)) >>= _) _ _ ⟨h1, g, d, tk + 1, os⟩
  refine wpAny_bind (wpAny_setField_rec he1 (by simp) fun h2 he2 hs2 => ?_)
  replace hs2 : Heap.SameBut e h1 h2 := hs2
  replace he2 : IsEnum h2 e it (c + 1) old := he2
  show wpAny _ _ (setField (.ref e) 4 .none >>= _) _ _ ⟨h2, g, d, tk + 1, os⟩
  refine wpAny_bind (wpAny_setField_rec he2 (by simp) fun h3 he3 hs3 => ?_)
  replace hs3 : Heap.SameBut e h2 h3 := hs3
  replace he3 : IsEnum h3 e it (c + 1) old := he3
  show wpAny _ _ (newTuple [.int c tk, x] >>= _) _ _ ⟨h3, g, d, tk + 1, os⟩
  refine wpAny_bind (wpAny_newTuple ?_)
  have hsz : h3.objs.size = h1.objs.size := by rw [hs3.1, hs2.1]
  have hel : e < h1.objs.size := Heap.lt_size he1
  have he4 : IsEnum (h3.push { cls := .type "tuple", data := .seq #[.int c tk, x] }) e it (c + 1) old := Heap.get?_push_of_some _ he3
  have ht4 : (h3.push { cls := .type "tuple", data := .seq #[.int c tk, x] }).get? h1.objs.size = some { cls := .type "tuple", data := .seq #[.int c tk, x] } := by
    rw [← hsz]
    exact Heap.get?_push_size _ rfl
  have hz4 : (h3.push { cls := .type "tuple", data := .seq #[.int c tk, x] }).objs.size = h1.objs.size + 1 := by rw [Heap.size_push, hsz]
  have hk4 : ∀ b o, b ≠ e → h1.get? b = some o → (h3.push { cls := .type "tuple", data := .seq #[.int c tk, x] }).get? b = some o := fun b o hbe hb => Heap.get?_push_of_some _ (hs3.extBut b o hbe (hs2.extBut b o hbe hb))
  generalize h3.push { cls := .type "tuple", data := .seq #[.int c tk, x] } = h4 at he4 ht4 hz4 hk4 ⊢
  show wpAny _ _ (Builtin.SmallTypes.ownedTupleIsFree (.ref e) >>= _) _ _ ⟨h4, g, d, tk + 1, os⟩
  refine wpAny_bind ?_
  unfold Builtin.SmallTypes.ownedTupleIsFree
  refine wpAny_bind (wpAny_field he4 rfl (x := .none) rfl (wpAny_pure ?_))
  simp only [if_true]
  refine wpAny_bind (wpAny_rule ?_)
  refine wpAny_bind (wpAny_field he4 rfl (x := old) rfl ?_)
  refine wpAny_bind (wpAny_setField_rec he4 (by simp) fun h5 he5 hs5 => ?_)
  replace hs5 : Heap.SameBut e h4 h5 := hs5
  replace he5 : IsEnum h5 e it (c + 1) x := he5
  rw [hsz]
  show wpAny _ _ (Builtin.SmallTypes.ownedTupleHandOut (.ref e) (.ref h1.objs.size) >>= _) _ _ ⟨h5, g, d, tk + 1, os⟩
  refine wpAny_bind ?_
  unfold Builtin.SmallTypes.ownedTupleHandOut
  refine wpAny_bind (wpAny_setField_rec he5 (by simp) fun h6 he6 hs6 => ?_)
  replace hs6 : Heap.SameBut e h5 h6 := hs6
  replace he6 : IsEnumOut h6 e it (c + 1) x h1.objs.size := he6
  refine wpAny_setField_rec he6 (by simp) fun h7 he7 hs7 => ?_
  replace hs7 : Heap.SameBut e h6 h7 := hs7
  replace he7 : IsEnumOut h7 e it (c + 1) x h1.objs.size := he7
  refine wpAny_bind (wpAny_letGo (wpAny_pure ⟨_, rfl, hQ x h1 h7 tk hR he7 ?_ ?_ ?_⟩))
  · exact hs7.extBut _ _ (Nat.ne_of_gt hel) (hs6.extBut _ _ (Nat.ne_of_gt hel) (hs5.extBut _ _ (Nat.ne_of_gt hel) ht4))
  · rw [hs7.1, hs6.1, hs5.1, hz4]
  · exact fun b o hbe hb => hs7.extBut b o hbe (hs6.extBut b o hbe (hs5.extBut b o hbe (hk4 b o hbe hb)))
end
end PySem
namespace PySem
open Sem (wp)
section
variable {prog : Program} {w : World} {A : Around} {E : Value → Shared → Prop} {s : Shared} {e z TI TO i1 i2 : Addr} {fp1 fp2 : List Addr} {n1 n2 i : Nat} {P1 P2 : Nat → Value → Prop} {St1 St2 : Nat → Heap → Prop}
/-- what a zip has laid after a draw from the heap h -/
structure ZipDrawn (h : Heap) (z TI TO i1 i2 : Addr) (P1 P2 : Value → Prop) (S1 S2 : Heap → Prop) (x : Value) (h1 : Heap) (x1 x2 : Value) : Prop where
  x : x = .ref h.objs.size
  p1 : P1 x1
  p2 : P2 x2
  zc : ∃ f fl, ZipC h1 z TI TO f fl ∧ OutOk f
  to : ∃ a1 a2, IsTupOf2 h1 TO a1 a2
  s1 : S1 h1
  s2 : S2 h1
  t : IsTupOf2 h1 h.objs.size x1 x2
  n : h1.objs.size = h.objs.size + 1
  k : ∀ c o, c ≠ z → c ≠ TO → c ≠ i1 → c ≠ i2 → h.get? c = some o → h1.get? c = some o
theorem nextOf_zipA_item {f0 : Value} {fl : Bool} {Q : Value → Shared → Prop} (S : ZipSep2 z TI TO i1 i2 fp1 fp2) (D1 : Draws prog w A.in1 i1 fp1 n1 P1 St1) (D2 : Draws prog w A.in1 i2 fp2 n2 P2 St2)
    (hz : ZipC s.heap z TI TO f0 fl) (ho : OutOk f0) (hTI : IsTupOf2 s.heap TI (.ref i1) (.ref i2)) (hTO : ∃ a1 a2, IsTupOf2 s.heap TO a1 a2) (st1 : St1 i s.heap) (st2 : St2 i s.heap) (hlt1 : i < n1) (hlt2 : i < n2)
    (hQ : ∀ x h1 tk x1 x2, ZipDrawn s.heap z TI TO i1 i2 (P1 i) (P2 i) (St1 (i + 1)) (St2 (i + 1)) x h1 x1 x2 → Q x { s with heap := h1, toks := tk }) :
    wpAny (model prog w) A (Builtin.SmallTypes.nextOf (.ref z)) Q E s := by
  have hT : s.TypeIs (.ref z) "zip" := ⟨_, hz, rfl⟩
  unfold Builtin.SmallTypes.nextOf
  exact wpAny_bind (wpAny_callSpecial?_slot (name := Str.ofString "__next__") hT F.slot_zip_next
    (wpAny_call_entry F.slot_zip_next hT F.entry_zip_next
      (zipA_next_item S D1 D2 hz ho hTI hTO st1 st2 hlt1 hlt2 fun x1 x2 h' tk f1 fl1 y1 y2 b1 b2 b3 d1 d2 b5 b6 b7 => wpAny_pure (hQ _ h' tk x1 x2 ⟨rfl, y1, y2, ⟨f1, fl1, b1, b2⟩, b3, d1, d2, b5, b6, b7⟩)) (F.args_zip_next_1 _)))
theorem nextOf_zipA_end {f0 : Value} {fl : Bool} {Q : Value → Shared → Prop} (S : ZipSep2 z TI TO i1 i2 fp1 fp2) (D1 : Draws prog w A.in1 i1 fp1 n1 P1 St1) (D2 : Draws prog w A.in1 i2 fp2 n2 P2 St2)
    (hz : ZipC s.heap z TI TO f0 fl) (ho : OutOk f0) (hTI : IsTupOf2 s.heap TI (.ref i1) (.ref i2)) (hTO : ∃ a1 a2, IsTupOf2 s.heap TO a1 a2) (st1 : St1 i s.heap) (st2 : St2 i s.heap) (hle1 : i ≤ n1) (hle2 : i ≤ n2) (hend : i = n1 ∨ i = n2)
    (hE : ∀ h' tk e, (∀ c o, c ≠ z → c ≠ TO → c ≠ i1 → c ≠ i2 → s.heap.get? c = some o → h'.get? c = some o) → (∃ o, h'.get? e = some o ∧ o.cls = .type "StopIteration") → E (.ref e) { s with heap := h', toks := tk }) :
    wpAny (model prog w) A (Builtin.SmallTypes.nextOf (.ref z)) Q E s := by
  have hT : s.TypeIs (.ref z) "zip" := ⟨_, hz, rfl⟩
  unfold Builtin.SmallTypes.nextOf
  exact wpAny_bind (wpAny_callSpecial?_slot (name := Str.ofString "__next__") hT F.slot_zip_next
    (wpAny_call_entry F.slot_zip_next hT F.entry_zip_next (zipA_next_end S D1 D2 hz ho hTI hTO st1 st2 hle1 hle2 hend hE) (F.args_zip_next_1 _)))
/-- the next of enumerate(zip(..)) -/
theorem pyNext_enumZip_item {f0 : Value} {fl : Bool} {c : Int} {old : Value} {Q : Option Value → Shared → Prop} (S : ZipSep2 z TI TO i1 i2 fp1 fp2) (D1 : Draws prog w A.in1.in1 i1 fp1 n1 P1 St1) (D2 : Draws prog w A.in1.in1 i2 fp2 n2 P2 St2)
    (he : IsEnum s.heap e z c old) (hez : e ≠ z) (heT : e ≠ TO) (he1 : e ≠ i1) (he2 : e ≠ i2)
    (hz : ZipC s.heap z TI TO f0 fl) (ho : OutOk f0) (hTI : IsTupOf2 s.heap TI (.ref i1) (.ref i2)) (hTO : ∃ a1 a2, IsTupOf2 s.heap TO a1 a2) (st1 : St1 i s.heap) (st2 : St2 i s.heap) (hlt1 : i < n1) (hlt2 : i < n2)
    (hQ : ∀ x h1 h' tk x1 x2, ZipDrawn s.heap z TI TO i1 i2 (P1 i) (P2 i) (St1 (i + 1)) (St2 (i + 1)) x h1 x1 x2 → IsEnumOut h' e z (c + 1) x h1.objs.size → h'.get? h1.objs.size = some { cls := .type "tuple", data := .seq #[.int c tk, x] } → h'.objs.size = h1.objs.size + 1 →
      (∀ b o, b ≠ e → h1.get? b = some o → h'.get? b = some o) → Q (some (.ref h1.objs.size)) { s with heap := h', toks := tk + 1 }) :
    wpAny (model prog w) A (pyNext (.ref e)) Q E s := by
  have hT : s.TypeIs (.ref e) "enumerate" := ⟨_, he, rfl⟩
  unfold pyNext
  exact wpAny_bind (wpAny_attempt (wpAny_callSpecial?_slot (name := Str.ofString "__next__") hT F.slot_enumerate_next
    (wpAny_call_entry F.slot_enumerate_next hT F.entry_enumerate_next
      (enumA_next_item (R := fun x h1 => ∃ x1 x2, ZipDrawn s.heap z TI TO i1 i2 (P1 i) (P2 i) (St1 (i + 1)) (St2 (i + 1)) x h1 x1 x2) he
        (fun Q' E' hq => nextOf_zipA_item S D1 D2 hz ho hTI hTO st1 st2 hlt1 hlt2 fun x h1 tk x1 x2 r => hq x h1 tk ⟨x1, x2, r⟩ (r.k e _ hez heT he1 he2 he))
        fun x h1 h' tk r a b c k => wpAny_pure (let ⟨x1, x2, r⟩ := r; hQ x h1 h' tk x1 x2 r a b c k)) (F.args_enumerate_next_1 _))))
theorem pyNext_enumZip_end {f0 : Value} {fl : Bool} {c : Int} {old : Value} {Q : Option Value → Shared → Prop} (S : ZipSep2 z TI TO i1 i2 fp1 fp2) (D1 : Draws prog w A.in1.in1 i1 fp1 n1 P1 St1) (D2 : Draws prog w A.in1.in1 i2 fp2 n2 P2 St2)
    (he : IsEnum s.heap e z c old) (hz : ZipC s.heap z TI TO f0 fl) (ho : OutOk f0) (hTI : IsTupOf2 s.heap TI (.ref i1) (.ref i2)) (hTO : ∃ a1 a2, IsTupOf2 s.heap TO a1 a2) (st1 : St1 i s.heap) (st2 : St2 i s.heap) (hle1 : i ≤ n1) (hle2 : i ≤ n2) (hend : i = n1 ∨ i = n2)
    (hQ : ∀ h' tk, (∀ c o, c ≠ z → c ≠ TO → c ≠ i1 → c ≠ i2 → s.heap.get? c = some o → h'.get? c = some o) → Q none { s with heap := h', toks := tk }) :
    wpAny (model prog w) A (pyNext (.ref e)) Q E s := by
  have hT : s.TypeIs (.ref e) "enumerate" := ⟨_, he, rfl⟩
  unfold pyNext
  refine wpAny_bind (wpAny_attempt (wpAny_callSpecial?_slot (name := Str.ofString "__next__") hT F.slot_enumerate_next
    (wpAny_call_entry F.slot_enumerate_next hT F.entry_enumerate_next ?_ (F.args_enumerate_next_1 _))))
  show wpAny _ _ (field (.ref e) 2 >>= _) _ _ _
  refine wpAny_bind (wpAny_field he rfl (x := .ref z) rfl ?_)
  refine wpAny_bind (nextOf_zipA_end S D1 D2 hz ho hTI hTO st1 st2 hle1 hle2 hend fun h' tk x hk hx => ?_)
  obtain ⟨o, ho, hc⟩ := hx
  refine wpAny_bind (wpAny_isInstance (T := "StopIteration") (b := true) ⟨o, ho, hc⟩ isSubtype_stop ?_)
  exact wpAny_pure (hQ _ _ hk)
end
end PySem

/-! Pu24: the turns of enumerate(zip(a, b)), two lists -/
namespace Pu
open PySem PySem.Spec PyProof.Rows L2 Lay
/-- the lists at a and b, side by side, each pair numbered -/
def ItEz (K : PySem.W.Frag) (a b : Addr) (nx ny : Nat) : It :=
  ⟨fun i H => ∃ (xs ys : List V) (x y : V), SqL K H a xs ∧ SqL K H b ys ∧ xs[i]? = some x ∧ ys[i]? = some y ∧ xs.length = nx ∧ ys.length = ny,
    fun i H v H' => ∃ T1 T2 x y, v = .ref T2 ∧ H T1 = none ∧ upd H T1 (.tup [x, y]) T2 = none ∧ H' = upd (upd H T1 (.tup [x, y])) T2 (.tup [.int (i : Nat), .ref T1]) ∧ (∀ xs, SqL K H a xs → xs[i]? = some x) ∧ ∀ ys, SqL K H b ys → ys[i]? = some y,
    fun i H => ∃ xs ys : List V, SqL K H a xs ∧ SqL K H b ys ∧ (xs.length ≤ i ∨ ys.length ≤ i) ∧ xs.length = nx ∧ ys.length = ny⟩
theorem turn_enumZip {P : Program} {w : World} {K : PySem.W.Frag} {elts : List Expr} {kk : Nat} {tpos : PySem.Pos} {a b e z TI TO i1 i2 : Addr} {nx ny : Nat} (D : ZipSep2 z TI TO i1 i2 [i1, a] [i2, b]) (hez : e ≠ z) (heI : e ≠ TI) (heT : e ≠ TO) (he1 : e ≠ i1) (he2 : e ≠ i2) (ha : a ≠ i1) (hb : b ≠ i2) :
    Turn P w K (.Tuple elts kk tpos) (ItEz K a b nx ny) [e, z, TI, TO, i1, i2] e (fun i h => (∃ old, IsEnum h e z ((i : Nat) : Int) old) ∧ (∃ f fl, ZipC h z TI TO f fl ∧ OutOk f) ∧ IsTupOf2 h TI (.ref i1) (.ref i2) ∧ (∃ x y, IsTupOf2 h TO x y) ∧ h.IsListIter i1 a i ∧ h.IsListIter i2 b i ∧ i ≤ nx ∧ i ≤ ny) where
  mem := by simp
  obj := fun i h st c hc => by
    obtain ⟨⟨old, he⟩, ⟨f, fl, hz, _⟩, hTI, ⟨x, y, hTO⟩, ⟨o1, e1, _, d1⟩, ⟨o2, e2, _, d2⟩, _⟩ := st
    have e' : c = e ∨ c = z ∨ c = TI ∨ c = TO ∨ c = i1 ∨ c = i2 := by simpa using hc
    rcases e' with q | q | q | q | q | q
    · rw [q]; exact ⟨_, he, fun v q => nomatch q⟩
    · rw [q]; exact ⟨_, hz, fun v q => nomatch q⟩
    · rw [q]; exact ⟨_, hTI, fun v q => nomatch q⟩
    · rw [q]; exact ⟨_, hTO, fun v q => nomatch q⟩
    · rw [q]; exact ⟨o1, e1, fun v q => by rw [d1] at q; cases q⟩
    · rw [q]; exact ⟨o2, e2, fun v q => by rw [d2] at q; cases q⟩
  keep := fun i h h' st k => by
    obtain ⟨⟨old, he⟩, ⟨f, fl, hz, ho⟩, hTI, ⟨x, y, hTO⟩, h1, h2, hl⟩ := st
    exact ⟨⟨old, k e (by simp) _ he⟩, ⟨f, fl, k z (by simp) _ hz, ho⟩, k TI (by simp) _ hTI, ⟨x, y, k TO (by simp) _ hTO⟩, h1.at fun o q => k i1 (by simp) o q, h2.at fun o q => k i2 (by simp) o q, hl⟩
  item := by
    intro X hP hw hK hc i pins s σ H E I hf st hg
    subst hP hw hK
    obtain ⟨⟨old, he⟩, ⟨f, fl, hz, ho⟩, hTI, ⟨x0, y0, hTO⟩, h1, h2, hl1, hl2⟩ := st
    obtain ⟨xs, ys, x, y, hqx, hqy, hx, hy, en1, en2⟩ := hg
    obtain ⟨its, rv, p, _⟩ := I.list hqx
    obtain ⟨its2, rv2, p2, _⟩ := I.list hqy
    obtain ⟨u, hu, ru⟩ := rv.get hx
    obtain ⟨u2, hu2, ru2⟩ := rv2.get hy
    have hlt1 : i < its.toArray.size := by rw [List.size_toArray]; exact (List.getElem?_eq_some_iff.mp hu).1
    have hlt2 : i < its2.toArray.size := by rw [List.size_toArray]; exact (List.getElem?_eq_some_iff.mp hu2).1
    refine pyNext_enumZip_item D (Draws.list (prog := X.prog) (w := X.w) (A := X.A.in1.in1) (I.ok.hd hc) i1 a ha its.toArray) (Draws.list (prog := X.prog) (w := X.w) (A := X.A.in1.in1) (I.ok.hd hc) i2 b hb its2.toArray) he hez heT he1 he2 hz ho hTI ⟨x0, y0, hTO⟩ ⟨h1, p.isList⟩ ⟨h2, p2.isList⟩ hlt1 hlt2 fun v hp1 hp2 tk v1 v2 r hO hT hsz hk => ?_
    refine ⟨_, rfl, wpAny_letOwnedTupleGo_enum (s := { s with heap := hp2, toks := tk + 1 }) hO fun h'' he' sb => ?_⟩
    have ev1 : v1 = u := by
      have q : its.toArray[i]? = some v1 := r.p1
      have hu' : its.toArray[i]? = some u := by simpa using hu
      rw [hu'] at q
      exact (Option.some.inj q).symm
    have ev2 : v2 = u2 := by
      have q : its2.toArray[i]? = some v2 := r.p2
      have hu' : its2.toArray[i]? = some u2 := by simpa using hu2
      rw [hu'] at q
      exact (Option.some.inj q).symm
    subst ev1 ev2
    have hel : e < s.heap.objs.size := Heap.lt_size he
    have hel1 : e < hp1.objs.size := by rw [r.n]; exact Nat.lt_succ_of_lt hel
    have k2 : ∀ c o, c ≠ e → hp1.get? c = some o → h''.get? c = some o := fun c o hc q => (sb.2 c hc).trans (hk c o hc q)
    have nT1 : H s.heap.objs.size = none := I.hok.fresh (Nat.le_refl _)
    have lt : ∀ c, c ∈ [e, z, TI, TO, i1, i2] → c < s.heap.objs.size := fun c hcm => by
      have e' : c = e ∨ c = z ∨ c = TI ∨ c = TO ∨ c = i1 ∨ c = i2 := by simpa using hcm
      rcases e' with q | q | q | q | q | q
      · rw [q]; exact hel
      · rw [q]; exact Heap.lt_size hz
      · rw [q]; exact Heap.lt_size hTI
      · rw [q]; exact Heap.lt_size hTO
      · rw [q]; obtain ⟨_, e1, _⟩ := h1; exact Heap.lt_size e1
      · rw [q]; obtain ⟨_, e2, _⟩ := h2; exact Heap.lt_size e2
    have new1 : ObjOk X.prog X.w (upd H s.heap.objs.size (.tup [x, y])) hp1 s.heap.objs.size (.tup [x, y]) :=
      ⟨by show 2 ≤ sizeLine; decide, [v1, v2], .cons ru (.cons ru2 .nil), ⟨_, r.t, rfl, _, rfl⟩⟩
    have I1 : Inv X pins σ (upd H s.heap.objs.size (.tup [x, y])) { s with heap := hp1, toks := tk } :=
      I.turnedNew (t' := tk) (ch := [e, z, TI, TO, i1, i2]) (fun c o hb q => r.k c o (fun q' => hb (by simp [q'])) (fun q' => hb (by simp [q'])) (fun q' => hb (by simp [q'])) (fun q' => hb (by simp [q'])) q) hf (Nat.le_refl _) new1
    have hf1 : ∀ c ∈ [e, z, TI, TO, i1, i2], FpOk X pins (upd H s.heap.objs.size (.tup [x, y])) c := fun c hcm => by
      refine ⟨?_, (hf c hcm).2⟩
      rw [upd_ne (Nat.ne_of_lt (lt c hcm))]
      exact (hf c hcm).1
    have hT2 : h''.get? hp1.objs.size = some { cls := .type "tuple", data := .seq #[.int i tk, v] } := (sb.2 _ (Nat.ne_of_gt hel1)).trans hT
    have ev : v = .ref s.heap.objs.size := r.x
    have new2 : ObjOk X.prog X.w (upd (upd H s.heap.objs.size (.tup [x, y])) hp1.objs.size (.tup [.int (i : Nat), .ref s.heap.objs.size])) h'' hp1.objs.size (.tup [.int (i : Nat), .ref s.heap.objs.size]) :=
      ⟨by show 2 ≤ sizeLine; decide, [.int i tk, v], .cons ⟨_, rfl⟩ (.cons ev .nil), ⟨_, hT2, rfl, _, rfl⟩⟩
    have I2 : Inv X pins σ (upd (upd H s.heap.objs.size (.tup [x, y])) hp1.objs.size (.tup [.int (i : Nat), .ref s.heap.objs.size])) { s with heap := h'', toks := tk + 1 } :=
      I1.turnedNew (t' := tk + 1) (ch := [e, z, TI, TO, i1, i2]) (fun c o hb q => k2 c o (fun q' => hb (by simp [q'])) q) hf1 (Nat.le_refl _) new2
    obtain ⟨f1, fl1, hz1, ho1⟩ := r.zc
    obtain ⟨w1, w2, hTO1⟩ := r.to
    refine ⟨.ref hp1.objs.size, _, I2, rfl, ⟨_, _, x, y, rfl, nT1, ?_, rfl, fun l hl => by rw [I.list_inj hl hqx]; exact hx, fun l hl => by rw [I.list_inj hl hqy]; exact hy⟩, ⟨⟨v, ?_⟩, ⟨f1, fl1, k2 _ _ hez.symm hz1, ho1⟩, k2 _ _ heI.symm (r.k _ _ D.TIz D.TITO D.TIi1 D.TIi2 hTI), ⟨w1, w2, k2 _ _ heT.symm hTO1⟩, r.s1.1.at fun o q => k2 _ _ he1.symm q, r.s2.1.at fun o q => k2 _ _ he2.symm q, by rw [← en1]; exact (List.getElem?_eq_some_iff.mp hx).1, by rw [← en2]; exact (List.getElem?_eq_some_iff.mp hy).1⟩, fun c hcm => ?_⟩
    · exact I1.hok.fresh (Nat.le_refl _)
    · have e1 : ((i + 1 : Nat) : Int) = (i : Int) + 1 := by omega
      rw [e1]
      exact he'
    · have l1 := lt c hcm
      rw [upd_ne (by rw [r.n]; exact Nat.ne_of_lt (Nat.lt_succ_of_lt l1)), upd_ne (Nat.ne_of_lt l1)]
      exact (hf c hcm).1
  done := by
    intro X hP hw hK hc i pins s σ H E I hf st hg
    subst hP hw hK
    obtain ⟨⟨old, he⟩, ⟨f, fl, hz, ho⟩, hTI, ⟨x0, y0, hTO⟩, h1, h2, hl1, hl2⟩ := st
    obtain ⟨xs, ys, hqx, hqy, hend, en1, en2⟩ := hg
    obtain ⟨its, rv, p, _⟩ := I.list hqx
    obtain ⟨its2, rv2, p2, _⟩ := I.list hqy
    have l1 := rv.length
    have l2 := rv2.length
    obtain ⟨hi1, hi2, hor⟩ : i ≤ its.toArray.size ∧ i ≤ its2.toArray.size ∧ (i = its.toArray.size ∨ i = its2.toArray.size) := by
      rw [List.size_toArray, List.size_toArray, ← l1, ← l2, en1, en2]
      rw [en1, en2] at hend
      exact ⟨hl1, hl2, hend.elim (fun h => .inl (Nat.le_antisymm hl1 h)) fun h => .inr (Nat.le_antisymm hl2 h)⟩
    refine pyNext_enumZip_end D (Draws.list (prog := X.prog) (w := X.w) (A := X.A.in1.in1) (I.ok.hd hc) i1 a ha its.toArray) (Draws.list (prog := X.prog) (w := X.w) (A := X.A.in1.in1) (I.ok.hd hc) i2 b hb its2.toArray) he hz ho hTI ⟨x0, y0, hTO⟩ ⟨h1, p.isList⟩ ⟨h2, p2.isList⟩ hi1 hi2 hor fun h' tk hk => ⟨rfl, I.turnedL (t' := tk) (ch := [e, z, TI, TO, i1, i2]) (fun c o hb q => hk c o (fun q' => hb (by simp [q'])) (fun q' => hb (by simp [q'])) (fun q' => hb (by simp [q'])) (fun q' => hb (by simp [q'])) q) hf⟩
  self := fun A i s Q E st h => let ⟨⟨_, he⟩, _⟩ := st; wpAny_pyIter_enum he h
end Pu

/-! Pu25: for i, (x, y) in enumerate(zip(a, b)), two lists -/
namespace PySem
open Sem (wp)
open AutoSeq1 (wpAny_loadPart')
theorem meets_enumerate_newZ (z TI TO : Addr) :
    Meets (Builtin.«enumerate.__new__» ⟨[.type "enumerate", .ref z], []⟩) (fun _ R s => ZipC s.heap z TI TO .none false ∧
      R (.ok (.ret (.ref s.heap.objs.size))) { s with heap := s.heap.push { cls := .type "enumerate", data := .fields #[.none, .bool false, .ref z, rawInt 0, .none, .none] } }) :=
  .of_wp fun prog w A R s h => by
    obtain ⟨hp, g, d, tk, os⟩ := s; obtain ⟨hl, h⟩ := h
    have hsub := sub_enumerate
    have q1 : ∀ {A' : Around} {E : Value → Shared → Prop} {Q : Value → Shared → Prop}, Q (.ref z) ⟨hp, g, d, tk, os⟩ → wpAny (model prog w) A' (pyIter (.ref z)) Q E ⟨hp, g, d, tk, os⟩ := fun q => wpAny_pyIter_zip hl q
    wp_walk using q1
    refine wpAny_stack_any fun st => wpAny_pure ?_
    split
    · rename_i c _ _ _ _ _
      cases (c == Value.type "enumerate")
      · wp_walk using q1
        exact ⟨_, rfl, h⟩
      · wp_walk using q1
        exact ⟨_, rfl, h⟩
    · wp_walk using q1
      exact ⟨_, rfl, h⟩
section
variable {prog : Program} {w : World} {A : Around} {E : Value → Shared → Prop} {s : Shared}
theorem call_enumerate_zip {z TI TO : Addr} {Q : Value → Shared → Prop} (hz : ZipC s.heap z TI TO .none false)
    (h : ∀ h', IsEnum h' s.heap.objs.size z 0 .none → h'.objs.size = s.heap.objs.size + 1 → (∀ b o, s.heap.get? b = some o → h'.get? b = some o) → Q (.ref s.heap.objs.size) { s with heap := h' }) :
    wpAny (model prog w) A (call (.type "enumerate") [.ref z]) Q E s := by
  refine callType_new F.called_enumerate (by decide) (F.typeCall_enumerate_1 _) (F.newCall_enumerate_1 _) (fun obj => F.args_object_init_2 obj _) F.entry_enumerate_new
    (meets_enumerate_newZ z TI TO) ⟨hz, ?_⟩
  have he : IsEnum (s.heap.push { cls := .type "enumerate", data := .fields #[.none, .bool false, .ref z, rawInt 0, .none, .none] }) s.heap.objs.size z 0 .none := Heap.get?_push_size _ rfl
  exact ⟨⟨_, he, rfl⟩, h _ he (Heap.size_push ..) fun b o x => Heap.get?_push_of_some _ x⟩
end
end PySem
namespace Pu
open PySem PySem.Spec PyProof.Rows L2 Lay
theorem out2 {x y z : Nat} (h1 : x ≠ y) (h2 : x ≠ z) : x ∉ [y, z] := fun hm => (List.mem_cons.mp hm).elim h1 fun h => h2 (List.mem_singleton.mp h)
theorem nn {x y : Nat} (h : x ≠ y) : x ≠ y := h
theorem zsep (N a b : Nat) (ha : a < N) (hb : b < N) : ZipSep2 (N + 4) (N + 2) (N + 3) N (N + 1) [N, a] [N + 1, b] where
  TIz := nn (by omega)
  TOz := nn (by omega)
  TITO := nn (by omega)
  TIi1 := nn (by omega)
  mem1 := List.mem_cons_self
  zf1 := out2 (by omega) (by omega)
  Tf1 := out2 (by omega) (by omega)
  TIi2 := nn (by omega)
  mem2 := List.mem_cons_self
  zf2 := out2 (by omega) (by omega)
  Tf2 := out2 (by omega) (by omega)
  sep1_2 := out2 (by omega) (by omega)
  sep2_1 := out2 (by omega) (by omega)
theorem ne5 (N k : Nat) (h : k < 5) : N + 5 ≠ N + k := by omega
theorem ne50 (N : Nat) : N + 5 ≠ N := by omega
def iEnumZ (K : PySem.W.Frag) (ta : TA) : TI := fun σ H R => ta σ H fun vs H1 => ∃ a b xs ys, vs = [.ref a, .ref b] ∧ SqL K H1 a xs ∧ SqL K H1 b ys ∧ R (ItEz K a b xs.length ys.length) H1
theorem pi_enumZ {X : Cx} {e1 e2 : Expr} {ta : TA} {p p2 pos pos2 tpos : PySem.Pos} {elts : List Expr} {kk : Nat} (hg : Gl X "enumerate") (hm : X.mg "enumerate" = none) (hgz : Gl X "zip") (hmz : X.mg "zip" = none) (ha : PA X [e1, e2] ta)
    (hs : starEach [e1, e2] X.env = (false, eval e1 X.env) :: starEach [e2] X.env := by rfl) (hpl : (backTo pos2 (starEach [e2] X.env)).any (·.1) = false := by rfl)
    (hs1 : starEach [.Call (.Name "zip" p2) [e1, e2] [] pos2] X.env = [(false, eval (.Call (.Name "zip" p2) [e1, e2] [] pos2) X.env)] := by rfl) :
    PI X (.Tuple elts kk tpos) (.Call (.Name "enumerate" p) [.Call (.Name "zip" p2) [e1, e2] [] pos2] [] pos) (iEnumZ X.K ta) := by
  refine ⟨fun pins s σ H R I h => ?_⟩
  refine Call_ (ld_blt I hg hm boot_enumerate (PyProof.Rows.callWith_type1 ?_ hs1 rfl))
  rw [hs1]
  show wpAny _ _ (spliced ((false, eval (.Call (.Name "zip" p2) [e1, e2] [] pos2) X.env) :: [])) _ _ s
  refine Calls.spliced_cons ?_
  refine Call_ (ld_blt I hgz hmz PyProof.Rows.boot_zip (PyProof.Rows.callWith_type1 (thn (ha.run pos2 pins s σ H _ I h) fun us s1 ⟨vs, H1, I1, r1, q1⟩ => ?_) hs hpl))
  obtain ⟨a, b, xs, ys, ex, hqx, hqy, q⟩ := q1
  subst ex
  cases r1 with
  | cons r rr =>
    cases rr with
    | cons r' rr =>
      cases rr
      cases r
      cases r'
      obtain ⟨its, rv, p1, _⟩ := I1.list hqx
      obtain ⟨its2, rv2, p2', _⟩ := I1.list hqy
      have la := p1.lt
      have lb := p2'.lt
      refine zip_begins2 (begins_list a its.toArray) (begins_list b its2.toArray) p1.isList p2'.isList fun h' hz hTI hTO h1 h2 hsz hk => Calls.spliced_nil ?_
      refine call_enumerate_zip (s := { s1 with heap := h' }) (z := s1.heap.objs.size + 4) (TI := s1.heap.objs.size + 2) (TO := s1.heap.objs.size + 3) hz fun h3 he hsz3 hk3 => wpAny_pyIter_enum he ?_
      have I2 : Inv X pins σ H1 { s1 with heap := h3 } := I1.kept (t' := s1.toks) fun c o q => hk3 c o (hk c o q)
      have D : ZipSep2 (s1.heap.objs.size + 4) (s1.heap.objs.size + 2) (s1.heap.objs.size + 3) s1.heap.objs.size (s1.heap.objs.size + 1) [s1.heap.objs.size, a] [s1.heap.objs.size + 1, b] := zsep _ _ _ la lb
      have he5 : h'.objs.size = s1.heap.objs.size + 5 := hsz
      have fresh : ∀ c, c ∈ [h'.objs.size, s1.heap.objs.size + 4, s1.heap.objs.size + 2, s1.heap.objs.size + 3, s1.heap.objs.size, s1.heap.objs.size + 1] → FpOk X pins H1 c := fun c hcm => by
        have e' : c = h'.objs.size ∨ c = s1.heap.objs.size + 4 ∨ c = s1.heap.objs.size + 2 ∨ c = s1.heap.objs.size + 3 ∨ c = s1.heap.objs.size ∨ c = s1.heap.objs.size + 1 := by simpa using hcm
        have hle : s1.heap.objs.size ≤ c := by
          rcases e' with z | z | z | z | z | z <;> rw [z]
          · rw [he5]; exact Nat.le_add_right _ _
          · exact Nat.le_add_right _ _
          · exact Nat.le_add_right _ _
          · exact Nat.le_add_right _ _
          · exact Nat.le_refl _
          · exact Nat.le_add_right _ _
        exact I1.fpOk hle (I1.hok.fresh hle)
      exact ⟨h'.objs.size, _, _, _, H1, rfl, I2, turn_enumZip (nx := xs.length) (ny := ys.length) D (by rw [he5]; exact ne5 _ 4 (by decide)) (by rw [he5]; exact ne5 _ 2 (by decide)) (by rw [he5]; exact ne5 _ 3 (by decide)) (by rw [he5]; exact ne50 _) (by rw [he5]; exact ne5 _ 1 (by decide)) (Nat.ne_of_lt la) (Nat.ne_of_lt (Nat.lt_succ_of_lt lb)),
        ⟨⟨.none, he⟩, ⟨.none, false, hk3 _ _ hz, .inl rfl⟩, hk3 _ _ hTI, ⟨_, _, hk3 _ _ hTO⟩, ⟨_, hk3 _ _ h1, rfl, rfl⟩, ⟨_, hk3 _ _ h2, rfl, rfl⟩, Nat.zero_le _, Nat.zero_le _⟩, fresh, q⟩
end Pu

/-! Pu26: enumerate(zip(a, b)) over values -/
namespace Pu
open PySem PySem.Spec PyProof.Rows L2 Lay
def srcEZ (xs ys : List PV) : Src := ⟨min xs.length ys.length, fun i x => ∃ y z, xs[i]? = some y ∧ ys[i]? = some z ∧ x = .tup [.int (i : Int), .tup [y, z]]⟩
def iEZp (pa : PXA) : PXI := fun γ K E => pa γ (fun xs γ1 => match xs with
  | [.lst xs, .lst ys] => K (srcEZ xs ys) γ1
  | _ => False) E
theorem ji_enumZ {X : Cx} {Ex : WX} {tg e : Expr} {pa : PXA} (h : PI X tg e (iEnumZ X.K (tA X.K Ex pa))) : JI X Ex tg e (iEZp pa) := PI.imp h fun σ H R ⟨R0, G, γ, Kp, Ep, A, h, k, x⟩ =>
  ⟨R0, G, γ, _, Ep, A, h, fun vs H1 G1 ys γ1 s1 A1 r1 h1 => by
    try dsimp only at h1
    split at h1
    · rename_i xs zs
      cases r1 with | cons r r' => cases r' with | cons r2 r3 =>
        cases r3
        cases r with | lst g r => cases r2 with | lst g2 r2 =>
          refine ⟨_, _, _, _, rfl, SqL.of (A1.gh _ _ g), SqL.of (A1.gh _ _ g2), k _ H1 G1 _ γ1 s1 A1 (fun i R2 H2 G2 σ2 γ2 s2 A2 => ⟨fun hi => ?_, fun hi => ?_⟩) h1⟩
          · have hi : i < min xs.length zs.length := hi
            obtain ⟨x, ex⟩ := lt_get (xs := xs) (i := i) (by omega)
            obtain ⟨z, ez⟩ := lt_get (xs := zs) (i := i) (by omega)
            obtain ⟨v, ev, rv⟩ := r.get ex
            obtain ⟨w, ew, rw'⟩ := r2.get ez
            have q1 := SqL.of (K := X.K) (A2.gh _ _ (s2 _ _ g))
            have q2 := SqL.of (K := X.K) (A2.gh _ _ (s2 _ _ g2))
            refine ⟨⟨_, _, v, w, q1, q2, ev, ew, rfl, rfl⟩, fun v' H3 hy => ?_⟩
            obtain ⟨T1, T2, c, d, rfl, nT1, nT2, rfl, hy, hz⟩ := hy
            have e1 := hy _ q1
            have e2 := hz _ q2
            rw [ev] at e1
            rw [ew] at e2
            cases e1
            cases e2
            obtain ⟨A', s, g'⟩ := A2.newG (o := .tup _) nT1
            obtain ⟨A'', s', g''⟩ := A'.newG (o := .tup _) nT2
            exact ⟨_, _, ⟨x, z, ex, ez, rfl⟩, same_trans s s', A'', .tup (.inl g'') (.cons (.int _) (.cons (.tup (.inl (s' _ _ g')) (.cons (((rv.same s2).same s).same s') (.cons (((rw'.same s2).same s).same s') .nil))) .nil))⟩
          · have hi : min xs.length zs.length ≤ i := hi
            exact ⟨_, _, SqL.of (A2.gh _ _ (s2 _ _ g)), SqL.of (A2.gh _ _ (s2 _ _ g2)), by rw [r.len, r2.len]; omega, rfl, rfl⟩
    · exact h1.elim, x⟩
end Pu

/-! Pu27: bytes are no tuple; a dict with bytes as keys that is asked at once -/
namespace Pu
open PySem PySem.Spec PyProof.Rows L2 Lay
theorem byt_declines (b : Array UInt8) (t : Tok) (l : Addr) : Meets (Builtin.«bytes.__eq__» ⟨[.bytes b t, .ref l], []⟩) (fun _ R s => (∃ o, s.heap.get? l = some o ∧ o.cls = .type "tuple") ∧ R (.ok (.ret .notImplemented)) s) :=
  .of_wp fun prog w A R s h => by
    obtain ⟨⟨o, ho, hc⟩, hR⟩ := h
    show wpAny _ A.in1 (isInstance (.ref l) (.type "bytes") >>= fun r => _) _ _ s
    refine wpAny_bind (wpAny_isInstance (T := "tuple") (b := false) ⟨o, ho, hc⟩ F.sub_tuple_bytes ?_)
    simp only [Bool.not_false, if_true]
    exact wpAny_bind (wpAny_rule (wpAny_bind (wpAny_pure (wpAny_pure ⟨_, rfl, hR⟩))))
theorem tup_declines (l : Addr) (items : Array Value) (n : Nat) (dd : Option Addr) (sl : Array (Option Value)) (b : Array UInt8) (u : Tok) :
    Meets (Builtin.«tuple.__eq__» ⟨[.ref l, .bytes b u], []⟩) (fun _ R s => s.heap.get? l = some { cls := .type "tuple", dict := dd, data := .seq items n, slots := sl } ∧ R (.ok (.ret .notImplemented)) s) :=
  .of_wp fun prog w A R s h => by
    obtain ⟨hp, g, d, tk, os⟩ := s
    obtain ⟨hl, hR⟩ := h
    have sb := F.sub_bytes_tuple
    wp_walk using SeqAt.wpAny_loadPart' hl
    exact ⟨_, rfl, hR⟩
theorem byt_tup {A : Around} {s : Shared} {l : Addr} {items : Array Value} (b : Array UInt8) (t : Tok) (hl : s.heap.IsTuple l items) (hu : A.units < cLine) : SeqAt.RcAt A s (.bytes b t) (.ref l) false := fun prog w E Q h => by
  obtain ⟨⟨cls, dd, data, sl⟩, ho, hc, n, hd⟩ := id hl
  dsimp only at hc hd
  subst hc hd
  refine SeqAt.rc_eq_decline_or (k := false) (PySem.W.typeIs_bytes s b t) ⟨_, ho, rfl⟩ (by decide) F.sub_tuple_bytes PySem.W.FB.slot_bytes_eq F.slot_tuple_eq_refl ?_ ?_ ?_ (.inr hu) h
  · exact fun _ hq => call_meets PySem.W.FB.slot_bytes_eq (PySem.W.typeIs_bytes s b t) PySem.W.FB.entry_bytes_eq (PySem.W.FB.args_bytes_eq_2 _ _) (byt_declines b t l) ⟨⟨_, ho, rfl⟩, hq⟩
  · exact fun _ hq => call_meets F.slot_tuple_eq_refl ⟨_, ho, rfl⟩ F.entry_tuple_eq (F.args_tuple_eq_2 _ _) (tup_declines l items n dd sl b t) ⟨ho, hq⟩
  · exact fun _ hq => wpAny_of_eq (rfl : isSame (.bytes b t) (.ref l) = pure false) hq
/-- x == y, x bytes and y a tuple -/
def rBT (K : PySem.W.Frag) : R2 := fun x y H Q => ∃ (b : Array UInt8) (a : Addr) (xs : List V), x = .byt b ∧ y = .ref a ∧ SqT K H a xs ∧ Q (.bl false) H
theorem op_eqBT {X : Cx} (hu : X.A.units + 64 < cLine) : OpR X (compareOp .Eq) (rBT X.K) := by
  intro pins s σ H x y v u Q I rx ry h
  obtain ⟨b, a, xs, rfl, rfl, h1, q⟩ := h
  obtain ⟨t, rfl⟩ := rx
  obtain rfl : u = Value.ref a := ry
  obtain ⟨us, r1, p1, _⟩ := I.tuple h1
  exact EqBoolInt.of_rc (byt_tup b t p1 (by omega)) ⟨.bl false, H, I, rfl, q⟩
def btP (x y : PV) (k : PV → Prop) : Prop := match x, y with
  | .byt _, .tup _ => k (.bl false)
  | _, _ => False
theorem bin_bt {K : PySem.W.Frag} : Bin K (rBT K) btP := fun {R G H σ γ v w x y Kp Q} A rx ry q k => by
  unfold btP at q
  split at q
  · cases rx
    cases ry with
    | tup h2 r2 => exact ⟨_, _, _, rfl, rfl, h2.sq A.gh, k _ H G _ same_refl A (.bl _) q⟩
  · exact q.elim
/-! ### a dict with bytes as keys -/
def KVB : List (Array UInt8 × V) → List (List UInt8 × Value) → Prop := Paired fun (p : Array UInt8 × V) (q : List UInt8 × Value) => p.1.toList = q.1 ∧ RelV p.2 q.2
def DcB (P : Program) (w : World) (a : Addr) (kvs : List (Array UInt8 × V)) : HO := .ext fun h => (a == sysModules) = false ∧ ∃ vs : List (List UInt8 × Value), KVB kvs vs ∧ h.DictOf (PySem.W.bytesKind P w) a (merged [] vs)
section
variable {X : Cx} {pins : List (Addr × Obj)} {σ : L2.St} {H : Hp} {s : Shared} {a : Addr}
theorem dcb_new {P : Program} {w : World} {h : Heap} {kvs : List (Array UInt8 × V)} {vs : List (List UInt8 × Value)} (n : (a == sysModules) = false) (r : KVB kvs vs) (d : h.DictOf (PySem.W.bytesKind P w) a (merged [] vs)) : ObjOk P w H h a (DcB P w a kvs) := by
  refine ⟨⟨n, vs, r, d⟩, ?_, fun h1 h2 p k => ?_⟩
  · obtain ⟨o, _, _, ho, _⟩ := d
    exact ⟨o, ho⟩
  · obtain ⟨n, vs, r, d⟩ := p
    exact ⟨n, vs, r, d.at' k⟩
theorem val_last {K : Type} [DecidableEq K] (k : K) (v : Value) : ∀ m : List (K × Value), valueAt (stored m k v) k = some v := fun m => by
  unfold stored valueAt
  by_cases h : (m.any fun kv => decide (kv.1 = k)) = true
  · rw [if_pos h]
    induction m with
    | nil => cases h
    | cons p m ih =>
      obtain ⟨n, x⟩ := p
      rw [List.map_cons, List.find?_cons]
      by_cases e : n = k
      · simp [e]
      · have h' : (m.any fun kv => decide (kv.1 = k)) = true := by
          rw [List.any_cons] at h
          have h1 : decide (n = k) = false := decide_eq_false e
          rw [show decide ((n, x).fst = k) = false from h1, Bool.false_or] at h
          exact h
        have e2 := ih h'
        dsimp only
        rw [if_neg e]
        dsimp only
        rw [decide_eq_false e]
        exact e2
  · rw [if_neg h, List.find?_append]
    have hn : (m.find? fun kv => decide (kv.1 = k)) = none := by
      rw [List.find?_eq_none]
      intro x hx hk
      exact h (List.any_eq_true.mpr ⟨x, hx, hk⟩)
    rw [hn]
    simp
theorem kvb_last {P : Program} {w : World} {front : List (Array UInt8 × V)} {k : Array UInt8} {v : V} : ∀ {vs : List (List UInt8 × Value)}, KVB (front ++ [(k, v)]) vs → ∃ us u, vs = us ++ [(k.toList, u)] ∧ RelV v u := fun {vs} h => by
  induction front generalizing vs with
  | nil =>
    cases h with
    | cons h t =>
      cases t
      rename_i q
      obtain ⟨q1, q2⟩ := q
      obtain ⟨h1, h2⟩ := h
      exact ⟨[], q2, by rw [show k.toList = q1 from h1]; rfl, h2⟩
  | cons p front ih =>
    cases h with
    | cons h t =>
      obtain ⟨us, u, e, r⟩ := ih t
      exact ⟨_ :: us, u, by rw [e]; rfl, r⟩
/-- dict(xs) of a list of pairs whose keys are bytes -/
def rDictC (P : Program) (w : World) (K : PySem.W.Frag) : List V → Hp → VK → Prop := fun xs H Q => ∃ (a : Addr) (ps : List Addr) (kvs : List (Array UInt8 × V)), xs = [.ref a] ∧ SqL K H a (ps.map V.ref) ∧ Paired (fun p kv => SqT K H p [.byt kv.1, kv.2]) ps kvs ∧ ∀ p, H p = none → Q (.ref p) (upd H p (DcB P w p kvs))
theorem bpairs_of (I : Inv X pins σ H s) : ∀ {ps : List Addr} {kvs : List (Array UInt8 × V)}, Paired (fun p kv => SqT X.K H p [.byt kv.1, kv.2]) ps kvs →
    ∃ (vs : List (List UInt8 × Value)) (prs : List (Value × Value)), KVB kvs vs ∧ prs.length = ps.length ∧ vs.length = ps.length ∧ (∀ (j : Nat) k v, prs[j]? = some (k, v) → ∃ b, ps[j]? = some b ∧ PairAt s.heap b k v) ∧
      ∀ (i : Nat) key v, prs[i]? = some (key, v) → ∃ k, vs[i]? = some (k, v) ∧ PySem.W.isBytes k key = true
  | _, _, .nil => ⟨[], [], .nil, rfl, rfl, (fun j k v e => by simp at e), fun j k v e => by simp at e⟩
  | _, _, .cons (a := p) (b := kv) h t => by
    obtain ⟨vs, prs, r, l1, l2, h1, h2⟩ := bpairs_of I t
    obtain ⟨us, ru, pu, _⟩ := I.tuple h
    cases ru with
    | cons r1 r2 =>
      cases r2 with
      | cons r2 r3 =>
        cases r3
        rename_i u1 u2
        obtain ⟨t1, rfl⟩ := r1
        refine ⟨(kv.1.toList, u2) :: vs, (.bytes kv.1 t1, u2) :: prs, .cons ⟨rfl, r2⟩ r, by rw [List.length_cons, List.length_cons, l1], by rw [List.length_cons, List.length_cons, l2], fun j k v e => ?_, fun j k v e => ?_⟩
        · cases j with
          | zero =>
            cases e
            exact ⟨p, rfl, .inl pu⟩
          | succ j => exact h1 j k v e
        · cases j with
          | zero =>
            cases e
            exact ⟨_, rfl, by show (kv.1.toList == kv.1.toList) = true; exact beq_self_eq_true _⟩
          | succ j => exact h2 j k v e
theorem call_dictC (hc : X.calm = true) : CallR X (.type "dict") (rDictC X.prog X.w X.K) := by
  intro pins s σ H xs us Q I r q
  obtain ⟨a, ps, kvs, rfl, hq, hp, q⟩ := q
  cases r with
  | cons r1 r2 =>
    cases r2
    cases r1
    obtain ⟨its, rv, pl, hz⟩ := I.list hq
    obtain ⟨vs, prs, rel, l1, l2, h1, h2⟩ := bpairs_of I hp
    obtain ⟨o, n, ho, hcl, hd, hdat⟩ := pl
    have hit : ∀ (j : Nat) (b : Addr), ps[j]? = some b → its[j]? = some (.ref b) := fun j b e => by
      obtain ⟨u, e1, r1⟩ := rv.get (i := j) (x := .ref b) (by rw [List.getElem?_map, e]; rfl)
      rw [e1]
      exact congrArg some r1
    have hil : its.length = ps.length := by rw [← rv.length, List.length_map]
    refine call_dict_pairs (knd := PySem.W.bytesKind X.prog X.w) (kvs := vs) (PairArg.list a its.toArray (fun j => (ps[j]?).getD 0) prs) (I.ok.hd hc) ⟨⟨o, n, ho, hcl, hd, hdat⟩, ?_, ?_⟩ ⟨by rw [l2, l1], h2⟩ (by rw [l1]; rw [List.length_map] at hz; exact hz) fun h' tk hd' k => ?_
    · rw [List.size_toArray, hil, l1]
    · intro j k v e
      obtain ⟨b, e1, e2⟩ := h1 j k v e
      have eb : (ps[j]?).getD 0 = b := by rw [e1]; rfl
      dsimp only
      rw [eb]
      exact ⟨by simpa using hit j b e1, e2⟩
    · have hm : (s.heap.objs.size == sysModules) = false := beq_eq_false_iff_ne.mpr (Nat.ne_of_gt I.big)
      exact ⟨.ref s.heap.objs.size, upd H s.heap.objs.size (DcB X.prog X.w s.heap.objs.size kvs), I.laid (t' := tk) (fun b o e => k b o (fun z => nomatch z) e) (Nat.le_refl _) (dcb_new hm rel hd'), rfl, q _ (I.hok.fresh (Nat.le_refl _))⟩
theorem pe_dgetB {o i : Expr} {td ty : TE} {pos : PySem.Pos} (ho : PE X o td) (hi : PE X i ty) (hs : NoSl i) : PE X (.Subscript o i pos) (fun σ H Q => td σ H fun x H1 => ty σ H1 fun y H2 => ∃ (a : Addr) (k : Array UInt8) (front : List (Array UInt8 × V)) (v : V), x = .ref a ∧ y = .byt k ∧ H2 a = some (DcB X.prog X.w a (front ++ [(k, v)])) ∧ Q v H2) := by
  constructor
  intro pins s σ H Q I h
  refine subD_of PySem.F.slot_dict_getitem.lookup hs (thn (ho.run pins s σ H _ I h) ?_)
  rintro u s1 ⟨x, H1, I1, rx, q1⟩
  refine thn (hi.run pins s1 σ H1 _ I1 q1) ?_
  rintro iv s2 ⟨y, H2, I2, ry, a, k, front, v, rfl, rfl, g, q2⟩
  obtain rfl : u = Value.ref a := rx
  obtain ⟨t, rfl⟩ := ry
  obtain ⟨⟨n, vs, r, d⟩, _⟩ := I2.hok a _ g
  obtain ⟨us, w', rfl, rw'⟩ := kvb_last (P := X.prog) (w := X.w) r
  have hv : valueAt (merged [] (us ++ [(k.toList, w')])) k.toList = some w' := by
    unfold merged
    rw [List.foldl_append]
    exact val_last _ _ _
  refine ⟨d.typeIs, ?_⟩
  exact wpAny_getItem_of (by show (k.toList == k.toList) = true; exact beq_self_eq_true _) d.mapOf hv ⟨v, H2, I2.tok _, rw', q2⟩
end
section
variable {K : PySem.W.Frag} {R R' G H : Hp} {σ : L2.St} {γ : PEnv}
theorem At.hold {l : Addr} {o : HO} (A : At K R G H σ γ) (n : H l = none) : At K (upd R l o) G (upd H l o) σ γ := by
  have B := A.newT (o := o) n
  refine ⟨fun b u e => ?_, fun b u e => ?_, B.gh, B.len, fun j g e => ?_, B.di⟩
  · by_cases h : b = l
    · subst h
      rw [upd_same] at e ⊢
      exact e
    · rw [upd_ne h] at e ⊢
      exact A.rh _ _ e
  · by_cases h : b = l
    · subst h
      exact none_of A.gh n
    · rw [upd_ne h] at e
      exact A.rg _ _ e
  · obtain ⟨s, h1, h2⟩ := B.sl j g e
    refine ⟨s, h1, ?_⟩
    cases g with
    | no => trivial
    | sh x => exact h2
    | ow b c =>
      obtain ⟨e1, e2, e3, e4⟩ := h2
      refine ⟨e1, ?_, e3, e4⟩
      have hb : b ≠ l := fun z => by
        obtain ⟨u, eu⟩ := CellR.ex (A.ow e).2.2.2
        rw [z, n] at eu
        cases eu
      rw [upd_ne hb]
      exact e2
theorem At.less (A : At K R' G H σ γ) (s : Same R R') : At K R G H σ γ := by
  refine ⟨same_trans s A.rh, fun b u e => A.rg b u (s _ _ e), A.gh, A.len, fun j g e => ?_, A.di⟩
  obtain ⟨t, h1, h2⟩ := A.sl j g e
  refine ⟨t, h1, ?_⟩
  cases g with
  | no => trivial
  | sh x => exact h2
  | ow b c => exact ⟨h2.1, none_of s h2.2.1, h2.2.2⟩
def bpair (p : Array UInt8 × PV) : PV := .tup [.byt p.1, p.2]
theorem bpairs_rep (gh : Same G H) : ∀ {kvs : List (Array UInt8 × PV)} {vs : List V}, Reps K G vs (kvs.map bpair) → ∃ (ps : List Addr) (ks : List (Array UInt8 × V)), vs = ps.map V.ref ∧ Paired (fun p kv => SqT K H p [.byt kv.1, kv.2]) ps ks ∧ Paired (fun (p : Array UInt8 × V) (q : Array UInt8 × PV) => p.1 = q.1 ∧ Rep K G p.2 q.2) ks kvs
  | [], _, .nil => ⟨[], [], rfl, .nil, .nil⟩
  | (n, x) :: kvs, _, .cons h t => by
    obtain ⟨ps, ks, rfl, hp, hk⟩ := bpairs_rep gh t
    cases h with
    | tup g r =>
      cases r with
      | cons r1 r2 =>
        cases r2 with
        | cons r2 r3 =>
          cases r3
          cases r1
          rename_i ad v2
          exact ⟨ad :: ps, (n, v2) :: ks, rfl, .cons (g.sq gh) hp, .cons ⟨rfl, r2⟩ hk⟩
theorem bpairs_last {front : List (Array UInt8 × PV)} {k : Array UInt8} {x : PV} : ∀ {ks : List (Array UInt8 × V)}, Paired (fun (p : Array UInt8 × V) (q : Array UInt8 × PV) => p.1 = q.1 ∧ Rep K G p.2 q.2) ks (front ++ [(k, x)]) → ∃ f' v, ks = f' ++ [(k, v)] ∧ Rep K G v x := fun {ks} h => by
  induction front generalizing ks with
  | nil =>
    cases h with
    | cons h t =>
      cases t
      rename_i q
      obtain ⟨q1, q2⟩ := q
      obtain ⟨h1, h2⟩ := h
      exact ⟨[], q2, by rw [show q1 = k from h1]; rfl, h2⟩
  | cons p front ih =>
    cases h with
    | cons h t =>
      obtain ⟨us, u, e, r⟩ := ih t
      exact ⟨_ :: us, u, by rw [e]; rfl, r⟩
end
/-- dict([(bytes, value), ..])[bytes], the last pair's key -/
def pDictC (pa : PXA) (q : PX) : PX := fun γ K E => pa γ (fun xs γ1 => match xs with
  | [.lst ys] => ∃ (front : List (Array UInt8 × PV)) (k : Array UInt8) (x : PV), ys = (front ++ [(k, x)]).map bpair ∧ q γ1 (fun y γ2 => y = .byt k ∧ K x γ2) E
  | _ => False) E
theorem pp_dictC {X : Cx} {Ex : WX} {o b : Expr} {pa : PXA} {q : PX} {pos : PySem.Pos} (h : PE X o (tCB (rDictC X.prog X.w X.K) (tA X.K Ex pa))) (hb : JV X Ex b q) (hs : NoSl b := by exact fun _ _ => rfl) : JV X Ex (.Subscript o b pos) (pDictC pa q) := PE.imp (pe_dgetB h hb hs) fun σ H Q ⟨R, G, γ, Kp, Ep, A, h, k, x⟩ =>
  ⟨R, G, γ, _, Ep, A, h, fun vs H1 G1 ys γ1 s1 A1 r1 h1 => by
    try dsimp only at h1
    split at h1
    · rename_i zs
      obtain ⟨front, kk, xx, rfl, h1⟩ := h1
      cases r1 with
      | cons r r2 =>
        cases r2
        cases r with
        | lst g r =>
          obtain ⟨ps, ks, rfl, hp, hk⟩ := bpairs_rep A1.gh r
          obtain ⟨f', v, rfl, rv⟩ := bpairs_last hk
          refine ⟨_, ps, _, rfl, SqL.of (A1.gh _ _ g), hp, fun l nl => ?_⟩
          have B := A1.hold (o := DcB X.prog X.w l (f' ++ [(kk, v)])) nl
          have sR : Same R (upd R l (DcB X.prog X.w l (f' ++ [(kk, v)]))) := same_new (none_of A1.rh nl)
          refine ⟨_, G1, γ1, _, Ep, B, h1, fun y H2 G2 z γ2 s2 A2 r2 h2 => ?_, fun c d ws fs H' G' γ' s' A' e n r q => ?_⟩
          · obtain ⟨rfl, h2⟩ := h2
            cases r2
            exact ⟨l, kk, f', v, rfl, rfl, A2.rh _ _ upd_same, k v H2 G2 xx γ2 (same_trans s1 s2) (A2.less sR) (rv.same s2) h2⟩
          · exact x c d ws fs H' G' γ' (same_trans s1 s') (A'.less sR) e (none_of sR n) r q
    · exact h1.elim, x⟩
end Pu

/-! Pu28: texts of numbers, texts put together, things of one's own that are only looked at -/
namespace Pu
open PySem PySem.Spec PyProof.Rows L2 Lay
/-! ### str(i) -/
def strP (xs : List PV) (k : PV → Prop) : Prop := match xs with
  | [.int i] => i.natAbs.log2 < 1920 ∧ k (.str (toString i))
  | _ => False
theorem cb_str {K : PySem.W.Frag} : Cb K (fun xs H Q => ∃ i, xs = [.int i] ∧ i.natAbs.log2 < 1920 ∧ Q (.str (toString i)) H) strP := fun {R G H σ γ vs xs Kp Q} A r q k => by
  unfold strP at q
  split at q
  · cases r with | cons r1 r2 => cases r2; cases r1; exact ⟨_, rfl, q.1, k _ H G _ same_refl A (.str _) q.2⟩
  · exact q.elim
/-! ### f'..' -/
section
variable {X : Cx} {Ex : WX} {e : Expr} {p : PX} {pos : PySem.Pos}
def pFmt (p : PX) : PX := fun γ K E => p γ (fun x γ1 => match x with
  | .str y => y.length ≤ sizeLine ∧ K (.str y) γ1
  | .int i => i.natAbs.log2 < 1920 ∧ K (.str (toString i)) γ1
  | _ => False) E
theorem pp_fmt (h : JV X Ex e p) : JV X Ex (.FormattedValue e (-1) none pos) (pFmt p) := PE.imp (pe_fmt h) fun σ H Q ⟨R, G, γ, Kp, Ep, A, h, k, x⟩ =>
  ⟨R, G, γ, _, Ep, A, h, fun v H1 G1 y γ1 s1 A1 r1 h1 => by
    try dsimp only at h1
    split at h1
    · cases r1
      exact .inl ⟨_, rfl, h1.1, k _ H1 G1 _ γ1 s1 A1 (.str _) h1.2⟩
    · cases r1
      exact .inr ⟨_, rfl, h1.1, k _ H1 G1 _ γ1 s1 A1 (.str _) h1.2⟩
    · exact h1.elim, x⟩
inductive JJ (X : Cx) (Ex : WX) : List Expr → List PX → Prop
  | nil : JJ X Ex [] []
  | cons {e : Expr} {p : PX} {es : List Expr} {ps : List PX} (h : JV X Ex e p) (r : JJ X Ex es ps) : JJ X Ex (e :: es) (p :: ps)
theorem JJ.pj : ∀ {es : List Expr} {ps : List PX}, JJ X Ex es ps → PJ X es (ps.map (tP X.K Ex))
  | _, _, .nil => .nil
  | _, _, .cons h r => .cons h (JJ.pj r)
def pJs : List PX → Str → PX
  | [], acc => fun γ K _ => K (.str acc) γ
  | p :: ps, acc => fun γ K E => p γ (fun x γ1 => match x with
    | .str y => (acc ++ y).length ≤ sizeLine ∧ pJs ps (acc ++ y) γ1 K E
    | _ => False) E
theorem pjs_to {K : PySem.W.Frag} {Ex : WX} {σ : L2.St} {Q : VK} : ∀ {ps : List PX} {acc : Str} {H : Hp}, tP K Ex (pJs ps acc) σ H Q → tJs (ps.map (tP K Ex)) acc σ H fun out H1 => Q (.str out) H1
  | [], acc, H, ⟨R, G, γ, Kp, Ep, A, h, k, x⟩ => k _ H G _ γ same_refl A (.str _) h
  | p :: ps, acc, H, ⟨R, G, γ, Kp, Ep, A, h, k, x⟩ =>
    ⟨R, G, γ, _, Ep, A, h, fun v H1 G1 y γ1 s1 A1 r1 h1 => by
      try dsimp only at h1
      split at h1
      · cases r1
        exact ⟨_, rfl, h1.1, pjs_to ⟨R, G1, γ1, Kp, Ep, A1, h1.2, fun v H2 G2 z γ2 s2 A2 r2 h2 => k v H2 G2 z γ2 (same_trans s1 s2) A2 r2 h2, x.mono s1⟩⟩
      · exact h1.elim, x⟩
theorem pp_joined {e1 e2 : Expr} {es : List Expr} {ps : List PX} (h : JJ X Ex (e1 :: e2 :: es) ps) : JV X Ex (.JoinedStr (e1 :: e2 :: es) pos) (pJs ps Str.empty) := PE.imp (pe_joined h.pj) fun σ H Q z => pjs_to z
end
/-! ### things of one's own that are only looked at -/
def Sl.frz : Sl → Sl
  | .no => .no
  | .sh x => .sh x
  | .ow _ c => .sh c.pv
def flatV : PV → Bool
  | .non => true | .bl _ => true | .int _ => true | .str _ => true | .byt _ => true
  | _ => false
theorem At.look {K : PySem.W.Frag} {R G H : Hp} {σ : L2.St} {γ : PEnv} (A : At K R G H σ γ) : At K (fun _ => none) H H σ (γ.map Sl.frz) := by
  refine ⟨fun b o e => (by cases e), fun b o e => (by cases e), same_refl, by rw [List.length_map]; exact A.len, fun j g e => ?_, fun i j a c c' e1 _ => ?_⟩
  · rw [List.getElem?_map, Option.map_eq_some_iff] at e
    obtain ⟨g0, e0, rfl⟩ := e
    obtain ⟨s, h1, h2⟩ := A.sl j g0 e0
    refine ⟨s, h1, ?_⟩
    cases g0 with
    | no => trivial
    | sh x =>
      obtain ⟨v, e1, r⟩ := h2
      exact ⟨v, e1, r.same A.gh⟩
    | ow a c =>
      obtain ⟨e1, _, _, e4⟩ := h2
      exact ⟨_, e1, CellR.rep e4 A.gh fun o h => h⟩
  · rw [List.getElem?_map, Option.map_eq_some_iff] at e1
    obtain ⟨g0, _, e0⟩ := e1
    cases g0 <;> cases e0
def pBor (p : PX) : PX := fun γ K _ => p (γ.map Sl.frz) (fun x _ => flatV x = true ∧ K x γ) fun _ _ _ => False
theorem pp_bor {X : Cx} {Ex : WX} {e : Expr} {p : PX} (h : JV X Ex e p) : JV X Ex e (pBor p) := PE.imp h fun σ H Q ⟨R, G, γ, Kp, Ep, A, h, k, x⟩ =>
  ⟨_, H, γ.map Sl.frz, _, fun _ _ _ => False, A.look, h, fun v H1 G1 y γ1 s1 A1 r1 h1 => by
    have sH : Same H H1 := same_trans s1 A1.gh
    have B : At X.K R G H1 σ γ := A.grow same_refl sH (same_trans A.gh sH) fun _ _ _ z => z
    obtain ⟨hf, h1⟩ := h1
    have r2 : Rep X.K G v y := by
      cases y <;> first | (cases hf; done) | (cases r1; constructor)
    exact k v H1 G y γ same_refl B r2 h1, fun c d ws fs H' G' γ' s' A' e n r q => q.elim⟩
def pBorB (p : PXB) : PXB := fun γ K _ => p (γ.map Sl.frz) (fun b _ => K b γ) fun _ _ _ => False
theorem pb_bor {X : Cx} {Ex : WX} {e : Expr} {p : PXB} (h : JB X Ex e p) : JB X Ex e (pBorB p) := PT.imp h fun σ H Q ⟨R, G, γ, Kp, Ep, A, h, k, x⟩ =>
  ⟨_, H, γ.map Sl.frz, _, fun _ _ _ => False, A.look, h, fun b H1 G1 γ1 s1 A1 h1 => by
    have sH : Same H H1 := same_trans s1 A1.gh
    exact k b H1 G γ same_refl (A.grow same_refl sH (same_trans A.gh sH) fun _ _ _ z => z) h1, fun c d ws fs H' G' γ' s' A' e n r q => q.elim⟩
/-! ### texts -/
theorem txt_int (i : Int) : PyData.canLay0 (.str (Str.ofString (toString i))) = true := by
  show PyData.strOk _ = true
  unfold PyData.strOk
  rw [Str.ofString_eq_toList, Array.all_eq_true']
  intro n hn
  have hn : n ∈ (toString i).toList.map Char.toNat := by simpa using hn
  obtain ⟨c, hc, rfl⟩ := List.mem_map.mp hn
  have := int_ascii i c hc
  exact decide_eq_true (by omega)
theorem txt_app {a b : Str} (h1 : PyData.canLay0 (.str a) = true) (h2 : PyData.canLay0 (.str b) = true) : PyData.canLay0 (.str (a ++ b)) = true := by
  have h1 : a.cps.all (· < 0x110000) = true := h1
  have h2 : b.cps.all (· < 0x110000) = true := h2
  show (a.cps ++ b.cps).all (· < 0x110000) = true
  rw [Array.all_append, h1, h2]
  rfl
theorem len_int {i : Int} (h : i.natAbs < 10 ^ 10) : (Str.ofString (toString i)).length ≤ 11 := by
  rw [PySem.ofString_length]
  exact int_text_length_le10 (by decide) h
theorem log_int {i : Int} (h : i.natAbs < 10 ^ 10) : i.natAbs.log2 < 1920 := by
  by_cases h0 : i.natAbs = 0
  · rw [h0]
    decide
  · rw [Nat.log2_lt h0]
    exact Nat.lt_of_lt_of_le h (Nat.le_trans (by decide : 10 ^ 10 ≤ 2 ^ 40) (Nat.pow_le_pow_right (by decide) (by omega)))
/-! ### x.reverse() -/
def sRev (i : Nat) : PXS := fun D γ => match γ[i]? with
  | some (.ow a (.lst xs)) => D.nx (γ.set i (.ow a (.lst xs.reverse)))
  | _ => False
theorem js_rev {X : Cx} {Ex : WX} {st : Stmt} {i : Nat} (h : PS X st (tDrop (tBM0 X.K "list" rReverse (tVar i)))) : JS X Ex st (sRev i) := PS.imp h fun D σ H ⟨R, G, γ, P, A, h, E⟩ => by
  unfold sRev at h
  split at h
  · rename_i a xs e2
    obtain ⟨e1, _, _, vs, e5, r5⟩ := A.ow e2
    exact ⟨_, e1, .inl ⟨rfl, vs, SqL.of e5⟩, _, vs, rfl, rfl, e5, E.nx σ _ G _ same_refl (At.write (c' := .lst xs.reverse) A e2 ⟨_, upd_same, Reps.rev r5⟩) h⟩
  · exact h.elim
end Pu

/-! Pu29: list(zip(a, b)) of two lists; x in ys of nested data -/
namespace PySem
open Sem (wp)
/-- the pairs laid by a walk over a zip -/
structure ZG (P1 P2 : Nat → Value → Prop) (lo : Addr) (h : Heap) (as : List Addr) : Prop where
  rise : as.Pairwise (· < ·)
  above : ∀ a ∈ as, lo < a
  pairs : ∀ (j : Nat) (a : Addr), as[j]? = some a → ∃ x y, P1 j x ∧ P2 j y ∧ h.get? a = some { cls := .type "tuple", data := .seq #[x, y] }
theorem ZG.there {P1 P2 : Nat → Value → Prop} {lo : Addr} {h : Heap} {as : List Addr} (g : ZG P1 P2 lo h as) {a : Addr} (ha : a ∈ as) : a < h.objs.size := by
  obtain ⟨j, hj⟩ := List.mem_iff_getElem?.mp ha
  obtain ⟨_, _, _, _, e⟩ := g.pairs j a hj
  exact Heap.lt_size e
theorem ZG.low {P1 P2 : Nat → Value → Prop} {lo lo' : Addr} {h : Heap} {as : List Addr} (g : ZG P1 P2 lo h as) (hl : lo' ≤ lo) : ZG P1 P2 lo' h as := ⟨g.rise, fun a ha => Nat.lt_of_le_of_lt hl (g.above a ha), g.pairs⟩
/-- a zip in use -/
structure ZSt (z TI TO i1 i2 : Addr) (St1 St2 : Nat → Heap → Prop) (i : Nat) (h : Heap) : Prop where
  zc : ∃ f fl, ZipC h z TI TO f fl ∧ OutOk f
  ti : IsTupOf2 h TI (.ref i1) (.ref i2)
  to : ∃ a1 a2, IsTupOf2 h TO a1 a2
  s1 : St1 i h
  s2 : St2 i h
section
variable {prog : Program} {w : World} {A : Around} {E : Value → Shared → Prop} {s : Shared} {z TI TO i1 i2 : Addr} {fp1 fp2 : List Addr} {n1 n2 i : Nat} {P1 P2 : Nat → Value → Prop} {St1 St2 : Nat → Heap → Prop}
theorem ZSt.keep {h h' : Heap} (S : ZipSep2 z TI TO i1 i2 fp1 fp2) (D1 : Draws prog w A i1 fp1 n1 P1 St1) (D2 : Draws prog w A i2 fp2 n2 P2 St2) (x : ZSt z TI TO i1 i2 St1 St2 i h) {L : Addr} (hk : ∀ b o, b ≠ L → h.get? b = some o → h'.get? b = some o)
    (nz : z ≠ L) (nI : TI ≠ L) (nO : TO ≠ L) (n1 : L ∉ fp1) (n2 : L ∉ fp2) : ZSt z TI TO i1 i2 St1 St2 i h' := by
  obtain ⟨⟨f, fl, hz, ho⟩, ti, ⟨a1, a2, to⟩, s1, s2⟩ := x
  exact ⟨⟨f, fl, hk _ _ nz hz, ho⟩, hk _ _ nI ti, ⟨a1, a2, hk _ _ nO to⟩, D1.frame _ _ _ s1 fun b hb o e => hk b o (fun q => n1 (q ▸ hb)) e, D2.frame _ _ _ s2 fun b hb o e => hk b o (fun q => n2 (q ▸ hb)) e⟩
theorem pyNext_zipA_item {Q : Option Value → Shared → Prop} (S : ZipSep2 z TI TO i1 i2 fp1 fp2) (D1 : Draws prog w A.in1 i1 fp1 n1 P1 St1) (D2 : Draws prog w A.in1 i2 fp2 n2 P2 St2) (hst : ZSt z TI TO i1 i2 St1 St2 i s.heap) (hlt1 : i < n1) (hlt2 : i < n2)
    (hQ : ∀ x1 x2 h' tk, P1 i x1 → P2 i x2 → ZSt z TI TO i1 i2 St1 St2 (i + 1) h' → h'.get? s.heap.objs.size = some { cls := .type "tuple", data := .seq #[x1, x2] } → h'.objs.size = s.heap.objs.size + 1 →
      (∀ c o, c ≠ z → c ≠ TO → c ≠ i1 → c ≠ i2 → s.heap.get? c = some o → h'.get? c = some o) → Q (some (.ref s.heap.objs.size)) { s with heap := h', toks := tk }) :
    wpAny (model prog w) A (pyNext (.ref z)) Q E s := by
  obtain ⟨⟨f, fl, hz, ho⟩, ti, to, s1, s2⟩ := hst
  have hT : s.TypeIs (.ref z) "zip" := ⟨_, hz, rfl⟩
  unfold pyNext
  exact wpAny_bind (wpAny_attempt (wpAny_callSpecial?_slot (name := Str.ofString "__next__") hT F.slot_zip_next
    (wpAny_call_entry F.slot_zip_next hT F.entry_zip_next
      (zipA_next_item S D1 D2 hz ho ti to s1 s2 hlt1 hlt2 fun x1 x2 h' tk f1 fl1 y1 y2 b1 b2 b3 d1 d2 b5 b6 b7 =>
        wpAny_pure (hQ x1 x2 h' tk y1 y2 ⟨⟨f1, fl1, b1, b2⟩, b7 _ _ S.TIz S.TITO S.TIi1 S.TIi2 ti, b3, d1, d2⟩ b5 b6 b7)) (F.args_zip_next_1 _))))
theorem pyNext_zipA_end {Q : Option Value → Shared → Prop} (S : ZipSep2 z TI TO i1 i2 fp1 fp2) (D1 : Draws prog w A.in1 i1 fp1 n1 P1 St1) (D2 : Draws prog w A.in1 i2 fp2 n2 P2 St2) (hst : ZSt z TI TO i1 i2 St1 St2 i s.heap) (hle1 : i ≤ n1) (hle2 : i ≤ n2) (hend : i = n1 ∨ i = n2)
    (hQ : ∀ h' tk, (∀ c o, c ≠ z → c ≠ TO → c ≠ i1 → c ≠ i2 → s.heap.get? c = some o → h'.get? c = some o) → Q none { s with heap := h', toks := tk }) :
    wpAny (model prog w) A (pyNext (.ref z)) Q E s := by
  obtain ⟨⟨f, fl, hz, ho⟩, ti, to, s1, s2⟩ := hst
  have hT : s.TypeIs (.ref z) "zip" := ⟨_, hz, rfl⟩
  unfold pyNext
  refine wpAny_bind (wpAny_attempt (wpAny_callSpecial?_slot (name := Str.ofString "__next__") hT F.slot_zip_next
    (wpAny_call_entry F.slot_zip_next hT F.entry_zip_next (zipA_next_end S D1 D2 hz ho ti to s1 s2 hle1 hle2 hend fun h' tk e hk hx => ?_) (F.args_zip_next_1 _))))
  obtain ⟨o, ho, hc⟩ := hx
  refine wpAny_bind (wpAny_isInstance (T := "StopIteration") (b := true) ⟨o, ho, hc⟩ isSubtype_stop ?_)
  exact wpAny_pure (hQ _ _ hk)
end
section
variable {prog : Program} {w : World} {A : Around} {s : Shared} {R : Result → Shared → Prop} {z TI TO i1 i2 : Addr} {fp1 fp2 : List Addr} {n1 n2 : Nat} {P1 P2 : Nat → Value → Prop} {St1 St2 : Nat → Heap → Prop}
/-- apart from what a zip writes -/
def OffZ (z TO i1 i2 c : Addr) : Prop := c ≠ z ∧ c ≠ TO ∧ c ≠ i1 ∧ c ≠ i2
theorem zl_loop {L lo : Addr} (S : ZipSep2 z TI TO i1 i2 fp1 fp2) (D1 : Draws prog w A.in1.in1 i1 fp1 n1 P1 St1) (D2 : Draws prog w A.in1.in1 i2 fp2 n2 P2 St2) (nz : OffZ z TO i1 i2 L) (nI : TI ≠ L) (f1 : L ∉ fp1) (f2 : L ∉ fp2) (hn : n1 ≤ sizeLine) (res : Value) {h₁ : Heap} (hlo : L ≤ lo) (hloz : ∀ c, lo < c → OffZ z TO i1 i2 c)
    (hR : ∀ h' tk acc c as, (∀ b o, b ≠ L → OffZ z TO i1 i2 b → h₁.get? b = some o → h'.get? b = some o) → h'.get? L = some { cls := .type "list", dict := none, data := .seq acc c, slots := #[] } → as.length = min n1 n2 → ZG P1 P2 lo h' as →
      acc.toList = as.map Value.ref → R (.ok (.ret res)) { s with heap := h', toks := tk }) :
    ∀ (k i : Nat) (h : Heap) (tk c : Nat) (acc : Array Value) (as : List Addr), min n1 n2 - i = k → i ≤ min n1 n2 → ZSt z TI TO i1 i2 St1 St2 i h → (∀ b o, b ≠ L → OffZ z TO i1 i2 b → h₁.get? b = some o → h.get? b = some o) →
      h.get? L = some { cls := .type "list", dict := none, data := .seq acc c, slots := #[] } → acc.toList = as.map Value.ref → as.length = i → ZG P1 P2 lo h as → lo < h.objs.size →
      codeAny (model prog w) A (.builtin "list.extend.loop" ⟨[.ref L, .ref z, res], []⟩) R { s with heap := h, toks := tk } := by
  have hLz : L ≠ z := nz.1
  intro k
  induction k with
  | zero =>
    intro i h tk c acc as hk hi hst hkeep hS hacc hal hG hIs
    have hin : i = min n1 n2 := by omega
    refine codeAny_builtin PySem.F.entry_extend_loop ?_
    rw [Around.under_plainId PySem.F.plain_extend_loop _]
    show wpAny _ A.in1 (pyNext (.ref z) >>= _) _ _ _
    refine wpAny_bind (pyNext_zipA_end (s := { s with heap := h, toks := tk }) (A := A.in1) S D1 D2 hst (by omega) (by omega) (by omega) fun h' tk' he => ?_)
    refine wpAny_pure (hR h' tk' acc c as (fun b o h1 h2 e => he b o h2.1 h2.2.1 h2.2.2.1 h2.2.2.2 (hkeep b o h1 h2 e)) (he L _ nz.1 nz.2.1 nz.2.2.1 nz.2.2.2 hS) (by omega) ⟨hG.rise, hG.above, fun j a hj => ?_⟩ hacc)
    obtain ⟨x, y, e1, e2, e3⟩ := hG.pairs j a hj
    obtain ⟨q1, q2, q3, q4⟩ := hloz a (hG.above a (List.mem_of_getElem? hj))
    exact ⟨x, y, e1, e2, he a _ q1 q2 q3 q4 e3⟩
  | succ k ih =>
    intro i h tk c acc as hk hi hst hkeep hS hacc hal hG hIs
    have hlt : i < min n1 n2 := by omega
    have hsz : acc.size = i := by rw [← Array.length_toList, hacc, List.length_map, hal]
    refine codeAny_builtin PySem.F.entry_extend_loop ?_
    rw [Around.under_plainId PySem.F.plain_extend_loop _]
    show wpAny _ A.in1 (pyNext (.ref z) >>= _) _ _ _
    refine wpAny_bind (pyNext_zipA_item (s := { s with heap := h, toks := tk }) (A := A.in1) S D1 D2 hst (by omega) (by omega) fun x1 x2 h' tk' p1 p2 hst' ht hz hkp => ?_)
    dsimp only at ht hz hkp ⊢
    have hS' := hkp L _ nz.1 nz.2.1 nz.2.2.1 nz.2.2.2 hS
    have up : ∀ b o, b ≠ L → h'.get? b = some o → (h'.update L (Obj.mapSeq (·.push (Value.ref h.objs.size)))).get? b = some o := fun b o hb e => (Heap.get?_update_other _ _ (Ne.symm hb)).trans e
    have hSl : L < h.objs.size := Heap.lt_size hS
    show wpAny _ A.in1 (updateSeq L (·.push (Value.ref h.objs.size)) >>= _) _ _ _
    refine wpAny_bind ?_
    refine wpAny_updateSeq hS' rfl (wpAny_pure ⟨plainId_quiet PySem.F.plain_extend_loop _, ih (i + 1) _ tk' _ (acc.push (Value.ref h.objs.size)) (as ++ [h.objs.size]) (by omega) (by omega) (hst'.keep S D1 D2 up nz.1.symm nI nz.2.1.symm f1 f2)
      (fun b o h1 h2 e => up b o h1 (hkp b o h2.1 h2.2.1 h2.2.2.1 h2.2.2.2 (hkeep b o h1 h2 e))) (Heap.get?_update_self _ hS' rfl) (by rw [Array.toList_push, hacc, List.map_append]; rfl) (by rw [List.length_append, hal]; rfl) ⟨?_, ?_, ?_⟩ ?_⟩) (by rw [hsz]; omega) (by show (acc.push (Value.ref h.objs.size)).size ≤ sizeLine + 1; rw [Array.size_push, hsz]; omega)
    · refine List.pairwise_append.mpr ⟨hG.rise, List.pairwise_singleton _ _, fun a ha b hb => ?_⟩
      rw [List.mem_singleton.mp hb]
      exact hG.there ha
    · intro a ha
      rcases List.mem_append.mp ha with ha | ha
      · exact hG.above a ha
      · rw [List.mem_singleton.mp ha]; exact hIs
    · intro j b hj
      rcases Nat.lt_trichotomy j as.length with h1 | h1 | h1
      · rw [List.getElem?_append_left h1] at hj
        obtain ⟨x', y', e1, e2, e3⟩ := hG.pairs j b hj
        have hb := hG.above b (List.mem_of_getElem? hj)
        obtain ⟨q1, q2, q3, q4⟩ := hloz b hb
        exact ⟨x', y', e1, e2, up b _ (Nat.ne_of_gt (Nat.lt_of_le_of_lt hlo hb)) (hkp b _ q1 q2 q3 q4 e3)⟩
      · subst h1
        have hb : h.objs.size = b := by simpa using hj
        subst hb
        exact ⟨x1, x2, by rw [hal]; exact p1, by rw [hal]; exact p2, up _ _ (Nat.ne_of_gt hSl) ht⟩
      · have hnone : (as ++ [h.objs.size])[j]? = none := List.getElem?_eq_none (by rw [List.length_append, List.length_singleton]; omega)
        rw [hnone] at hj; cases hj
    · have e : (h'.update L (Obj.mapSeq (·.push (Value.ref h.objs.size)))).get? h.objs.size = _ := up _ _ (Nat.ne_of_gt hSl) ht
      exact Nat.lt_trans hIs (Heap.lt_size e)
end
namespace F
theorem zip_no_len : typeLookup (.type "zip") "__len__" = pure none := by rw [typeLookup_type, builtinLookup_eq_fast]; kernel_rfl
theorem zip_no_hint : typeLookup (.type "zip") "__length_hint__" = pure none := by rw [typeLookup_type, builtinLookup_eq_fast]; kernel_rfl
end F
section
variable {prog : Program} {w : World} {A : Around} {E : Value → Shared → Prop} {s : Shared} {z TI TO i1 i2 : Addr} {fp1 fp2 : List Addr} {n1 n2 : Nat} {P1 P2 : Nat → Value → Prop} {St1 St2 : Nat → Heap → Prop}
theorem wpAny_pyIter_zip' {f0 : Value} {fl : Bool} {Q : Value → Shared → Prop} (hz : ZipC s.heap z TI TO f0 fl) (h : Q (.ref z) s) : wpAny (model prog w) A (pyIter (.ref z)) Q E s := by
  have hT : s.TypeIs (.ref z) "zip" := ⟨_, hz, rfl⟩
  refine wpAny_pyIter_slot hT F.slot_zip_iter (wpAny_call_entry F.slot_zip_iter hT F.entry_zip_iter ?_ (F.args_zip_iter_1 _))
  show wpAny _ _ (ret (.ref z)) _ _ s
  exact wpAny_pure ⟨_, rfl, "zip", _, hT, F.slot_zip_next.lookup, h⟩
theorem zl_extend {R : Result → Shared → Prop} {L : Addr} (S : ZipSep2 z TI TO i1 i2 fp1 fp2) (D1 : Draws prog w A.in1.in1 i1 fp1 n1 P1 St1) (D2 : Draws prog w A.in1.in1 i2 fp2 n2 P2 St2) (nz : OffZ z TO i1 i2 L) (nI : TI ≠ L) (f1 : L ∉ fp1) (f2 : L ∉ fp2) (hn : n1 ≤ sizeLine) (res : Value) (hloz : ∀ c, L < c → OffZ z TO i1 i2 c) (c₀ : Nat)
    (hst : ZSt z TI TO i1 i2 St1 St2 0 s.heap) (hLl : L + 1 = s.heap.objs.size) (hL : s.heap.get? L = some { cls := .type "list", data := .seq #[] c₀ })
    (hR : ∀ h' tk acc c as, (∀ b o, b ≠ L → OffZ z TO i1 i2 b → s.heap.get? b = some o → h'.get? b = some o) → h'.get? L = some { cls := .type "list", dict := none, data := .seq acc c, slots := #[] } → as.length = min n1 n2 → ZG P1 P2 L h' as →
      acc.toList = as.map Value.ref → R (.ok (.ret res)) { s with heap := h', toks := tk }) :
    wpAny (model prog w) A.in1 (Builtin.List.listExtendWith (.ref L) (.ref z) res)
      (fun fin s' => match fin with | .done f => R (.ok f) s' | .again c' => c'.quiet = true ∧ codeAny (model prog w) A c' R s') (fun e s' => R (.error e) s') s := by
  obtain ⟨f, fl, hz, ho⟩ := hst.zc
  have hT : s.TypeIs (.ref z) "zip" := ⟨_, hz, rfl⟩
  have key : ∀ (h : Heap) (c₁ tk : Nat), (∀ b o, b ≠ L → s.heap.get? b = some o → h.get? b = some o) → 
      h.get? L = some { cls := .type "list", data := .seq #[] c₁ } → codeAny (model prog w) A (.builtin "list.extend.loop" ⟨[.ref L, .ref z, res], []⟩) R { s with heap := h, toks := tk } := by
    intro h c₁ tk hk hS₁
    refine zl_loop (s := s) (h₁ := s.heap) (lo := L) S D1 D2 nz nI f1 f2 hn res (Nat.le_refl _) hloz hR
      (min n1 n2) 0 h tk c₁ #[] [] (Nat.sub_zero _) (Nat.zero_le _) (hst.keep S D1 D2 hk nz.1.symm nI nz.2.1.symm f1 f2) (fun b o hb _ e => hk b o hb e) hS₁ rfl rfl
      ⟨List.Pairwise.nil, (fun _ ha => nomatch ha), (fun j a hj => by simp at hj)⟩ (Heap.lt_size hS₁)
  unfold Builtin.List.listExtendWith
  refine wpAny_bind (wpAny_typeOf (T := "zip") hT ?_)
  have h1 : Builtin.List.listSameRef (.ref L) (.ref z) = false := by simp [Builtin.List.listSameRef, nz.1]
  have h2 : (Value.type "zip" == Value.type "list") = false := by decide
  have h3 : (Value.type "zip" == Value.type "tuple") = false := by decide
  simp only [h1, h2, h3, Bool.or_false, Bool.false_eq_true, if_false]
  refine wpAny_bind (wpAny_pyIter_zip' hz ?_)
  refine wpAny_bind (wpAny_holding ?_)
  unfold Builtin.List.listLengthHint
  refine wpAny_bind (wpAny_specialOf hT F.zip_no_len ?_)
  show wpAny _ A.in1 (specialOf (Value.ref z) (Str.ofString "__length_hint__") >>= _) _ _ _
  refine wpAny_bind (wpAny_specialOf hT F.zip_no_hint ?_)
  refine wpAny_pure ?_
  show wpAny _ A.in1 (rule "list.extend.makes-room" >>= fun _ => Builtin.List.listTouch (.ref L) >>= fun _ =>
    again (.builtin "list.extend.loop" ⟨[.ref L, .ref z, res], []⟩)) _ _ _
  refine wpAny_bind (wpAny_rule ?_)
  refine wpAny_bind ?_
  show wpAny _ _ (updateSeq L (·.push .none) >>= fun _ => updateSeq L (·.pop)) _ _ _
  refine wpAny_bind (wpAny_updateSeq hL rfl ?_)
  have hS₂ := Heap.get?_update_self (Obj.mapSeq (·.push Value.none)) hL rfl
  refine wpAny_updateSeq (hz := by seq_fits) hS₂ rfl ?_
  have hS₃ := Heap.get?_update_self (Obj.mapSeq (·.pop)) hS₂ rfl
  refine wpAny_pure ⟨plainId_quiet PySem.F.plain_extend_loop _, key _ _ _ (fun b o hb e => ?_) hS₃⟩
  · exact (Heap.get?_update_other _ _ (Ne.symm hb)).trans ((Heap.get?_update_other _ _ (Ne.symm hb)).trans e)
theorem zl_init {R : Result → Shared → Prop} {L : Addr} (S : ZipSep2 z TI TO i1 i2 fp1 fp2) (D1 : Draws prog w A.in1.in1 i1 fp1 n1 P1 St1) (D2 : Draws prog w A.in1.in1 i2 fp2 n2 P2 St2) (nz : OffZ z TO i1 i2 L) (nI : TI ≠ L) (f1 : L ∉ fp1) (f2 : L ∉ fp2) (hn : n1 ≤ sizeLine) (hloz : ∀ c, L < c → OffZ z TO i1 i2 c)
    (hst : ZSt z TI TO i1 i2 St1 St2 0 s.heap) (hLl : L + 1 = s.heap.objs.size) (hL : s.heap.get? L = some { cls := .type "list", data := .seq #[] })
    (hR : ∀ h' tk acc c as, (∀ b o, b ≠ L → OffZ z TO i1 i2 b → s.heap.get? b = some o → h'.get? b = some o) → h'.get? L = some { cls := .type "list", dict := none, data := .seq acc c, slots := #[] } → as.length = min n1 n2 → ZG P1 P2 L h' as →
      acc.toList = as.map Value.ref → R (.ok (.ret .none)) { s with heap := h', toks := tk }) :
    wpAny (model prog w) A.in1 (Builtin.«list.__init__» ⟨[.ref L, .ref z], []⟩)
      (fun fin s' => match fin with | .done f => R (.ok f) s' | .again c' => c'.quiet = true ∧ codeAny (model prog w) A c' R s') (fun e s' => R (.error e) s') s := by
  show wpAny _ _ (do let old ← Builtin.List.listItems (.ref L); Builtin.List.listUpdate (.ref L) (fun _ => #[]); letGo old.toList.reverse; Builtin.List.listExtendWith (.ref L) (.ref z) .none) _ _ s
  refine wpAny_bind ?_
  unfold Builtin.List.listItems
  refine wpAny_bind (wpAny_seqItems hL rfl (wpAny_pure ?_))
  show wpAny _ _ (updateSeq L (fun _ => #[]) >>= fun _ => letGo (#[] : Array Value).toList.reverse >>= fun _ => Builtin.List.listExtendWith (.ref L) (.ref z) .none) _ _ s
  refine wpAny_bind (wpAny_updateSeq hL rfl ?_)
  have hS₂ := Heap.get?_update_self (Obj.mapSeq (fun _ => (#[] : Array Value))) hL rfl
  have oth : ∀ b o, b ≠ L → s.heap.get? b = some o → (s.heap.update L (Obj.mapSeq (fun _ => (#[] : Array Value)))).get? b = some o :=
    fun b o hb e => (Heap.get?_update_other _ _ (Ne.symm hb)).trans e
  have sz : (s.heap.update L (Obj.mapSeq (fun _ => (#[] : Array Value)))).objs.size = s.heap.objs.size := (Heap.SameBut.update ..).1
  refine wpAny_bind (wpAny_letGo ?_)
  refine zl_extend S D1 D2 nz nI f1 f2 hn .none hloz _ (hst.keep S D1 D2 oth nz.1.symm nI nz.2.1.symm f1 f2) (hLl.trans sz.symm) hS₂ fun h' tk acc c as hk hS' hl hG hacc => ?_
  exact hR h' tk acc c as (fun b o hb ho e => hk b o hb ho (oth b o hb e)) hS' hl hG hacc
theorem zl_call {Q : Value → Shared → Prop} (S : ZipSep2 z TI TO i1 i2 fp1 fp2) (D1 : Draws prog w A.in1.in1.in1 i1 fp1 n1 P1 St1) (D2 : Draws prog w A.in1.in1.in1 i2 fp2 n2 P2 St2) (hn : n1 ≤ sizeLine) (hlt : ∀ c, c = z ∨ c = TI ∨ c = TO ∨ c = i1 ∨ c = i2 ∨ c ∈ fp1 ∨ c ∈ fp2 → c < s.heap.objs.size)
    (hst : ZSt z TI TO i1 i2 St1 St2 0 s.heap)
    (hQ : ∀ h' tk acc c as, (∀ b o, OffZ z TO i1 i2 b → s.heap.get? b = some o → h'.get? b = some o) → h'.get? s.heap.objs.size = some { cls := .type "list", dict := none, data := .seq acc c, slots := #[] } → as.length = min n1 n2 → ZG P1 P2 s.heap.objs.size h' as →
      acc.toList = as.map Value.ref → Q (.ref s.heap.objs.size) { s with heap := h', toks := tk }) :
    wpAny (model prog w) A (call (.type "list") [.ref z]) Q E s := by
  refine callType_codes (Q₁ := fun obj s₁ => obj = .ref s.heap.objs.size ∧ s₁ = { s with heap := s.heap.push { cls := .type "list", data := .seq #[] } }) PySem.F.called_list (PySem.F.typeCall_list_1 _) PySem.F.entry_list_init
    (code_list_new _ ⟨rfl, rfl⟩) fun obj s₁ h₁ => ?_
  obtain ⟨rfl, rfl⟩ := h₁
  have hS : (s.heap.push { cls := .type "list", data := .seq #[] }).get? s.heap.objs.size = some { cls := .type "list", data := .seq #[] } := Heap.get?_push_size _ rfl
  have off : ∀ c, s.heap.objs.size ≤ c → OffZ z TO i1 i2 c := fun c hc => ⟨fun q => absurd (hlt c (.inl q)) (Nat.not_lt.mpr hc), fun q => absurd (hlt c (.inr (.inr (.inl q)))) (Nat.not_lt.mpr hc), fun q => absurd (hlt c (.inr (.inr (.inr (.inl q))))) (Nat.not_lt.mpr hc), fun q => absurd (hlt c (.inr (.inr (.inr (.inr (.inl q)))))) (Nat.not_lt.mpr hc)⟩
  have g1 : s.heap.objs.size ∉ fp1 := fun q => Nat.lt_irrefl _ (hlt _ (.inr (.inr (.inr (.inr (.inr (.inl q)))))))
  have g2 : s.heap.objs.size ∉ fp2 := fun q => Nat.lt_irrefl _ (hlt _ (.inr (.inr (.inr (.inr (.inr (.inr q)))))))
  have gI : TI ≠ s.heap.objs.size := Nat.ne_of_lt (hlt TI (.inr (.inl rfl)))
  refine ⟨⟨_, hS, rfl⟩, PySem.F.args_list_init_2 _ _, zl_init (A := A.in1) S D1 D2 (off _ (Nat.le_refl _)) gI g1 g2 hn (fun c hc => off c (Nat.le_of_lt hc)) (hst.keep S D1 D2 (L := s.heap.objs.size) (fun b o _ e => Heap.get?_push_of_some _ e) (off _ (Nat.le_refl _)).1.symm gI (off _ (Nat.le_refl _)).2.1.symm g1 g2) (by show _ = (s.heap.push _).objs.size; rw [Heap.size_push]) hS (fun h' tk acc c as hk hS' hl hG hacc => ?_)⟩
  exact ⟨rfl, hQ h' tk acc c as (fun b o ob e => hk b o (Nat.ne_of_lt (Heap.lt_size e)) ob (Heap.get?_push_of_some _ e)) hS' hl hG hacc⟩
end
end PySem
namespace Pu
open PySem PySem.Spec PyProof.Rows L2 Lay
/-- the pairs tracked at their addresses -/
def putZ : Hp → List Addr → List V → List V → Hp
  | H, a :: as, x :: xs, y :: ys => putZ (upd H a (.tup [x, y])) as xs ys
  | H, _, _, _ => H
theorem putZ_off {b : Addr} : ∀ (as : List Addr) (xs ys : List V) (H : Hp), b ∉ as → putZ H as xs ys b = H b
  | [], _, _, _, _ => rfl
  | _ :: _, [], _, _, _ => rfl
  | _ :: _, _ :: _, [], _, _ => rfl
  | a :: as, x :: xs, y :: ys, H, h => by
    show putZ (upd H a (.tup [x, y])) as xs ys b = H b
    rw [putZ_off as xs ys _ (fun z => h (List.mem_cons_of_mem _ z)), upd_ne (fun z => h (by rw [z]; exact List.mem_cons_self))]
theorem putZ_at : ∀ (as : List Addr) (xs ys : List V) (H : Hp), as.length = min xs.length ys.length → as.Nodup → ∀ (j : Nat) (t : Addr), as[j]? = some t → ∃ x y, xs[j]? = some x ∧ ys[j]? = some y ∧ putZ H as xs ys t = some (.tup [x, y])
  | [], _, _, _, _, _, _, _, h => by cases h
  | _ :: _, [], _, _, h, _, _, _, _ => by simp at h
  | _ :: _, _ :: _, [], _, h, _, _, _, _ => by simp at h
  | a :: as, x :: xs, y :: ys, H, h, hn, j, t, e => by
    have hn' := List.nodup_cons.mp hn
    have hl : as.length = min xs.length ys.length := by simp only [List.length_cons] at h; omega
    cases j with
    | zero =>
      cases e
      refine ⟨x, y, rfl, rfl, ?_⟩
      show putZ (upd H a (.tup [x, y])) as xs ys a = _
      rw [putZ_off as xs ys _ hn'.1, upd_same]
    | succ j => exact putZ_at as xs ys _ hl hn'.2 j t e
/-- the new pairs, known and shared -/
theorem At.newZ {K : PySem.W.Frag} {R : Hp} {σ : L2.St} {γ : PEnv} : ∀ (as : List Addr) (xs ys : List V) {G H : Hp}, as.Nodup → (∀ t ∈ as, H t = none) → At K R G H σ γ → At K R (putZ G as xs ys) (putZ H as xs ys) σ γ ∧ Same G (putZ G as xs ys)
  | [], _, _, _, _, _, _, A => ⟨A, same_refl⟩
  | _ :: _, [], _, _, _, _, _, A => ⟨A, same_refl⟩
  | _ :: _, _ :: _, [], _, _, _, _, A => ⟨A, same_refl⟩
  | a :: as, x :: xs, y :: ys, G, H, nd, nH, A => by
    have nd' := List.nodup_cons.mp nd
    obtain ⟨A1, s1, _⟩ := A.newG (o := .tup [x, y]) (nH a List.mem_cons_self)
    obtain ⟨A2, s2⟩ := At.newZ as xs ys nd'.2 (fun t ht => by rw [upd_ne (fun z => nd'.1 (by rw [← z]; exact ht))]; exact nH t (List.mem_cons_of_mem _ ht)) A1
    exact ⟨A2, same_trans s1 s2⟩
theorem lt5z {N a b c : Nat} (ha : a < N) (hb : b < N) (h : c = N + 4 ∨ c = N + 2 ∨ c = N + 3 ∨ c = N ∨ c = N + 1 ∨ (c = N ∨ c = a) ∨ c = N + 1 ∨ c = b) : c < N + 5 := by omega
theorem off5z {N c : Nat} (h : c < N) : c ≠ N + 4 ∧ c ≠ N + 3 ∧ c ≠ N ∧ c ≠ N + 1 := by omega
def tListZip (K : PySem.W.Frag) (ta : TA) : TE := fun σ H Q => ta σ H fun vs H1 => ∃ a b xs ys, vs = [.ref a, .ref b] ∧ SqL K H1 a xs ∧ SqL K H1 b ys ∧
  ∀ (p : Addr) (ts : List Addr), ts.length = min xs.length ys.length → ts.Nodup → H1 p = none → (∀ t ∈ ts, H1 t = none) → p ∉ ts → Q (.ref p) (upd (putZ H1 ts xs ys) p (.lst (ts.map V.ref)))
section
variable {X : Cx}
theorem vals_refs : ∀ as : List Addr, Vals (as.map V.ref) (as.map Value.ref)
  | [] => .nil
  | _ :: as => .cons rfl (vals_refs as)
theorem zip_laid {pins : List (Addr × Obj)} {σ : L2.St} {H : Hp} {s : Shared} {h' : Heap} {N tk : Nat} {xs ys : List V} {us ws : List Value} {acc : Array Value} {c : Nat} {as : List Addr} (I : Inv X pins σ H s) (hz : xs.length ≤ sizeLine) (rx : Vals xs us) (ry : Vals ys ws) (hN : s.heap.objs.size ≤ N)
    (hk : ∀ b o, s.heap.get? b = some o → h'.get? b = some o) (hS : h'.get? N = some { cls := .type "list", dict := none, data := .seq acc c, slots := #[] }) (hl : as.length = min xs.length ys.length) (hG : ZG (fun i v => us.toArray[i]? = some v) (fun i v => ws.toArray[i]? = some v) N h' as) (hacc : acc.toList = as.map Value.ref) :
    as.Nodup ∧ H N = none ∧ (∀ t ∈ as, H t = none) ∧ N ∉ as ∧ Inv X pins σ (upd (putZ H as xs ys) N (.lst (as.map V.ref))) { s with heap := h', toks := tk } := by
  have hSn : N ∉ as := fun z => Nat.lt_irrefl _ (hG.above _ z)
  have nd : as.Nodup := List.Pairwise.imp (fun {a b} (h : a < b) => Nat.ne_of_lt h) hG.rise
  have new : ∀ t ∈ as, H t = none := fun t ht => I.hok.fresh (Nat.le_trans hN (Nat.le_of_lt (hG.above t ht)))
  have newS : H N = none := I.hok.fresh hN
  have atP := putZ_at as xs ys H hl nd
  have off : ∀ b, b ∉ as → b ≠ N → upd (putZ H as xs ys) N (.lst (as.map V.ref)) b = H b := fun b h1 h2 => by rw [upd_ne h2, putZ_off as xs ys _ h1]
  have low : ∀ b o, s.heap.get? b = some o → b ∉ as ∧ b ≠ N := fun b o e => ⟨fun z => absurd (Heap.lt_size e) (Nat.not_lt.mpr (Nat.le_trans hN (Nat.le_of_lt (hG.above b z)))), Nat.ne_of_lt (Nat.lt_of_lt_of_le (Heap.lt_size e) hN)⟩
  have kp : ∀ b u, H b = some u → (upd (putZ H as xs ys) N (.lst (as.map V.ref))) b = some u := fun b u e => by
    rw [off b (fun z => by rw [new b z] at e; cases e) (fun z => by rw [z, newS] at e; cases e)]
    exact e
  refine ⟨nd, newS, new, hSn, ?_⟩
  refine I.call' (ch := []) rfl ⟨fun b o q _ _ _ => hk b o q, fun b o q _ _ _ => ⟨o.slots, hk b o q⟩, fun b o q n _ => ?_, fun b o q _ => ⟨o, hk b o q⟩, fun b xs q => kp b _ q, fun b o u q => kp b _ q, fun b ps q => ⟨#[], by rw [kp b _ q]; simp⟩⟩ (fun b u q => ?_) I.bare fun b z => by simp at z
  · obtain ⟨z1, z2⟩ := low b o q
    rw [off b z1 z2]
    exact n
  · by_cases hb2 : b = N
    · rw [hb2] at q ⊢
      rw [upd_same] at q
      cases q
      refine ⟨by rw [List.length_map]; omega, acc.toList, c, by rw [hacc]; exact vals_refs as, ?_⟩
      rw [Array.toArray_toList]
      exact hS
    · by_cases hb : b ∈ as
      · obtain ⟨j, e1⟩ := List.mem_iff_getElem?.mp hb
        obtain ⟨x, y, f1, f2, e3⟩ := atP j b e1
        rw [upd_ne hb2, e3] at q
        cases q
        obtain ⟨u, v, g1, g2, g3⟩ := hG.pairs j b e1
        obtain ⟨u', k1, r1⟩ := rx.get f1
        obtain ⟨v', k2, r2⟩ := ry.get f2
        have eu : u' = u := by rw [List.getElem?_toArray, k1] at g1; exact Option.some.inj g1
        have ev : v' = v := by rw [List.getElem?_toArray, k2] at g2; exact Option.some.inj g2
        subst eu ev
        exact ⟨by show 2 ≤ sizeLine; decide, [u', v'], .cons r1 (.cons r2 .nil), ⟨_, g3, rfl, _, rfl⟩⟩
      · rw [off b hb hb2] at q
        exact (I.hok b u q).stay (fun d v _ y => hk d v y) (fun d y => kp d _ y) fun d xs y => kp d _ y
/-- list(zip(a, b)) of lists -/
theorem pe_listZip {e1 e2 : Expr} {ta : TA} {p p2 pos pos2 : PySem.Pos} (hc : X.calm = true) (hg : Gl X "list") (hm : X.mg "list" = none) (hgz : Gl X "zip") (hmz : X.mg "zip" = none) (ha : PA X [e1, e2] ta)
    (hs : starEach [e1, e2] X.env = (false, eval e1 X.env) :: starEach [e2] X.env := by rfl) (hpl : (backTo pos2 (starEach [e2] X.env)).any (·.1) = false := by rfl)
    (hs1 : starEach [.Call (.Name "zip" p2) [e1, e2] [] pos2] X.env = [(false, eval (.Call (.Name "zip" p2) [e1, e2] [] pos2) X.env)] := by rfl) :
    PE X (.Call (.Name "list" p) [.Call (.Name "zip" p2) [e1, e2] [] pos2] [] pos) (tListZip X.K ta) := by
  refine ⟨fun pins s σ H Q I h => ?_⟩
  refine wpAny_Call_Name_kw (ld_blt I hg hm PyProof.Rows.boot_list (PyProof.Rows.callWith_type1 ?_ hs1 rfl))
  rw [hs1]
  show wpAny _ _ (spliced ((false, eval (.Call (.Name "zip" p2) [e1, e2] [] pos2) X.env) :: [])) _ _ s
  refine Calls.spliced_cons ?_
  refine Call_ (ld_blt I hgz hmz PyProof.Rows.boot_zip (PyProof.Rows.callWith_type1 (thn (ha.run pos2 pins s σ H _ I h) fun us s1 ⟨vs, H1, I1, r1, q1⟩ => ?_) hs hpl))
  obtain ⟨a, b, xs, ys, ex, hqx, hqy, q⟩ := q1
  subst ex
  cases r1 with
  | cons r rr =>
    cases rr with
    | cons r' rr =>
      cases rr
      cases r
      cases r'
      obtain ⟨its, rv, p1, hzx⟩ := I1.list hqx
      obtain ⟨its2, rv2, p2', _⟩ := I1.list hqy
      have la := p1.lt
      have lb := p2'.lt
      have l1 := rv.length
      have l2 := rv2.length
      refine zip_begins2 (begins_list a its.toArray) (begins_list b its2.toArray) p1.isList p2'.isList fun h' hz hTI hTO h1 h2 hsz hk => Calls.spliced_nil ?_
      have D : ZipSep2 (s1.heap.objs.size + 4) (s1.heap.objs.size + 2) (s1.heap.objs.size + 3) s1.heap.objs.size (s1.heap.objs.size + 1) [s1.heap.objs.size, a] [s1.heap.objs.size + 1, b] := zsep _ _ _ la lb
      have he5 : h'.objs.size = s1.heap.objs.size + 5 := hsz
      refine zl_call (s := { s1 with heap := h' }) D (Draws.list (prog := X.prog) (w := X.w) (A := X.A.in1.in1.in1) (I1.ok.hd hc) s1.heap.objs.size a (Nat.ne_of_lt la) its.toArray) (Draws.list (prog := X.prog) (w := X.w) (A := X.A.in1.in1.in1) (I1.ok.hd hc) (s1.heap.objs.size + 1) b (Nat.ne_of_lt (Nat.lt_succ_of_lt lb)) its2.toArray)
        (by rw [List.size_toArray]; omega) (fun c hc => ?_) ⟨⟨.none, false, hz, .inl rfl⟩, hTI, ⟨_, _, hTO⟩, ⟨⟨_, h1, rfl, rfl⟩, p1.isList.at fun o e => hk _ o e⟩, ⟨⟨_, h2, rfl, rfl⟩, p2'.isList.at fun o e => hk _ o e⟩⟩ fun h3 tk acc c as hk3 hS hl hG hacc => ?_
      · show c < h'.objs.size
        rw [he5]
        simp only [List.mem_cons, List.not_mem_nil, or_false] at hc
        exact lt5z la lb hc
      · have hk4 : ∀ b o, s1.heap.get? b = some o → h3.get? b = some o := fun b o e => hk3 b o (off5z (Heap.lt_size e)) (hk b o e)
        obtain ⟨nd, n1, n2, n3, J⟩ := zip_laid (N := h'.objs.size) (tk := tk) I1 (by omega) rv rv2 (by rw [he5]; exact Nat.le_add_right _ _) hk4 hS (by rw [hl, List.size_toArray, List.size_toArray, l1, l2]) hG hacc
        exact ⟨.ref _, _, J, rfl, q _ as (by rw [hl, List.size_toArray, List.size_toArray, l1, l2]) nd n1 n2 n3⟩
end
end Pu
namespace Pu
open PySem PySem.Spec PyProof.Rows L2 Lay
theorem reps_zip {K : PySem.W.Frag} {G : Hp} : ∀ (ts : List Addr) (xs ys : List V) (as bs : List PV), ts.length = min xs.length ys.length → Reps K G xs as → Reps K G ys bs → (∀ (j : Nat) (t : Addr), ts[j]? = some t → ∃ x y, xs[j]? = some x ∧ ys[j]? = some y ∧ G t = some (.tup [x, y])) →
    Reps K G (ts.map V.ref) (List.zipWith (fun x y => PV.tup [x, y]) as bs)
  | [], _, _, _, _, _, .nil, _, _ => .nil
  | [], _, _, _, _, _, .cons _ _, .nil, _ => .nil
  | [], _, _, _, _, hl, .cons _ _, .cons _ _, _ => by simp at hl
  | t :: ts, _, _, _, _, hl, .nil, _, _ => by simp at hl
  | t :: ts, _, _, _, _, hl, .cons _ _, .nil, _ => by simp at hl
  | t :: ts, _, _, _, _, hl, .cons r1 r2, .cons q1 q2, h => by
    obtain ⟨x, y, e1, e2, e3⟩ := h 0 t rfl
    cases e1
    cases e2
    refine .cons (.tup (.inl e3) (.cons r1 (.cons q1 .nil))) (reps_zip ts _ _ _ _ ?_ r2 q2 fun j t' e => ?_)
    · simp only [List.length_cons] at hl
      omega
    · obtain ⟨x', y', f1, f2, f3⟩ := h (j + 1) t' e
      exact ⟨x', y', f1, f2, f3⟩
def pLz (pa : PXA) : PXO := fun γ K E => pa γ (fun xs γ1 => match xs with
  | [.lst as, .lst bs] => ∀ a, K a (.lst (List.zipWith (fun x y => PV.tup [x, y]) as bs)) γ1
  | _ => False) E
theorem po_lz {X : Cx} {Ex : WX} {e : Expr} {pa : PXA} (h : PE X e (tListZip X.K (tA X.K Ex pa))) : JO X Ex e (pLz pa) := PE.imp h fun σ H Q ⟨R, G, γ, Kp, Ep, A, h, k, x⟩ =>
  ⟨R, G, γ, _, Ep, A, h, fun vs H1 G1 xs γ1 s1 A1 r1 h1 => by
    try dsimp only at h1
    split at h1
    · cases r1 with | cons r r' => cases r' with | cons r2 r3 =>
        cases r3
        cases r with | lst g ra => cases r2 with | lst g2 rb =>
          refine ⟨_, _, _, _, rfl, SqL.of (A1.gh _ _ g), SqL.of (A1.gh _ _ g2), fun p ts hl nd np nt npts => ?_⟩
          obtain ⟨A2, s2⟩ := At.newZ ts _ _ nd nt A1
          obtain ⟨A3, O3⟩ := A2.newO (o := .lst (ts.map V.ref)) (c := .lst _) (by rw [putZ_off _ _ _ _ npts]; exact np) ⟨_, upd_same, reps_zip ts _ _ _ _ hl (ra.same s2) (rb.same s2) (putZ_at ts _ _ G1 hl nd)⟩
          exact k p _ _ _ γ1 (same_trans s1 s2) A3 O3 (h1 p)
    · exact h1.elim, x⟩
theorem room65 {k : Nat} {A : Around} (r : Room k A) : A.units + 65 < cLine := by have := r.un; omega
/-- x in ys, ys a list of data -/
def inDP (x y : PV) (k : PV → Prop) : Prop := ∃ d ds, x.dat = some d ∧ y.dat = some (.list ds) ∧ SeqAt.shaped d = true ∧ SeqAt.shaped (.list ds) = true ∧ k (.bl (ds.any fun z => PyData.eqv z d))
def notInDP (x y : PV) (k : PV → Prop) : Prop := ∃ d ds, x.dat = some d ∧ y.dat = some (.list ds) ∧ SeqAt.shaped d = true ∧ SeqAt.shaped (.list ds) = true ∧ k (.bl (!ds.any fun z => PyData.eqv z d))
theorem bin_inD {K : PySem.W.Frag} : Bin K (rInD K) inDP := fun {R G H σ γ v w x y Kp Q} A rx ry q k => by
  obtain ⟨d, ds, h1, h2, h3, h4, q⟩ := q
  exact ⟨d, ds, rx.dp A.gh h1, ry.dp A.gh h2, h3, h4, k _ H G _ same_refl A (.bl _) q⟩
theorem bin_notInD {K : PySem.W.Frag} : Bin K (rNotInD K) notInDP := fun {R G H σ γ v w x y Kp Q} A rx ry q k => by
  obtain ⟨d, ds, h1, h2, h3, h4, q⟩ := q
  exact ⟨d, ds, rx.dp A.gh h1, ry.dp A.gh h2, h3, h4, k _ H G _ same_refl A (.bl _) q⟩
end Pu

/-! Pu30: a list comprehension whose items or tests may raise -/
namespace PySem
open Sem (wp)
section
variable {M : Model} {A : Around} {E : Value → Shared → Prop} {s : Shared} {env : Env}
/-- what the block of a comprehension is to reach; c: the block's own environment -/
def compPostE (M : Model) (A : Around) (E : Value → Shared → Prop) (use : Option (Value → Sem Unit)) (Q : Value → Shared → Prop) (acc : Value) (c : Env) (r : Result) (s' : Shared) : Prop :=
  match r, use with
  | .ok _, none => ∃ m, s'.heap.Ns c.locals m ∧ ∀ h', Heap.SameBut c.locals s'.heap h' → Q acc { s' with heap := h' }
  | .ok _, some u => wpAny M A (u acc) (fun _ s'' => ∃ m, s''.heap.Ns c.locals m ∧ ∀ h', Heap.SameBut c.locals s''.heap h' → Q .none { s'' with heap := h' }) E s'
  | .error x, _ => ∃ m, s'.heap.Ns c.locals m ∧ ∀ h', Heap.SameBut c.locals s'.heap h' → wpAny M A (passOn "comprehension.variables-let-go" x c : Sem Value) (fun _ _ => False) E { s' with heap := h' }
theorem comprehension_err {e : Expr} {scope : Scope} {pos : Pos} {newAcc first : Sem Value} {g : Comprehension} {gs : List Comprehension} {cl : List (Str × Addr)} {use : Option (Value → Sem Unit)} {Q : Value → Shared → Prop}
    (hcl : clausesOf e = g :: gs) (hs : ∀ x, foldedSetIterable g.iter env x = pure x) (hclos : closureFor scope env = pure cl)
    (hkind : scope.kind = .function) (hnames : ∀ x ∈ scope.names, x.2 = .local → scope.names.lookup x.1 = some .local)
    (h : wpAny M A first (fun x s₁ => wpAny M A (pyIter x) (fun it s₂ => wpAny M A newAcc (fun acc s₃ =>
      wpAny M A (newFunctionEnv scope env.globals cl [] env.qual none .none (some env)) (fun c s₄ =>
        codeAny M A (.compStart e 0 it acc { c with scope := relabel scope env }) (compPostE M A E use Q acc { c with scope := relabel scope env }) s₄) E s₃) E s₂) E s₁) E s) :
    wpAny M A (comprehension e scope env pos newAcc false first use) Q E s := by
  unfold comprehension
  rw [hclos, hcl]
  refine wpAny_bind (wpAny_mono h (fun x s₁ h₁ => wpAny_bind (wpAny_standAt (wpAny_bind (wpAny_of_eq (hs x) (wpAny_bind (wpAny_holding (wpAny_mono h₁ (fun it s₂ h₂ =>
    wpAny_standIf (wpAny_bind (wpAny_mono h₂ (fun acc s₃ h₃ => wpAny_bind (wpAny_pure (wpAny_bind (wpAny_mono h₃ (fun c s₄ h₄ => ?_) fun _ _ q => q)))) fun _ _ q => q)))
      fun _ _ q => q))))))) fun _ _ q => q)
  dsimp only
  have hv : ∀ x ∈ (scope.names.filter fun x => (x.2 == .local || x.2 == .cell) && x.1 != (".0" : Str)).reverse, x.2 = .local →
      Env.kindOf { c with scope := relabel scope env } x.1 = some .local := fun x hx hl => lookup_relabel_local (hnames x (List.mem_filter.mp (List.mem_reverse.mp hx)).1 hl)
  have hv' : ∀ x ∈ (scope.names.filter fun x => (x.2 == .local || x.2 == .cell) && x.1 != (".0" : Str)).reverse.drop 1 ++ (scope.names.filter fun x => (x.2 == .local || x.2 == .cell) && x.1 != (".0" : Str)).reverse.take 1,
      x.2 = .local → Env.kindOf { c with scope := relabel scope env } x.1 = some .local := fun x hx hl => by
    rcases List.mem_append.mp hx with q | q
    · exact hv x (List.mem_of_mem_drop q) hl
    · exact hv x (List.mem_of_mem_take q) hl
  refine wpAny_holding (wpAny_bind (wpAny_attempt (wpAny_holding (wpAny_run (codeAny_mono h₄ fun r s' hr => ?_)))))
  cases r with
  | ok f =>
    cases use with
    | none =>
      obtain ⟨m, hn, hr⟩ := hr
      exact wpAny_bind (wpAny_holding (wpAny_comp_letGo (cenv := { c with scope := relabel scope env }) hkind _ s' m hv hn fun h' m' _ q => wpAny_pure (hr h' q)))
    | some u =>
      refine wpAny_bind (wpAny_rule (wpAny_bind (wpAny_holding (wpAny_mono hr (fun _ s'' hr' => ?_) fun _ _ q => q))))
      obtain ⟨m, hn, hr'⟩ := hr'
      exact wpAny_bind (wpAny_comp_letGo (cenv := { c with scope := relabel scope env }) hkind _ s'' m hv' hn fun h' m' _ q => wpAny_pure (hr' h' q))
  | error x =>
    have hr' : ∃ m, s'.heap.Ns c.locals m ∧ ∀ h', Heap.SameBut c.locals s'.heap h' → wpAny M A (passOn "comprehension.variables-let-go" x { c with scope := relabel scope env } : Sem Value) (fun _ _ => False) E { s' with heap := h' } := by cases use <;> exact hr
    obtain ⟨m, hn, hr⟩ := hr'
    exact wpAny_bind (wpAny_holding (wpAny_comp_letGo (cenv := { c with scope := relabel scope env }) hkind _ s' m hv hn fun h' m' _ q => wpAny_mono (hr h' q) (fun _ _ f => f.elim) fun _ _ y => y))
end
end PySem
namespace L2
open PySem PySem.Spec PyProof.Rows
theorem ff_same {base h h' : Heap} : ∀ {l : List Env}, h.FunFrames base l → (∀ L ∈ frs l, h'.get? L = h.get? L) → h'.FunFrames base l
  | [], _, _ => trivial
  | env :: l, h, hn => by
    obtain ⟨hk, ⟨L, o, hf, hb, ho, hd⟩, hr⟩ := h
    exact ⟨hk, ⟨L, o, hf, hb, (hn L (List.mem_filterMap.mpr ⟨env, List.mem_cons_self, hf⟩)).trans ho, hd⟩, ff_same hr fun b hb => by
      obtain ⟨e, he, q⟩ := List.mem_filterMap.mp hb
      exact hn b (List.mem_filterMap.mpr ⟨e, List.mem_cons_of_mem _ he, q⟩)⟩
/-- an exception in the air of the def X, raised in the block whose names stand at C -/
def XC (X : Cx) (W : WX) (C : Addr) (u : Value) (s' : Shared) : Prop :=
  ∃ (a : Addr) (B : Heap) (sI : Shared) (pins : List (Addr × Obj)) (σ : St) (H : Hp) (cls : Value) (d : Option Addr),
    u = .ref a ∧ Inv X pins σ H sI ∧ (∀ b o, sI.heap.get? b = some o → b ∉ frs X.stack → B.get? b = some o) ∧ sI.heap.UpToSlots s'.heap ∧
      Sky B X.stack a (Zc cls d) X.env.locals s'.heap ∧ H a = none ∧ s'.os = sI.os ∧ AllBare s'.gens ∧ W cls d σ H ∧ B.get? C = none ∧ sI.heap.get? C = none ∧ C ∉ frs X.stack ∧ ∃ m, s'.heap.Ns C m
/-- the same, noted -/
def XH (X : Cx) (W : WX) (C : Addr) (u : Value) (s' : Shared) : Prop :=
  ∃ (a : Addr) (B : Heap) (sI : Shared) (pins : List (Addr × Obj)) (σ : St) (H : Hp) (cls : Value) (d : Option Addr),
    u = .ref a ∧ Inv X pins σ H sI ∧ (∀ b o, sI.heap.get? b = some o → b ∉ frs X.stack → B.get? b = some o) ∧ sI.heap.UpToSlots s'.heap ∧
      HandSPX.HeldZ B X.stack a (Zc cls d) X.env.locals s'.heap ∧ H a = none ∧ s'.os = sI.os ∧ AllBare s'.gens ∧ W cls d σ H ∧ B.get? C = none ∧ sI.heap.get? C = none ∧ C ∉ frs X.stack ∧ ∃ m, s'.heap.Ns C m
section
variable {X : Cx} {pins : List (Addr × Obj)} {σ : St} {H Hb : Hp} {s sb s' : Shared} {W : WX} {E : XK} {C : Addr} {fp : List Addr}
theorem XC.of_call (I : Inv X pins σ H s) (un : Un (frs X.stack) fp H Hb s.heap sb.heap) (hos : sb.os = s.os)
    (hch : ∀ b ∈ fp, (b ∈ X.ex ∨ X.s_0.heap.objs.size ≤ b) ∧ b ≠ X.env.locals ∧ (∀ x c, X.env.cells.lookup x = some c → c ≠ b) ∧ ∀ p ∈ X.pn ++ pins, p.1 ≠ b)
    (hC : s.heap.get? C = none) (hbC : Hb C = none) (hCs : ∃ m, sb.heap.Ns C m) (hCf : C ∉ frs X.stack) (hW : ∀ cls d H', E cls d H' → W cls d σ H') {u : Value} (c : CX X.prog X.w X.stack Hb sb E u s') : XC X W C u s' := by
  obtain ⟨a, B, H', cls, d, rfl, fl, hok, ub, na, os, ag, hE⟩ := c
  obtain ⟨B', b1, b2⟩ := restrict B fun b => decide (b ≠ C)
  have toB : ∀ b o, b ≠ C → B.get? b = some o → B'.get? b = some o := fun b o hb e => by rw [b1 b (decide_eq_true hb)]; exact e
  have ofB : ∀ b o, B'.get? b = some o → B.get? b = some o ∧ b ≠ C := fun b o e => by
    by_cases hb : b = C
    · rw [b2 b (decide_eq_false fun z => z hb)] at e
      cases e
    · rw [b1 b (decide_eq_true hb)] at e
      exact ⟨e, hb⟩
  have noB : ∀ b, B.get? b = none → B'.get? b = none := fun b e => by
    cases q : B'.get? b with
    | none => rfl
    | some o =>
      have := (ofB b o q).1
      rw [e] at this
      cases this
  have BC : B'.get? C = none := b2 C (decide_eq_false fun z => z rfl)
  obtain ⟨m, oC, es, ep, eC, rC⟩ := hCs
  have HC : H' C = none := ub.free C oC eC hbC
  obtain ⟨G, g1, g2⟩ := restrict s'.heap fun b => (B'.get? b).isSome || decide (b ∈ frs X.stack)
  have st : B'.StaysIn s'.heap := fun b o e => fl.1 b o (ofB b o e).1
  have gB : ∀ b o, B'.get? b = some o → G.get? b = some o := fun b o e => by
    rw [g1 b (by simp [e])]
    exact st b o e
  have gF : ∀ b, b ∈ frs X.stack → G.get? b = s'.heap.get? b := fun b hb => g1 b (by simp [hb])
  have og : ∀ b o, G.get? b = some o → s'.heap.get? b = some o ∧ ((B'.get? b).isSome = true ∨ b ∈ frs X.stack) := fun b o e => by
    cases q : ((B'.get? b).isSome || decide (b ∈ frs X.stack)) with
    | false => rw [g2 b q] at e; cases e
    | true =>
      rw [g1 b q] at e
      exact ⟨e, by simpa [Bool.or_eq_true] using q⟩
  have neC : ∀ b o, s.heap.get? b = some o → b ≠ C := fun b o e z => by rw [z, hC] at e; cases e
  have hok' : HOk X.prog X.w H' B' := fun b o q => (hok b o q).stay (fun c u hc r => toB c u (fun z => by
    rw [z] at hc
    rcases hc with hc | hc
    · rw [← hc, HC] at q; cases q
    · rw [HC] at hc; cases hc) r) (fun _ r => r) fun _ _ r => r
  have fl' : HandSPX.FlyingZ B' X.stack a (Zc cls d) s'.heap := by
    obtain ⟨f1, f2, f3, oe, vs, T, oT, ts, he, hz, hd, h1, hnT, r⟩ := fl
    exact ⟨st, noB a f2, funFrames_none f3 fun L hL => noB L (f3.mem hL).1, oe, vs, T, oT, ts, he, hz, hd, h1, noB T hnT, r⟩
  refine ⟨a, B', { s with heap := G, gens := s'.gens, drawn := s'.drawn, toks := s'.toks }, pins, σ, H', cls, d, rfl, ?_, fun b o e hb => ?_, Heap.UpToSlots.of_keeps fun b o e => (og b o e).1, .inr (.inl fl'), na, os.trans hos, ag, hW _ _ _ hE, BC, ?_, hCf, m, ?_⟩
  · refine I.call (ch := fp) ⟨fun b o e n hb hc => gB b o (toB b o (neC b o e) (ub.keep b o (un.keep b o e n hb hc) (un.free b o e n hc) hb)), fun b o e n hb hc => ?_, fun b o e n hc => ?_, fun b o e hc => ?_, fun b xs q => ub.tups b xs (un.tups b xs q), fun b o xs q => ub.frzs b o xs (un.frzs b o xs q), fun b ps q => ?_⟩ (hok'.kept gB) ag hch
    · obtain ⟨sl, q⟩ := un.slot b o e n hb hc
      obtain ⟨sl2, q2⟩ := ub.slot b _ q hb
      exact ⟨sl2, by rw [gF b hb]; exact q2⟩
    · obtain ⟨o', q⟩ := un.there b o e hc
      exact ub.free b o' q (un.free b o e n hc)
    · obtain ⟨o', q⟩ := un.there b o e hc
      by_cases hb : b ∈ frs X.stack
      · obtain ⟨sl, q2⟩ := ub.slot b o' q hb
        exact ⟨_, by rw [gF b hb]; exact q2⟩
      · obtain ⟨o2, q2⟩ := ub.there b o' q hb
        exact ⟨o2, gB b o2 (toB b o2 (neC b o e) q2)⟩
    · obtain ⟨m1, q1⟩ := un.tbls b ps q
      obtain ⟨m2, q2⟩ := ub.tbls b _ q1
      exact ⟨m1 ++ m2, by rw [q2, Array.append_assoc]⟩
  · obtain ⟨e', h⟩ := og b o e
    rcases h with h | h
    · obtain ⟨o', q⟩ := Option.isSome_iff_exists.mp h
      have z := st b o' q
      rw [e'] at z; cases z
      exact q
    · exact absurd h hb
  · exact g2 C (by rw [BC, decide_eq_false hCf]; rfl)
  · exact ⟨oC, es, ep, fl.1 C oC (ub.keep C oC eC hbC hCf), rC⟩
end
end L2
namespace L2
open PySem PySem.Spec PyProof.Rows
section
variable {X : Cx} {W : WX} {C : Addr} {u : Value} {s' : Shared}
theorem ns_up {h h' : Heap} {C : Addr} (n : ∃ m, h.Ns C m) (up : h.UpToSlots h') : ∃ m, h'.Ns C m := by
  obtain ⟨m, o, es, ep, e, hd, r⟩ := n
  obtain ⟨sl, q⟩ := up C o e fun vs z => by rw [hd] at z; cases z
  exact ⟨m, _, es, ep, q, hd, r⟩
/-- the block notes it: its frame is the def's -/
theorem XC.note {ce : Env} {E₁ : Value → Shared → Prop} (hs : X.stack = X.env :: X.outer) (hf : X.env.frame = some X.env.locals) (he : ce.frame = X.env.frame) (x : XC X W C u s') :
    wpAny (model X.prog X.w) X.A (noteFrame u ce) (fun _ s'' => XH X W C u s'') E₁ s' := by
  obtain ⟨a, B, sI, pins, σ, H, cls, d, rfl, I, nb, up, sky, na, os, ag, w, bC, sC, fC, nC⟩ := x
  have hfr : X.A.frames = some (X.env :: X.outer) := by rw [I.ok.frames, hs]
  have en : noteFrame (.ref a) ce = noteFrame (.ref a) X.env := by
    unfold noteFrame PySem.frameOf
    rw [he]
  rw [en]
  have fin : ∀ h', HandSPX.HeldZ B (X.env :: X.outer) a (Zc cls d) X.env.locals h' → s'.heap.UpToSlots h' → XH X W C (.ref a) { s' with heap := h' } := fun h' hh up2 =>
    ⟨a, B, sI, pins, σ, H, cls, d, rfl, I, nb, up.trans up2, by rw [hs]; exact hh, na, os, ag, w, bC, sC, fC, ns_up nC up2⟩
  rw [hs] at sky
  rcases sky with ⟨hB, hn, hl, oe, vs, he, hz, hd, h1⟩ | fl | hh
  · exact HandSPX.look_newZ Zc.steady hfr hl hf he hB hn hd h1 hz fin
  · exact HandSPX.looks_onZ Zc.steady hfr hf fl fin
  · exact HandSPX.againZ hf hh.2.2.2 (fin s'.heap hh (Heap.UpToSlots.refl _))
/-- the block's names let go, it flies on in the def -/
theorem XH.pass {ce : Env} {what : String} {h' : Heap} (hs : X.stack = X.env :: X.outer) (hf : X.env.frame = some X.env.locals) (he : ce.frame = X.env.frame) (tk : Takes X W) (x : XH X W C u s') (sb : Heap.SameBut C s'.heap h') :
    wpAny (model X.prog X.w) X.A (passOn what u ce : Sem Value) (fun _ _ => False) X.xe { s' with heap := h' } := by
  obtain ⟨a, B, sI, pins, σ, H, cls, d, rfl, I, nb, up, hh, na, os, ag, w, bC, sC, fC, m, oC, es, ep, eC, hdC, rC⟩ := x
  obtain ⟨k1, k2, k3, oe, vs, T, oT, ts, ea, hz, hd, h1, hnT, hTe, hT, hdT, h3⟩ := hh
  have aC : a ≠ C := fun z => by rw [z, eC] at ea; cases ea; rw [hdC] at hd; cases hd
  have TC : T ≠ C := fun z => by rw [z, eC] at hT; cases hT; rw [hdC] at hdT; cases hdT
  have hh' : HandSPX.HeldZ B X.stack a (Zc cls d) X.env.locals h' := ⟨fun b o e => (sb.2 b fun z => by rw [z, bC] at e; cases e).trans (k1 b o e), k2, ff_same k3 fun L hL => sb.2 L fun z => fC (z ▸ hL),
    oe, vs, T, oT, ts, (sb.2 a aC).trans ea, hz, hd, h1, hnT, hTe, (sb.2 T TC).trans hT, hdT, h3⟩
  have up' : sI.heap.UpToSlots h' := fun b o e nf => by
    obtain ⟨sl, q⟩ := up b o e nf
    exact ⟨sl, (sb.2 b fun z => by rw [z, sC] at e; cases e).trans q⟩
  unfold PySem.passOn
  refine wpAny_bind (wpAny_field (s := { s' with heap := h' }) ((sb.2 a aC).trans ea) hd h1 ?_)
  rw [if_neg (show ¬ ((Value.ref T == Value.none) = true) from by simp)]
  have fin : wpAny (model X.prog X.w) X.A (setFlight (.ref a) ce.frame) (fun _ s4 => wpAny (model X.prog X.w) X.A (throw (.ref a) : Sem Value) (fun _ _ => False) X.xe s4) X.xe { s' with heap := h' } := by
    rw [he, hf]
    refine HandSPX.setFlight_onZ hh' fun h4 hh4 up4 => wpAny_throw (tk _ _ ?_)
    exact ⟨a, B, sI, pins, σ, H, cls, d, rfl, I, nb, up'.trans up4, .inr (.inr hh4), na, os, ag, w⟩
  first
    | exact wpAny_bind (wpAny_pure (wpAny_bind fin))
    | exact wpAny_bind fin
end
end L2

/-! Pu31: the loop of a list comprehension that may raise -/
namespace L2
open PySem PySem.Spec PyProof.Rows
/-- a block's context with a wish about exceptions -/
abbrev Cx.blkX (X : Cx) (s : Shared) (H : Hp) (scope : Scope) (cenv : Env) (fp : List Addr) (xe : Value → Shared → Prop) : Cx := { X.blk s H scope cenv fp with xe := xe }
theorem Inv.withX {X : Cx} {pins : List (Addr × Obj)} {σ : St} {H : Hp} {s : Shared} (I : Inv X pins σ H s) (xe : Value → Shared → Prop) : Inv { X with xe := xe } pins σ H s :=
  ⟨I.ok.toTry X.pn xe, I.os, I.bare, I.base, I.loc, I.cell, I.free, I.freeC, I.pin, I.hok, I.len⟩
/-- what the block's parts may let out: the def's wish, at its slots as they were -/
def atσ (Ex : WX) (σ : St) : WX := fun cls d _ H => Ex cls d σ H
section
variable {X : Cx}
theorem lc_coreE {pins : List (Addr × Obj)} {s : Shared} {σ : St} {H : Hp} {Q : VK} {elt tg iter : Expr} {ifs : List Expr} {scope : Scope} {own : List (Str × Nat)} {pos pos' : Pos} {wi : TI} {g : TG} {tt : WX → TT} {te : WX → TE} {Ex : WX} {use : Option (Value → Sem Unit)} {Qf : Value → Shared → Prop}
    (hS : X.stack = X.env :: X.outer) (hF : X.env.frame = some X.env.locals) (tk : Takes X Ex)
    (hc : X.calm = true) (hN : X.N.Nodup) (I : Inv X pins σ H s) (hi : PI X tg iter wi) (ok : BlkOk X.N X.env.scope scope own)
    (hg : ∀ (s : Shared) (H : Hp) (C : Addr) (cl : List (Str × Addr)) (fp : List Addr) (xe : Value → Shared → Prop), PG (X.blkX s H scope (compEnvC scope cl C X.env) fp xe) tg g)
    (ht : ∀ (s : Shared) (H : Hp) (C : Addr) (cl : List (Str × Addr)) (fp : List Addr) (xe : Value → Shared → Prop) (W : WX), (∀ σ', PassesAt (L2.CX X.prog X.w) (X.blkX s H scope (compEnvC scope cl C X.env) fp xe) σ' (WE W σ')) → PTs (X.blkX s H scope (compEnvC scope cl C X.env) fp xe) ifs (tt W))
    (he : ∀ (s : Shared) (H : Hp) (C : Addr) (cl : List (Str × Addr)) (fp : List Addr) (xe : Value → Shared → Prop) (W : WX), (∀ σ', PassesAt (L2.CX X.prog X.w) (X.blkX s H scope (compEnvC scope cl C X.env) fp xe) σ' (WE W σ')) → PE (X.blkX s H scope (compEnvC scope cl C X.env) fp xe) elt (te W))
    (hs : ∀ x, foldedSetIterable iter X.env x = pure x) (h : tLc wi g (tt (atσ Ex σ)) (te (atσ Ex σ)) (own.map (·.2)) σ H Q)
    (hRR : ∀ D (ce : Env) s' m H', Inv X pins σ H' s' → Q (.ref D) H' → s'.heap.Ns ce.locals m → FpOk X pins H' ce.locals → compPostE (model X.prog X.w) X.A X.xe use Qf (.ref D) ce (.ok .next) s') :
    wpAny (model X.prog X.w) X.A (comprehension (.ListComp elt [⟨tg, iter, ifs, 0⟩] scope pos) scope X.env pos' (newList []) false (eval iter X.env) use) Qf X.xe s := by
  have hfree : ∀ y ∈ scope.names, y.2 = .free → ∃ c, X.env.cells.lookup y.1 = some c := fun y hy e => by
    rcases ok.free y hy e with k | k
    · exact I.ok.has _ (.inl k)
    · exact I.ok.has _ (.inr k)
  refine comprehension_err (use := use) rfl hs (closure_ok hfree) ok.kind (fun y hy e => by rw [ok.uniq y hy, e])
    (thn (hi.run pins s σ H _ I h) fun xv s1 hx => thn hx fun itv s2 h2 => ?_)
  obtain ⟨it, fp, tn, J, H2, e, I2, T, st2, f2, q⟩ := h2
  subst e
  refine wpAny_newObj_type (newEnv_comp ?_) (by show 0 ≤ sizeLine; decide)
  generalize hD : s2.heap.objs.size = D
  have hDn : H2 D = none := I2.hok.fresh (Nat.le_of_eq hD)
  obtain ⟨W, ⟨m0, w0⟩, turn⟩ := q D hDn
  -- the new list
  generalize hs3 : ({ s2 with heap := s2.heap.push { cls := .type "list", data := .seq ([] : List Value).toArray } } : Shared) = s3
  have I3 : Inv X pins σ (upd H2 D (.lst [])) s3 := by
    rw [← hs3]
    refine I2.laid (t' := s2.toks) (fun b o e => Heap.get?_push_of_some _ e) (Nat.le_of_eq hD) ⟨Nat.zero_le _, [], 0, .nil, ?_⟩
    rw [← hD]
    exact Heap.get?_push_size _ rfl
  have h3 : s3.heap = s2.heap.push { cls := .type "list", data := .seq ([] : List Value).toArray } := by rw [← hs3]
  have sz : ∀ b ∈ fp, b < s2.heap.objs.size := fun b hb => by
    obtain ⟨o, e, _⟩ := T.obj _ _ st2 b hb
    exact Heap.lt_size e
  have f3 : ∀ b ∈ fp, FpOk X pins (upd H2 D (.lst [])) b ∧ b < s3.heap.objs.size := fun b hb => by
    have hlt := sz b hb
    refine ⟨⟨?_, (f2 b hb).2⟩, by rw [h3, Heap.size_push]; exact Nat.lt_succ_of_lt hlt⟩
    rw [upd_ne (by rw [← hD]; exact Nat.ne_of_lt hlt)]
    exact (f2 b hb).1
  have st3 : tn 0 s3.heap := T.keep _ _ _ st2 fun b _ o e => by rw [h3]; exact Heap.get?_push_of_some _ e
  have I4 := block_start I3 ok hN f3
  -- what flies out of the block
  have C0 : s3.heap.get? s3.heap.objs.size = none := by
    cases q : s3.heap.get? s3.heap.objs.size with
    | none => rfl
    | some o => exact absurd (Heap.lt_size q) (Nat.lt_irrefl _)
  have CF : s3.heap.objs.size ∉ frs X.stack := fun hm => by
    obtain ⟨_, o, e, _⟩ := I3.stack.mem hm
    rw [C0] at e
    cases e
  have pass : ∀ σ', PassesAt (L2.CX X.prog X.w) (X.blkX s3 (upd H2 D (.lst [])) scope (compEnvC scope (cellsFrom (s3.heap.objs.size + 1) scope.names (cloFrom X.env.cells scope.names [])) s3.heap.objs.size X.env) fp (XC X Ex s3.heap.objs.size)) σ' (WE (atσ Ex σ) σ') := fun σ' pinsb Hb sb u s' Ib c => by
    obtain ⟨m, hn, _⟩ := Ib.loc
    exact XC.of_call I3 Ib.base Ib.os (fun b hb => ⟨(f3 b hb).1.2.2.2.1, (f3 b hb).1.2.1, (f3 b hb).1.2.2.2.2.1, (f3 b hb).1.2.2.2.2.2⟩) C0 Ib.free ⟨m, hn⟩ CF (fun _ _ _ h => h) c
  have pg := hg s3 (upd H2 D (.lst [])) s3.heap.objs.size (cellsFrom (s3.heap.objs.size + 1) scope.names (cloFrom X.env.cells scope.names [])) fp (XC X Ex s3.heap.objs.size)
  have pt := ht s3 (upd H2 D (.lst [])) s3.heap.objs.size (cellsFrom (s3.heap.objs.size + 1) scope.names (cloFrom X.env.cells scope.names [])) fp (XC X Ex s3.heap.objs.size) _ pass
  have pe := he s3 (upd H2 D (.lst [])) s3.heap.objs.size (cellsFrom (s3.heap.objs.size + 1) scope.names (cloFrom X.env.cells scope.names [])) fp (XC X Ex s3.heap.objs.size) _ pass
  show codeAny _ _ (.compStart (.ListComp elt [⟨tg, iter, ifs, 0⟩] scope pos) 0 (.ref it) (.ref D) (compEnvC scope (cellsFrom (s3.heap.objs.size + 1) scope.names (cloFrom X.env.cells scope.names [])) s3.heap.objs.size X.env)) (compPostE (model X.prog X.w) X.A X.xe use Qf (.ref D) (compEnvC scope (cellsFrom (s3.heap.objs.size + 1) scope.names (cloFrom X.env.cells scope.names [])) s3.heap.objs.size X.env)) { s3 with heap := pushCells (s3.heap.push { cls := .type "dict", data := .dict #[] }) scope.names }
  have nfp : ∀ b ∈ fp, (upd H2 D (.lst [])) b = none := fun b hb => (f3 b hb).1.1
  have I4 := I4.withX (XC X Ex s3.heap.objs.size)
  clear pass
  generalize hce : compEnvC scope (cellsFrom (s3.heap.objs.size + 1) scope.names (cloFrom X.env.cells scope.names [])) s3.heap.objs.size X.env = ce at I4 pg pt pe ⊢
  have cL : ce.locals = s3.heap.objs.size := by subst hce; rfl
  have cF : ce.frame = X.env.frame := by subst hce; rfl
  rw [← cL] at I4 pg pt pe
  generalize hH3 : upd H2 D (.lst []) = H3 at I3 I4 pg pt pe w0 nfp f3
  generalize hs4 : ({ s3 with heap := pushCells (s3.heap.push { cls := .type "dict", data := .dict #[] }) scope.names } : Shared) = s4 at I4 ⊢
  have st4 : tn 0 s4.heap := T.keep _ _ _ st3 fun b _ o e => by rw [← hs4]; exact pushCells_keeps _ _ _ _ (Heap.get?_push_of_some _ e)
  generalize hxe : XC X Ex ce.locals = xe at I4 pg pt pe
  have stat : ∀ {σ' : St} {H' : Hp} {s' : Shared}, Inv (X.blkX s3 H3 scope ce fp xe) [] σ' H' s' → (∀ b ∈ fp, H' b = none) → ∀ b ∈ fp, FpOk (X.blkX s3 H3 scope ce fp xe) [] H' b := fun {σ' H' s'} I' hn b hb =>
    ⟨hn b hb, (I'.ok.exf b hb).1, I'.ok.exfs b hb, .inl hb, fun x c e => (I'.ok.exf b hb).2 x c e, fun p hp => absurd (show p ∈ ([] : List (Addr × Obj)) ++ [] from hp) (by simp)⟩
  have err : ∀ (u : Value) (s' : Shared), xe u s' → notedBy (model X.prog X.w) X.A ce (fun e s' => compPostE (model X.prog X.w) X.A X.xe use Qf (.ref D) ce (.error e) s') u s' := fun u s' x => by
    rw [← hxe] at x
    refine wpAny_mono (XC.note (E₁ := fun _ _ => False) hS hF cF x) (fun _ s'' xh => ?_) fun _ _ z => False.elim z
    obtain ⟨m, hm⟩ : ∃ m, s''.heap.Ns ce.locals m := by
      obtain ⟨_, _, _, _, _, _, _, _, _, _, _, _, _, _, _, _, _, _, _, _, nC⟩ := xh
      exact nC
    have key : ∃ m, s''.heap.Ns ce.locals m ∧ ∀ h', Heap.SameBut ce.locals s''.heap h' → wpAny (model X.prog X.w) X.A (PySem.passOn "comprehension.variables-let-go" u ce : Sem Value) (fun _ _ => False) X.xe { s'' with heap := h' } := ⟨m, hm, fun h' sb => XH.pass hS hF cF tk xh sb⟩
    cases use <;> exact key
  have loop : codeAny (model X.prog X.w) X.A (.compLoop (.ListComp elt [⟨tg, iter, ifs, 0⟩] scope pos) 0 (.ref it) (.ref D) ce) (compPostE (model X.prog X.w) X.A X.xe use Qf (.ref D) ce) s4 := by
    refine compLoop_any (fun n s' => ∃ i H', Inv (X.blkX s3 H3 scope ce fp xe) [] (wipe σ (own.map (·.2))) H' s' ∧ tn i s'.heap ∧ (∀ b ∈ fp, H' b = none) ∧ W i n H') ?_ m0 ⟨0, H3, I4, st4, nfp, w0⟩
    rintro n s5 ⟨i, H5, I5, st5, n5, w5⟩
    rcases turn i n H5 w5 with ⟨stop, qq⟩ | ⟨go, Nx, hNx, step⟩
    · have td := T.done (X.blkX s3 H3 scope ce fp xe) rfl rfl rfl hc i [] s5 _ H5 (fun _ _ => False) I5 (stat I5 n5) st5 stop
      refine thnF td fun r s6 ⟨hr, I6⟩ => ?_
      subst hr
      -- back in the def's context
      have I7 : Inv X pins σ H5 s6 := I3.call' (ch := fp) I6.os I6.base I6.hok I6.bare fun b hb => ⟨(f3 b hb).1.2.2.2.1, (f3 b hb).1.2.1, (f3 b hb).1.2.2.2.2.1, (f3 b hb).1.2.2.2.2.2⟩
      have nC : H5 ce.locals = none := I6.free
      obtain ⟨m, hn, _⟩ := I6.loc
      have hn : s6.heap.Ns ce.locals m := hn
      exact hRR D ce s6 m H5 I7 qq hn (I3.fpOk (by rw [cL]; exact Nat.le_refl _) nC)
    · have ti := T.item (X.blkX s3 H3 scope ce fp xe) rfl rfl rfl hc i [] s5 _ H5 (fun _ _ => False) I5 (stat I5 n5) st5 go
      refine thnF ti fun r s6 ⟨u, hr, h6⟩ => ?_
      subst hr
      refine thnF h6 fun _ s7 ⟨x, H7, I7, r7, y7, st7, n7⟩ => ?_
      have I7' := I7.pinned (stat I7 n7) (T.obj _ _ st7)
      refine wpAny_mono (pg.run _ s7 _ H7 x u _ I7' r7 (step x H7 y7)) (fun _ s8 ⟨σ8, H8, I8, hw8, q8⟩ => ?_) err
      refine wpAny_mono (pt.run _ s8 σ8 H8 _ I8 q8) (fun b s9 ⟨H9, I9, q9⟩ => ?_) err
      -- the turn's end
      have fin : ∀ {s' : Shared} {H' : Hp}, Inv (X.blkX s3 H3 scope ce fp xe) ([] ++ pinsAt fp s7.heap) σ8 H' s' → Nx H' → ∃ m, m < n ∧ ∃ i H', Inv (X.blkX s3 H3 scope ce fp xe) [] (wipe σ (own.map (·.2))) H' s' ∧ tn i s'.heap ∧ (∀ b ∈ fp, H' b = none) ∧ W i m H' := fun {s' H'} I' nx => by
        obtain ⟨m', hm, w'⟩ := hNx H' nx
        have pin' : ∀ b ∈ fp, ∀ o, s7.heap.get? b = some o → s'.heap.get? b = some o ∧ H' b = none := fun b hb o e =>
          let z := I'.pin (b, o) (List.mem_append_right _ (List.mem_append_right _ (mem_pinsAt hb e)))
          ⟨z.1, z.2.1⟩
        have hl : (wipe σ (own.map (·.2))).length = σ8.length := by rw [← hw8, wipe_length]
        refine ⟨m', hm, i + 1, H', (I'.unpinned (pins := [])).weak hl (fun j v e => ?_), T.keep _ _ _ st7 fun b hb o e => (pin' b hb o e).1, fun b hb => ?_, w'⟩
        · rw [← hw8] at e
          exact (wipe_some e).1
        · obtain ⟨o, e, _⟩ := T.obj _ _ st7 b hb
          exact (pin' b hb o e).2
      cases b with
      | false =>
        simp only [Bool.false_eq_true, if_false] at q9 ⊢
        exact fin I9 q9
      | true =>
        simp only [if_true] at q9 ⊢
        refine wpAny_mono (pe.run _ s9 σ8 H9 _ I9 q9) (fun z s10 ⟨yv, H10, I10, r10, acc, hD10, hz10, nx⟩ => ?_) err
        exact app_ok (X := X.blkX s3 H3 scope ce fp xe) I10 hD10 hz10 r10 fun s11 I11 => fin I11 nx
  exact codeAny_compStart_list loop (T.self X.A 0 _ _ _ st4 loop)
end
end L2
namespace L2
open PySem PySem.Spec PyProof.Rows
section
variable {X : Cx}
def tLcE (wi : TI) (g : TG) (tt : WX → TT) (te : WX → TE) (vs : List Nat) (Ex : WX) : TE := fun σ H Q => tLc wi g (tt (atσ Ex σ)) (te (atσ Ex σ)) vs σ H Q
theorem pe_lcE {elt tg iter : Expr} {ifs : List Expr} {scope : Scope} {own : List (Str × Nat)} {pos : Pos} {wi : TI} {g : TG} {tt : WX → TT} {te : WX → TE} {Ex : WX} (hS : X.stack = X.env :: X.outer) (hF : X.env.frame = some X.env.locals) (tk : Takes X Ex)
    (hc : X.calm = true) (hN : X.N.Nodup) (hi : PI X tg iter wi) (ok : BlkOk X.N X.env.scope scope own)
    (hg : ∀ (s : Shared) (H : Hp) (C : Addr) (cl : List (Str × Addr)) (fp : List Addr) (xe : Value → Shared → Prop), PG (X.blkX s H scope (compEnvC scope cl C X.env) fp xe) tg g)
    (ht : ∀ (s : Shared) (H : Hp) (C : Addr) (cl : List (Str × Addr)) (fp : List Addr) (xe : Value → Shared → Prop) (W : WX), (∀ σ', PassesAt (L2.CX X.prog X.w) (X.blkX s H scope (compEnvC scope cl C X.env) fp xe) σ' (WE W σ')) → PTs (X.blkX s H scope (compEnvC scope cl C X.env) fp xe) ifs (tt W))
    (he : ∀ (s : Shared) (H : Hp) (C : Addr) (cl : List (Str × Addr)) (fp : List Addr) (xe : Value → Shared → Prop) (W : WX), (∀ σ', PassesAt (L2.CX X.prog X.w) (X.blkX s H scope (compEnvC scope cl C X.env) fp xe) σ' (WE W σ')) → PE (X.blkX s H scope (compEnvC scope cl C X.env) fp xe) elt (te W))
    (hs : ∀ x, foldedSetIterable iter X.env x = pure x := by intro _; rfl) :
    PE X (.ListComp elt [⟨tg, iter, ifs, 0⟩] scope pos) (tLcE wi g tt te (own.map (·.2)) Ex) := by
  refine ⟨fun pins s σ H Q I h => ?_⟩
  rw [eval_ListComp]
  refine lc_coreE hS hF tk hc hN I hi ok hg ht he hs h fun D ce s' m H' I' q hn f => ⟨m, hn, fun h'' sb => ?_⟩
  obtain ⟨f0, f1, f2, f3, f4, f5⟩ := f
  exact ⟨.ref D, H', I'.turned (t' := s'.toks) (fun b o hb e => (sb.2 b hb).trans e) f0 f1 f3 f4 f5, rfl, q⟩
theorem ps_setLcE {i : Nat} {y : Str} {py : Pos} {elt tg iter : Expr} {ifs : List Expr} {scope : Scope} {own : List (Str × Nat)} {pos spos : Pos} {wi : TI} {g : TG} {tt : WX → TT} {te : WX → TE} {Ex : WX} (hS : X.stack = X.env :: X.outer) (hF : X.env.frame = some X.env.locals) (tk : Takes X Ex)
    (hc : X.calm = true) (hN : X.N.Nodup) (hy : X.N[i]? = some y) (hyl : X.env.scope.names.lookup y = some .local)
    (hsw : swapsWith (.ListComp elt [⟨tg, iter, ifs, 0⟩] scope pos) (some (.Name y py)) spos.line X.env = pure true) (hi : PI X tg iter wi) (ok : BlkOk X.N X.env.scope scope own)
    (hg : ∀ (s : Shared) (H : Hp) (C : Addr) (cl : List (Str × Addr)) (fp : List Addr) (xe : Value → Shared → Prop), PG (X.blkX s H scope (compEnvC scope cl C X.env) fp xe) tg g)
    (ht : ∀ (s : Shared) (H : Hp) (C : Addr) (cl : List (Str × Addr)) (fp : List Addr) (xe : Value → Shared → Prop) (W : WX), (∀ σ', PassesAt (L2.CX X.prog X.w) (X.blkX s H scope (compEnvC scope cl C X.env) fp xe) σ' (WE W σ')) → PTs (X.blkX s H scope (compEnvC scope cl C X.env) fp xe) ifs (tt W))
    (he : ∀ (s : Shared) (H : Hp) (C : Addr) (cl : List (Str × Addr)) (fp : List Addr) (xe : Value → Shared → Prop) (W : WX), (∀ σ', PassesAt (L2.CX X.prog X.w) (X.blkX s H scope (compEnvC scope cl C X.env) fp xe) σ' (WE W σ')) → PE (X.blkX s H scope (compEnvC scope cl C X.env) fp xe) elt (te W))
    (hs : ∀ x, foldedSetIterable iter X.env x = pure x := by intro _; rfl) :
    PS X (.Assign [.Name y py] (.ListComp elt [⟨tg, iter, ifs, 0⟩] scope pos) spos) (tAsg (tLcE wi g tt te (own.map (·.2)) Ex) (gName i)) := by
  refine ⟨fun pins s σ H D I h => ?_⟩
  rw [exec_Assign_Name_used _ _ _ _ hsw]
  refine wpAny_bind (wpAny_standAt (wpAny_bind ?_))
  show wpAny _ X.A (do let _ ← comprehension (.ListComp elt [⟨tg, iter, ifs, 0⟩] scope pos) scope X.env (firstIterPos [⟨tg, iter, ifs, 0⟩] pos) (newList []) false (eval iter X.env) (some (assign (.Name y py) X.env))) _ _ s
  have h : tLc wi g (tt (atσ Ex σ)) (te (atσ Ex σ)) (own.map (·.2)) σ H (fun x H1 => gName i x σ H1 D.nx) := h
  refine wpAny_bind (thn (lc_coreE (Qf := fun _ s' => SP X pins D .next s') hS hF tk hc hN I hi ok hg ht he hs h fun L ce s' m H' I' q hn f => ?_) fun _ s' hq => wpAny_pure (wpAny_pure hq))
  show wpAny _ _ (assign (.Name y py) X.env (.ref L)) _ _ _
  refine wpAny_assign_Name (store_ok2 (v := V.ref L) I' hN hy (.inl hyl) rfl (fun s2 I2 ⟨a, sb, ha⟩ => ?_) (.inr hyl))
  obtain ⟨f0, f1, f2, f3, f4, f5⟩ := f
  have haC : ce.locals ≠ a := by
    rcases ha with z | z
    · rw [z]; exact f1
    · exact fun e => f4 y a z e.symm
  refine ⟨m, hn.sameBut sb haC, fun h3 sb3 => ?_⟩
  exact ⟨_, H', I2.turned (t' := s2.toks) (fun b o hb e => (sb3.2 b hb).trans e) f0 f1 f3 f4 f5, q⟩
end
end L2
namespace Pu
open PySem PySem.Spec PyProof.Rows L2 Lay
/-- a list comprehension whose parts may raise: the def's slots are as the block's names were never set -/
def pLcE (vs : List Nat) (pi : PXI) (g : PXG) (t : PXB) (p : PX) : PXO := fun γ K E => pi γ (fun S γ1 => ∃ W : Nat → List PV → PEnv → Prop, W 0 [] (wipeP γ1 vs) ∧
  (∀ i x acc γ, i < S.n → S.it i x → W i acc γ → g x γ fun γ2 => t γ2 (fun b γ3 => if b = true then p γ3 (fun y γ4 => acc.length < sizeLine ∧ W (i + 1) (acc ++ [y]) (wipeP γ4 vs)) (fun c fs γ' => E c fs (wipeP γ' vs)) else W (i + 1) acc (wipeP γ3 vs)) (fun c fs γ' => E c fs (wipeP γ' vs))) ∧
  ∀ acc γ, W S.n acc γ → ∀ a, K a (.lst acc) γ) E
theorem lc_impE {K : PySem.W.Frag} {Ex : WX} {vs : List Nat} {pi : PXI} {pg : PXG} {pb : PXB} {p : PX} : ∀ σ H Q, tO K Ex (pLcE vs pi pg pb p) σ H Q → tLcE (tI K Ex pi) (tGv K vs pg) (fun W => tT K W pb) (fun W => tP K W p) vs Ex σ H Q := fun σ H Q ⟨R, G, γ, Kp, Ep, A, h, k, x⟩ =>
  ⟨R, G, γ, _, Ep, A, h, fun J H1 G1 S γ1 s1 A1 F ⟨W, w0, hW, hd⟩ D nD => by
    have A1' := A1.newO (o := .lst []) (c := .lst []) nD ⟨[], upd_same, .nil⟩
    have Aw : At K R G1 (upd H1 D (.lst [])) (L2.wipe σ vs) (wipeP γ1 vs) := A1'.1.wipe vs
    have Ow : OwnR K R G1 (upd H1 D (.lst [])) (wipeP γ1 vs) D (.lst []) := ⟨A1'.2.r, A1'.2.g, A1'.2.c, fun j c' q => by
      rcases wipeP_get _ q with z | q
      · cases z
      · exact A1'.2.n j c' q⟩
    refine ⟨fun i m H => m + i = S.n ∧ ∃ G2 γ2 acc, Same G1 G2 ∧ At K R G2 H (L2.wipe σ vs) γ2 ∧ OwnR K R G2 H γ2 D (.lst acc) ∧ W i acc γ2, ⟨S.n, by omega, G1, _, [], same_refl, Aw, Ow, w0⟩, fun i m H2 ⟨e, G2, γ2, acc, s2, A2, O2, w2⟩ => ?_⟩
    obtain ⟨ws, eD, rD⟩ := O2.c
    have B2 := A2.hide O2 eD
    obtain ⟨f1, f2⟩ := F i _ H2 G2 _ γ2 s2 B2
    by_cases hi : i < S.n
    · obtain ⟨hgo, hy⟩ := f1 hi
      refine .inr ⟨hgo, fun H => ∃ G2 γ2 acc, Same G1 G2 ∧ At K R G2 H (L2.wipe σ vs) γ2 ∧ OwnR K R G2 H γ2 D (.lst acc) ∧ W (i + 1) acc γ2, fun H' q => ⟨m - 1, by omega, by omega, q⟩, fun v H3 y3 => ?_⟩
      obtain ⟨z, G3, hz, s3, B3, r3⟩ := hy v H3 y3
      refine ⟨_, G3, γ2, z, _, B3, r3, hW i z acc γ2 hi hz w2, fun σ4 H4 G4 γ4 s4 B4 l4 w4 h4 => ⟨w4.trans (wipe_wipe σ vs), ?_⟩⟩
      have s24 := same_trans s3 s4
      have w5 : L2.wipe σ4 vs = L2.wipe σ vs := w4.trans (wipe_wipe σ vs)
      have l5 : σ4.length = σ.length := l4.trans (L2.wipe_length σ vs)
      have out : ∀ {G5 : Hp}, Same G4 G5 → ExR K (upd R D (.lst ws)) G5 σ4 (atσ Ex σ) (fun c fs γ' => Ep c fs (wipeP γ' vs)) := fun {G5} s5 c d us fs H' G' γ' s A e n r q => by
        obtain ⟨A', _, _, _⟩ := A.unhide O2.r
        have n' : R d = none := by
          by_cases z : d = D
          · rw [z]; exact O2.r
          · rw [upd_ne z] at n; exact n
        exact x c d us fs H' G' _ (same_trans (same_trans s1 (same_trans s2 s24)) (same_trans s5 s)) (A'.unwipe l5 w5) e n' r q
      refine ⟨_, G4, γ4, _, _, B4, h4, fun b H5 G5 γ5 s5 B5 h5 => ?_, out same_refl⟩
      have s25 := same_trans s24 s5
      cases b with
      | true =>
        refine ⟨_, G5, γ5, _, _, B5, h5, fun y H6 G6 u γ6 s6 B6 r6 ⟨hl, w6⟩ => ?_, out s5⟩
        obtain ⟨A6, e6, g6, n6⟩ := B6.unhide O2.r
        have s26 := same_trans s25 s6
        have O6 : OwnR K R G6 H6 γ6 D (.lst acc) := ⟨O2.r, g6, ⟨ws, e6, rD.same s26⟩, n6⟩
        have A7 := (O6.lost (o := .lst (ws ++ [y])) A6).wipe vs
        rw [w5] at A7
        refine ⟨ws, e6, by rw [rD.len]; exact hl, G6, _, acc ++ [u], same_trans s2 s26, A7, ⟨O2.r, g6, ⟨_, upd_same, Reps.append (.cons r6 .nil) (rD.same s26)⟩, fun j c' q => ?_⟩, w6⟩
        rcases wipeP_get _ q with q | q
        · cases q
        · exact n6 j c' q
      | false =>
        obtain ⟨A5, e5, g5, n5⟩ := B5.unhide O2.r
        have A7 := A5.wipe vs
        rw [w5] at A7
        refine ⟨G5, _, acc, same_trans s2 s25, A7, ⟨O2.r, g5, ⟨ws, e5, rD.same s25⟩, fun j c' q => ?_⟩, h5⟩
        rcases wipeP_get _ q with q | q
        · cases q
        · exact n5 j c' q
    · have ei : i = S.n := by omega
      subst ei
      exact .inl ⟨f2 (Nat.le_refl _), k D H2 G2 _ γ2 (same_trans s1 s2) A2.unwipe' ⟨O2.r, O2.g, O2.c, O2.n⟩ (hd acc γ2 w2 D)⟩, x⟩
theorem po_lcE {X : Cx} {Ex : WX} {e : Expr} {vs : List Nat} {pi : PXI} {pg : PXG} {pb : PXB} {p : PX} (h : PE X e (tLcE (tI X.K Ex pi) (tGv X.K vs pg) (fun W => tT X.K W pb) (fun W => tP X.K W p) vs Ex)) : JO X Ex e (pLcE vs pi pg pb p) := PE.imp h fun σ H Q h => lc_impE σ H Q h
theorem js_setLcOE {X : Cx} {Ex : WX} {st : Stmt} {i : Nat} {vs : List Nat} {pi : PXI} {pg : PXG} {pb : PXB} {p : PX} (h : PS X st (tAsg (tLcE (tI X.K Ex pi) (tGv X.K vs pg) (fun W => tT X.K W pb) (fun W => tP X.K W p) vs Ex) (gName i))) : JS X Ex st (sSetO i (pLcE vs pi pg pb p)) :=
  js_setO (PS.imp h fun D σ H h => lc_impE σ H _ h)
theorem js_setLcE {X : Cx} {Ex : WX} {st : Stmt} {i : Nat} {vs : List Nat} {pi : PXI} {pg : PXG} {pb : PXB} {p : PX} (h : PS X st (tAsg (tLcE (tI X.K Ex pi) (tGv X.K vs pg) (fun W => tT X.K W pb) (fun W => tP X.K W p) vs Ex) (gName i))) : JS X Ex st (sSet i (pSh (pLcE vs pi pg pb p))) :=
  js_set (PS.imp h fun D σ H h => lc_impE σ H _ (sh_imp σ H _ h))
end Pu

/-! Pu32: isinstance(x, int) where x may be an instance of one's own; == of either sort -/
namespace Pu
open PySem PySem.Spec PyProof.Rows L2 Lay
def NotI (K : PySem.W.Frag) (C : Addr) : Prop := PySem.W.kitOne K (.ref C) (.type "int") = some false
def notiB (K : PySem.W.Frag) (C : Addr) : Bool := decide (PySem.W.kitOne K (.ref C) (.type "int") = some false)
theorem notI_ok {K : PySem.W.Frag} {C : Addr} (h : notiB K C = true) : NotI K C := by
  unfold notiB at h
  unfold NotI
  exact of_decide_eq_true h
/-- isinstance(x, int) -/
def pIsI (n : Str) (p : PX) : PX := fun γ K E => p γ (fun x γ1 => match x with
  | .obj c _ => c = n ∧ K (.bl false) γ1
  | x => ∃ t, x.tyN = some t ∧ K (.bl (isiB t "int")) γ1) E
theorem pp_isI {X : Cx} {Ex : WX} {e : Expr} {n : Str} {p : PX} (c : C8.InsC X.K (He.ga X.K n)) (nc : NotI X.K (He.ga X.K n)) (h : PE X e (tCB (rIsi X.K) (tCons (tP X.K Ex p) (tCons (tC (.ty "int")) tNil)))) : JV X Ex e (pIsI n p) :=
  PE.imp h fun σ H Q ⟨R, G, γ, Kp, Ep, A, h, k, x⟩ =>
  ⟨R, G, γ, _, Ep, A, h, fun v H1 G1 y γ1 s1 A1 r1 h1 => by
    show rIsi X.K [v, .ty "int"] H1 Q
    split at h1
    · obtain ⟨rfl, h1⟩ := h1
      cases r1 with
      | obj g r => exact ⟨_, _, _, _, false, rfl, .ty _, .base (TyOf.ins (A1.gh _ _ g) c.cl c.ha c.hn c.htk c.hm), nc, k _ H1 G1 _ γ1 s1 A1 (.bl _) h1⟩
    · obtain ⟨t, e, h1⟩ := h1
      exact ⟨_, _, _, _, _, rfl, .ty _, r1.tyx A1.gh e, kit_ty (kit_is (tyN_of e) (by decide)), k _ H1 G1 _ γ1 s1 A1 (.bl _) h1⟩, x⟩
/-- either of two readings of an operation -/
theorem bin_or {K : PySem.W.Frag} {r1 r2 : R2} {p1 p2 : PV → PV → (PV → Prop) → Prop} (h1 : Bin K r1 p1) (h2 : Bin K r2 p2) : Bin K (fun x y H Q => r1 x y H Q ∨ r2 x y H Q) (fun x y k => p1 x y k ∨ p2 x y k) := fun {R G H σ γ v w x y Kp Q} A rx ry q k =>
  q.elim (fun q => .inl (h1 A rx ry q k)) (fun q => .inr (h2 A rx ry q k))
/-- a, b, .. = a list -/
def gLstP (n : Nat) (p : PXGs) : PXG := fun x γ K => match x with
  | .lst xs => xs.length = n ∧ p xs γ K
  | _ => False
theorem jg_lst {X : Cx} {es : List Expr} {pos : PySem.Pos} {k : Nat} {pgs : PXGs} {n : Nat} (hc : X.calm = true) (h : JGs X es pgs) (hn : (assignEach es X.env).length = n := by rfl) (hst : (assignEach es X.env).findIdx? (·.1) = none := by rfl) : JG X (.Tuple es k pos) (gLstP n pgs) := PG.imp (pg_lst hc h hn hst) fun v σ H Q ⟨R, G, γ, x, Kp, A, r, h, k⟩ => by
  unfold gLstP at h
  split at h
  · cases r with
    | lst g r => exact ⟨_, _, rfl, SqL.of (A.gh _ _ g), by rw [r.len]; exact h.1, R, G, γ, _, Kp, A, r, h.2, k⟩
  · exact h.elim
end Pu

/-! Pu33: == of the same plain values, empty dicts and bytes among them; max of a list -/
namespace Pu
open PySem PySem.Spec PyProof.Rows L2 Lay
inductive PlD : Nat → PV → Prop
  | non (n : Nat) : PlD n .non
  | bl (n : Nat) (b : Bool) : PlD n (.bl b)
  | int (n : Nat) (i : Int) : PlD n (.int i)
  | str (n : Nat) (x : Str) : PlD n (.str x)
  | byt (n : Nat) (x : Array UInt8) : PlD n (.byt x)
  | dic (n : Nat) : PlD n (.dic [])
  | lst (n : Nat) (xs : List PV) (h : ∀ x ∈ xs, PlD n x) : PlD (n + 1) (.lst xs)
  | tup (n : Nat) (xs : List PV) (h : ∀ x ∈ xs, PlD n x) : PlD (n + 1) (.tup xs)
section
variable {X : Cx} {pins : List (Addr × Obj)} {σ : L2.St} {H G : Hp} {s : Shared}
theorem dict0 {P P' : Program} {w w' : World} {h : Heap} {a : Addr} (d : h.DictOf (mixKind P w) a []) : h.DictOf (mixKind P' w') a [] := by
  obtain ⟨o, es, ep, ho, x, hd, k, p, n⟩ := d
  have e : es.toList = [] := by
    generalize es.toList = l at p
    cases p
    rfl
  have e2 : es = #[] := by
    apply Array.toList_inj.mp
    rw [e]
  subst e2
  exact ⟨o, #[], ep, ho, x, hd, (fun _ z => absurd z (by simp)), .nil, n⟩
theorem dict0_rc {P : Program} {w : World} {A : Around} {a b : Addr} (ya : (a == sysModules) = false) (yb : (b == sysModules) = false) (da : s.heap.DictOf (mixKind P w) a []) (db : s.heap.DictOf (mixKind P w) b []) (hu : A.units < cLine) :
    SeqAt.RcAt A s (.ref a) (.ref b) true := fun prog w E Q h => PySem.W.rcP_dicts (knd := mixKind prog w) ya yb (dict0 da) (dict0 db) hu (fun _ => .nil) E Q h
theorem of_refs {A : Around} {l b : Addr} (h : SeqAt.RcAt A s (.ref l) (.ref b) true) : SeqAt.EqAt A s (.ref l) (.ref b) true := by
  by_cases e : l = b
  · subst e
    exact .same _
  · exact .of_refs e h
theorem eqAt_d0 (I : Inv X pins σ H s) (sg : Same G H) {A : Around} (hu : A.units < cLine) {x : PV} (hx : PlD 0 x) {v w : V} {a b : Value} (r1 : Rep X.K G v x) (r2 : Rep X.K G w x) (ra : RelV v a) (rb : RelV w b) : SeqAt.EqAt A s a b true := by
  cases hx <;> cases r1 <;> cases r2 <;> first
    | exact eqAt_same ra rb rfl
    | (rename_i h1 q1 _ _ h2 q2
       cases q1
       cases q2
       obtain rfl := ra
       obtain rfl := rb
       obtain ⟨_, ya, va, ra, da⟩ := (show ObjOk X.prog X.w H s.heap _ (.dK []) from I.hok _ _ (sg _ _ h1))
       obtain ⟨_, yb, vb, rb, db⟩ := (show ObjOk X.prog X.w H s.heap _ (.dK []) from I.hok _ _ (sg _ _ h2))
       cases ra
       cases rb
       exact of_refs (dict0_rc ya yb da db (by omega)))
theorem PlD.all_same {A : Around} {us ws : List Value} {xs : List PV} (f : ∀ (x : PV), x ∈ xs → ∀ (v w : V) (a b : Value), Rep X.K G v x → Rep X.K G w x → RelV v a → RelV w b → SeqAt.EqAt A s a b true) :
    ∀ {vs ts : List V}, Reps X.K G vs xs → Reps X.K G ts xs → Vals vs us → Vals ts ws → ∀ j (h1 : j < us.length) (h2 : j < ws.length), SeqAt.EqAt A s us[j] ws[j] true := fun {vs ts} r1 r2 q1 q2 j h1 h2 => by
  have l1 := q1.length
  have l2 := r1.len
  obtain ⟨v, e1⟩ := lt_get (xs := vs) (i := j) (by omega)
  obtain ⟨x, e3, p3⟩ := r1.get' e1
  obtain ⟨w, e2, p4⟩ := r2.get e3
  obtain ⟨u, g1, p1⟩ := q1.get e1
  obtain ⟨u2, g2, p2⟩ := q2.get e2
  rw [List.getElem?_eq_getElem h1] at g1
  rw [List.getElem?_eq_getElem h2] at g2
  cases g1
  cases g2
  exact f x (List.mem_of_getElem? e3) _ _ _ _ p3 p4 p1 p2
theorem eqAt_dd (I : Inv X pins σ H s) (sg : Same G H) : ∀ (n : Nat) (A : Around), A.units + n < cLine → ∀ (x : PV), PlD n x → ∀ (v w : V) (a b : Value), Rep X.K G v x → Rep X.K G w x → RelV v a → RelV w b → SeqAt.EqAt A s a b true := by
  intro n
  induction n with
  | zero =>
    intro A hu x hx v w a b r1 r2 ra rb
    exact eqAt_d0 I sg (by omega) hx r1 r2 ra rb
  | succ n ih =>
    intro A hu x hx v w a b r1 r2 ra rb
    cases hx with
    | lst m xs h =>
      cases r1 with
      | lst h1 q1 =>
        cases r2 with
        | lst h2 q2 =>
          obtain rfl := ra
          obtain rfl := rb
          obtain ⟨us, e1, p1, _⟩ := I.list (SqL.of (sg _ _ h1))
          obtain ⟨ws, e2, p2, _⟩ := I.list (SqL.of (sg _ _ h2))
          · have k := PlD.all_same (A := A.in1) (fun x hx => ih A.in1 (by show A.units + 1 + n < cLine; omega) x (h x hx)) q1 q2 e1 e2
            have z := SeqAt.RcAt.lists (A := A) (e := fun _ => true) p1.isList p2.isList (by rw [List.size_toArray, List.size_toArray, ← e1.length, ← e2.length, q1.len, q2.len]) (by omega) fun j g1 g2 => by
              have := k j (by simpa using g1) (by simpa using g2)
              simpa using this
            rw [List.all_eq_true.mpr fun _ _ => rfl] at z
            exact of_refs z
    | tup m xs h =>
      cases r1 with
      | tup h1 q1 =>
        cases r2 with
        | tup h2 q2 =>
          obtain rfl := ra
          obtain rfl := rb
          obtain ⟨us, e1, p1, _⟩ := I.tuple (h1.sq sg)
          obtain ⟨ws, e2, p2, _⟩ := I.tuple (h2.sq sg)
          · have k := PlD.all_same (A := A.in1) (fun x hx => ih A.in1 (by show A.units + 1 + n < cLine; omega) x (h x hx)) q1 q2 e1 e2
            have z := SeqAt.RcAt.tuples (A := A) (e := fun _ => true) p1 p2 (by omega) fun j g1 g2 => by
              have := k j (by simpa using g1) (by simpa using g2)
              simpa using this
            have hs : us.toArray.size = ws.toArray.size := by rw [List.size_toArray, List.size_toArray, ← e1.length, ← e2.length, q1.len, q2.len]
            rw [List.all_eq_true.mpr fun _ _ => rfl, hs, beq_self_eq_true] at z
            exact of_refs z
    | _ => exact eqAt_d0 I sg (by omega) (by constructor) r1 r2 ra rb
end
/-- x == y (x != y) of the same plain values, lists or tuples -/
def rSm (K : PySem.W.Frag) (neg : Bool) : R2 := fun x y H Q => (∃ (G : Hp) (n : Nat) (xs : List PV) (z : PV), (z = .lst xs ∨ z = .tup xs) ∧ Same G H ∧ Rep K G x z ∧ Rep K G y z ∧ PlD n z ∧ n ≤ 60) ∧ Q (.bl (!neg)) H
theorem sm_run {X : Cx} {neg : Bool} {op : CmpOp} (hu : X.A.units + 64 < cLine) (ho : op = (if neg then .NotEq else .Eq)) : OpR X (compareOp op) (rSm X.K neg) := by
  intro pins s σ H x y v u Q I rx ry h
  obtain ⟨⟨G, n, xs, z, hz, sg, r1, r2, hp, hn⟩, q⟩ := h
  rcases hz with rfl | rfl
  · cases hp with
    | lst m xs h =>
      cases r1 with
      | lst h1 q1 =>
        cases r2 with
        | lst h2 q2 =>
          obtain rfl := rx
          obtain rfl := ry
          obtain ⟨us, e1, p1, _⟩ := I.list (SqL.of (sg _ _ h1))
          obtain ⟨ws, e2, p2, _⟩ := I.list (SqL.of (sg _ _ h2))
          have k := PlD.all_same (A := X.A.in1) (fun x hx => eqAt_dd I sg m X.A.in1 (by show X.A.units + 1 + m < cLine; omega) x (h x hx)) q1 q2 e1 e2
          have hs : us.toArray.size = ws.toArray.size := by rw [List.size_toArray, List.size_toArray, ← e1.length, ← e2.length, q1.len, q2.len]
          have k2 : ∀ j (h1 : j < us.toArray.size) (h2 : j < ws.toArray.size), SeqAt.EqAt X.A.in1 s us.toArray[j] ws.toArray[j] true := fun j g1 g2 => by
            have := k j (by simpa using g1) (by simpa using g2)
            simpa using this
          cases neg <;> subst ho
          · exact EqBoolInt.of_rc (SeqAt.RcAt.lists (e := fun _ => true) p1.isList p2.isList hs (by omega) k2) ⟨.bl true, H, I, by show Value.bool _ = Value.bool _; simp [hs], q⟩
          · exact EqBoolInt.of_rcne (SeqAt.RcNeAt.lists (e := fun _ => true) p1.isList p2.isList hs (by omega) k2) ⟨.bl false, H, I, by show Value.bool _ = Value.bool _; simp [hs], q⟩
  · cases hp with
    | tup m xs h =>
      cases r1 with
      | tup h1 q1 =>
        cases r2 with
        | tup h2 q2 =>
          obtain rfl := rx
          obtain rfl := ry
          obtain ⟨us, e1, p1, _⟩ := I.tuple (h1.sq sg)
          obtain ⟨ws, e2, p2, _⟩ := I.tuple (h2.sq sg)
          have k := PlD.all_same (A := X.A.in1) (fun x hx => eqAt_dd I sg m X.A.in1 (by show X.A.units + 1 + m < cLine; omega) x (h x hx)) q1 q2 e1 e2
          have hs : us.toArray.size = ws.toArray.size := by rw [List.size_toArray, List.size_toArray, ← e1.length, ← e2.length, q1.len, q2.len]
          have k2 : ∀ j (h1 : j < us.toArray.size) (h2 : j < ws.toArray.size), SeqAt.EqAt X.A.in1 s us.toArray[j] ws.toArray[j] true := fun j g1 g2 => by
            have := k j (by simpa using g1) (by simpa using g2)
            simpa using this
          cases neg <;> subst ho
          · exact EqBoolInt.of_rc (SeqAt.RcAt.tuples (e := fun _ => true) p1 p2 (by omega) k2) ⟨.bl true, H, I, by show Value.bool _ = Value.bool _; simp [hs], q⟩
          · exact EqBoolInt.of_rcne (SeqAt.RcNeAt.tuples (e := fun _ => true) p1 p2 (by omega) k2) ⟨.bl false, H, I, by show Value.bool _ = Value.bool _; simp [hs], q⟩
@[irreducible] def smP (neg : Bool) (x y : PV) (k : PV → Prop) : Prop := (∃ (n : Nat) (xs : List PV), (x = .lst xs ∨ x = .tup xs) ∧ y = x ∧ PlD n x ∧ n ≤ 60) ∧ k (.bl (!neg))
theorem smP_of {neg : Bool} {n : Nat} {xs : List PV} {x : PV} {k : PV → Prop} (hx : x = .lst xs ∨ x = .tup xs) (hp : PlD n x) (hn : n ≤ 60) (h : k (.bl (!neg))) : smP neg x x k := by
  unfold smP
  exact ⟨⟨n, xs, hx, rfl, hp, hn⟩, h⟩
theorem bin_sm {K : PySem.W.Frag} {neg : Bool} : Bin K (rSm K neg) (smP neg) := fun {R G H σ γ v w x y Kp Q} A rx ry q k => by
  unfold smP at q
  obtain ⟨⟨n, xs, hx, rfl, hp, hn⟩, q⟩ := q
  exact ⟨⟨G, n, xs, y, hx, A.gh, rx, ry, hp, hn⟩, k _ H G _ same_refl A (.bl _) q⟩
theorem op_eqSm {X : Cx} (hu : X.A.units + 64 < cLine) : OpR X (compareOp .Eq) (rSm X.K false) := sm_run hu rfl
theorem op_neSm {X : Cx} (hu : X.A.units + 64 < cLine) : OpR X (compareOp .NotEq) (rSm X.K true) := sm_run hu rfl
/-! ### max of a list -/
def maxLP (xs : List PV) (k : PV → Prop) : Prop := match xs with
  | [.lst ys] => ∃ ns : List Int, ys = ns.map .int ∧ 0 < ns.length ∧ ∀ m ∈ ns, (∀ y ∈ ns, y ≤ m) → k (.int m)
  | _ => False
theorem cb_maxL {K : PySem.W.Frag} : Cb K (rMax K) maxLP := fun {R G H σ γ vs xs Kp Q} A r q k => by
  unfold maxLP at q
  split at q
  · obtain ⟨ns, rfl, h0, q⟩ := q
    cases r with | cons r1 r2 => cases r2; cases r1 with | lst g r => cases r.ints; exact ⟨_, ns, rfl, SqL.of (A.gh _ _ g), h0, fun m hm hM => k _ H G _ same_refl A (.int _) (q m hm hM)⟩
  · exact q.elim
end Pu

namespace K33
open PySem PySem.Spec PyProof.Rows L2 Lay Pu
/-- the written part behind the top -/
structure Wd (K : PySem.W.Frag) (mg : Str → Option Value) : Prop where
  i : ∃ h : Heap, K.In h ∧ h.Ns mainGlobals mg
  c : Told fa fn ex K
section
variable {K : PySem.W.Frag} {mg : Str → Option Value}
theorem g_wall (W : Wd K mg) : mg "_wall" = some (.ref (He.ga K "_wall")) := by
  obtain ⟨h, X, G⟩ := W.i
  exact He.glo_ok X G (W.c.a.fact 0 rfl)
theorem g_is_int (W : Wd K mg) : mg "is_int" = some (.ref (He.ga K "is_int")) := by
  obtain ⟨h, X, G⟩ := W.i
  exact He.glo_ok X G (W.c.a.fact 1 rfl)
theorem g_is_int_from (W : Wd K mg) : mg "is_int_from" = some (.ref (He.ga K "is_int_from")) := by
  obtain ⟨h, X, G⟩ := W.i
  exact He.glo_ok X G (W.c.a.fact 2 rfl)
theorem g_is_byte_data (W : Wd K mg) : mg "is_byte_data" = some (.ref (He.ga K "is_byte_data")) := by
  obtain ⟨h, X, G⟩ := W.i
  exact He.glo_ok X G (W.c.a.fact 3 rfl)
theorem g_check_byte_data (W : Wd K mg) : mg "check_byte_data" = some (.ref (He.ga K "check_byte_data")) := by
  obtain ⟨h, X, G⟩ := W.i
  exact He.glo_ok X G (W.c.a.fact 4 rfl)
theorem g_check_source_line (W : Wd K mg) : mg "check_source_line" = some (.ref (He.ga K "check_source_line")) := by
  obtain ⟨h, X, G⟩ := W.i
  exact He.glo_ok X G (W.c.a.fact 5 rfl)
theorem g_check_count (W : Wd K mg) : mg "check_count" = some (.ref (He.ga K "check_count")) := by
  obtain ⟨h, X, G⟩ := W.i
  exact He.glo_ok X G (W.c.a.fact 6 rfl)
theorem g_is_span (W : Wd K mg) : mg "is_span" = some (.ref (He.ga K "is_span")) := by
  obtain ⟨h, X, G⟩ := W.i
  exact He.glo_ok X G (W.c.a.fact 7 rfl)
theorem g_check_spans (W : Wd K mg) : mg "check_spans" = some (.ref (He.ga K "check_spans")) := by
  obtain ⟨h, X, G⟩ := W.i
  exact He.glo_ok X G (W.c.a.fact 8 rfl)
theorem g_line_behind (W : Wd K mg) : mg "line_behind" = some (.ref (He.ga K "line_behind")) := by
  obtain ⟨h, X, G⟩ := W.i
  exact He.glo_ok X G (W.c.a.fact 9 rfl)
theorem g_ranges_of (W : Wd K mg) : mg "ranges_of" = some (.ref (He.ga K "ranges_of")) := by
  obtain ⟨h, X, G⟩ := W.i
  exact He.glo_ok X G (W.c.a.fact 10 rfl)
theorem g_name_of (W : Wd K mg) : mg "name_of" = some (.ref (He.ga K "name_of")) := by
  obtain ⟨h, X, G⟩ := W.i
  exact He.glo_ok X G (W.c.a.fact 11 rfl)
theorem g_write_number (W : Wd K mg) : mg "write_number" = some (.ref (He.ga K "write_number")) := by
  obtain ⟨h, X, G⟩ := W.i
  exact He.glo_ok X G (W.c.a.fact 12 rfl)
theorem g_write_signed (W : Wd K mg) : mg "write_signed" = some (.ref (He.ga K "write_signed")) := by
  obtain ⟨h, X, G⟩ := W.i
  exact He.glo_ok X G (W.c.a.fact 13 rfl)
theorem g_read_further (W : Wd K mg) : mg "read_further" = some (.ref (He.ga K "read_further")) := by
  obtain ⟨h, X, G⟩ := W.i
  exact He.glo_ok X G (W.c.a.fact 14 rfl)
theorem g_read_number (W : Wd K mg) : mg "read_number" = some (.ref (He.ga K "read_number")) := by
  obtain ⟨h, X, G⟩ := W.i
  exact He.glo_ok X G (W.c.a.fact 15 rfl)
theorem g_read_signed (W : Wd K mg) : mg "read_signed" = some (.ref (He.ga K "read_signed")) := by
  obtain ⟨h, X, G⟩ := W.i
  exact He.glo_ok X G (W.c.a.fact 16 rfl)
theorem g_read_entries (W : Wd K mg) : mg "read_entries" = some (.ref (He.ga K "read_entries")) := by
  obtain ⟨h, X, G⟩ := W.i
  exact He.glo_ok X G (W.c.a.fact 17 rfl)
theorem g_read_entry (W : Wd K mg) : mg "read_entry" = some (.ref (He.ga K "read_entry")) := by
  obtain ⟨h, X, G⟩ := W.i
  exact He.glo_ok X G (W.c.a.fact 18 rfl)
theorem g_read_position (W : Wd K mg) : mg "_read_position" = some (.ref (He.ga K "_read_position")) := by
  obtain ⟨h, X, G⟩ := W.i
  exact He.glo_ok X G (W.c.a.fact 19 rfl)
theorem g_read_long (W : Wd K mg) : mg "_read_long" = some (.ref (He.ga K "_read_long")) := by
  obtain ⟨h, X, G⟩ := W.i
  exact He.glo_ok X G (W.c.a.fact 20 rfl)
theorem g_column (W : Wd K mg) : mg "_column" = some (.ref (He.ga K "_column")) := by
  obtain ⟨h, X, G⟩ := W.i
  exact He.glo_ok X G (W.c.a.fact 21 rfl)
theorem g_check_position (W : Wd K mg) : mg "_check_position" = some (.ref (He.ga K "_check_position")) := by
  obtain ⟨h, X, G⟩ := W.i
  exact He.glo_ok X G (W.c.a.fact 22 rfl)
theorem g_write_runs (W : Wd K mg) : mg "write_runs" = some (.ref (He.ga K "write_runs")) := by
  obtain ⟨h, X, G⟩ := W.i
  exact He.glo_ok X G (W.c.a.fact 23 rfl)
theorem g_write_run (W : Wd K mg) : mg "_write_run" = some (.ref (He.ga K "_write_run")) := by
  obtain ⟨h, X, G⟩ := W.i
  exact He.glo_ok X G (W.c.a.fact 24 rfl)
theorem g_write_entry (W : Wd K mg) : mg "_write_entry" = some (.ref (He.ga K "_write_entry")) := by
  obtain ⟨h, X, G⟩ := W.i
  exact He.glo_ok X G (W.c.a.fact 25 rfl)
theorem g_form_and_bytes (W : Wd K mg) : mg "_form_and_bytes" = some (.ref (He.ga K "_form_and_bytes")) := by
  obtain ⟨h, X, G⟩ := W.i
  exact He.glo_ok X G (W.c.a.fact 26 rfl)
theorem g_write_long (W : Wd K mg) : mg "_write_long" = some (.ref (He.ga K "_write_long")) := by
  obtain ⟨h, X, G⟩ := W.i
  exact He.glo_ok X G (W.c.a.fact 27 rfl)
theorem g_spans_of (W : Wd K mg) : mg "_spans_of" = some (.ref (He.ga K "_spans_of")) := by
  obtain ⟨h, X, G⟩ := W.i
  exact He.glo_ok X G (W.c.a.fact 28 rfl)
theorem g_moved (W : Wd K mg) : mg "moved" = some (.ref (He.ga K "moved")) := by
  obtain ⟨h, X, G⟩ := W.i
  exact He.glo_ok X G (W.c.a.fact 29 rfl)
theorem g_moved_span (W : Wd K mg) : mg "_moved_span" = some (.ref (He.ga K "_moved_span")) := by
  obtain ⟨h, X, G⟩ := W.i
  exact He.glo_ok X G (W.c.a.fact 30 rfl)
theorem g_moved_line (W : Wd K mg) : mg "_moved_line" = some (.ref (He.ga K "_moved_line")) := by
  obtain ⟨h, X, G⟩ := W.i
  exact He.glo_ok X G (W.c.a.fact 31 rfl)
theorem g_l_cell_at (W : Wd K mg) : mg "_law_cell_at" = some (.ref (He.ga K "_law_cell_at")) := by
  obtain ⟨h, X, G⟩ := W.i
  exact He.glo_ok X G (W.c.a.fact 32 rfl)
theorem g_l_well (W : Wd K mg) : mg "_law_well" = some (.ref (He.ga K "_law_well")) := by
  obtain ⟨h, X, G⟩ := W.i
  exact He.glo_ok X G (W.c.a.fact 33 rfl)
theorem g_l_draw (W : Wd K mg) : mg "_law_draw" = some (.ref (He.ga K "_law_draw")) := by
  obtain ⟨h, X, G⟩ := W.i
  exact He.glo_ok X G (W.c.a.fact 34 rfl)
theorem g_l_one (W : Wd K mg) : mg "_law_one" = some (.ref (He.ga K "_law_one")) := by
  obtain ⟨h, X, G⟩ := W.i
  exact He.glo_ok X G (W.c.a.fact 35 rfl)
theorem g_l_line (W : Wd K mg) : mg "_law_line" = some (.ref (He.ga K "_law_line")) := by
  obtain ⟨h, X, G⟩ := W.i
  exact He.glo_ok X G (W.c.a.fact 36 rfl)
theorem g_l_column (W : Wd K mg) : mg "_law_column" = some (.ref (He.ga K "_law_column")) := by
  obtain ⟨h, X, G⟩ := W.i
  exact He.glo_ok X G (W.c.a.fact 37 rfl)
theorem g_l_span (W : Wd K mg) : mg "_law_span" = some (.ref (He.ga K "_law_span")) := by
  obtain ⟨h, X, G⟩ := W.i
  exact He.glo_ok X G (W.c.a.fact 38 rfl)
theorem g_l_spans (W : Wd K mg) : mg "_law_spans" = some (.ref (He.ga K "_law_spans")) := by
  obtain ⟨h, X, G⟩ := W.i
  exact He.glo_ok X G (W.c.a.fact 39 rfl)
theorem g_l_groups (W : Wd K mg) : mg "_law_groups" = some (.ref (He.ga K "_law_groups")) := by
  obtain ⟨h, X, G⟩ := W.i
  exact He.glo_ok X G (W.c.a.fact 40 rfl)
theorem g_l_folded (W : Wd K mg) : mg "_law_folded" = some (.ref (He.ga K "_law_folded")) := by
  obtain ⟨h, X, G⟩ := W.i
  exact He.glo_ok X G (W.c.a.fact 41 rfl)
theorem g_l_padded (W : Wd K mg) : mg "_law_padded" = some (.ref (He.ga K "_law_padded")) := by
  obtain ⟨h, X, G⟩ := W.i
  exact He.glo_ok X G (W.c.a.fact 42 rfl)
theorem g_l_column_number (W : Wd K mg) : mg "_law_column_number" = some (.ref (He.ga K "_law_column_number")) := by
  obtain ⟨h, X, G⟩ := W.i
  exact He.glo_ok X G (W.c.a.fact 43 rfl)
theorem g_l_loose_entry (W : Wd K mg) : mg "_law_loose_entry" = some (.ref (He.ga K "_law_loose_entry")) := by
  obtain ⟨h, X, G⟩ := W.i
  exact He.glo_ok X G (W.c.a.fact 44 rfl)
theorem g_l_written (W : Wd K mg) : mg "_law_written" = some (.ref (He.ga K "_law_written")) := by
  obtain ⟨h, X, G⟩ := W.i
  exact He.glo_ok X G (W.c.a.fact 45 rfl)
theorem g_l_moved (W : Wd K mg) : mg "_law_moved" = some (.ref (He.ga K "_law_moved")) := by
  obtain ⟨h, X, G⟩ := W.i
  exact He.glo_ok X G (W.c.a.fact 46 rfl)
theorem g_l_said (W : Wd K mg) : mg "_law_said" = some (.ref (He.ga K "_law_said")) := by
  obtain ⟨h, X, G⟩ := W.i
  exact He.glo_ok X G (W.c.a.fact 47 rfl)
theorem g_l_due (W : Wd K mg) : mg "_law_due" = some (.ref (He.ga K "_law_due")) := by
  obtain ⟨h, X, G⟩ := W.i
  exact He.glo_ok X G (W.c.a.fact 48 rfl)
theorem g_l_edit (W : Wd K mg) : mg "_law_edit" = some (.ref (He.ga K "_law_edit")) := by
  obtain ⟨h, X, G⟩ := W.i
  exact He.glo_ok X G (W.c.a.fact 49 rfl)
theorem g_l_idle (W : Wd K mg) : mg "_law_idle" = some (.ref (He.ga K "_law_idle")) := by
  obtain ⟨h, X, G⟩ := W.i
  exact He.glo_ok X G (W.c.a.fact 50 rfl)
theorem g_law (W : Wd K mg) : mg "law" = some (.ref (He.ga K "law")) := by
  obtain ⟨h, X, G⟩ := W.i
  exact He.glo_ok X G (W.c.a.fact 51 rfl)
theorem g_isinstance (W : Wd K mg) : mg "isinstance" = none := by
  obtain ⟨h, X, G⟩ := W.i
  exact He.free_ok X G (W.c.a.fact 52 rfl)
theorem g_int (W : Wd K mg) : mg "int" = none := by
  obtain ⟨h, X, G⟩ := W.i
  exact He.free_ok X G (W.c.a.fact 53 rfl)
theorem g_bool (W : Wd K mg) : mg "bool" = none := by
  obtain ⟨h, X, G⟩ := W.i
  exact He.free_ok X G (W.c.a.fact 54 rfl)
theorem g_bytes (W : Wd K mg) : mg "bytes" = none := by
  obtain ⟨h, X, G⟩ := W.i
  exact He.free_ok X G (W.c.a.fact 55 rfl)
theorem g_list (W : Wd K mg) : mg "list" = none := by
  obtain ⟨h, X, G⟩ := W.i
  exact He.free_ok X G (W.c.a.fact 56 rfl)
theorem g_tuple (W : Wd K mg) : mg "tuple" = none := by
  obtain ⟨h, X, G⟩ := W.i
  exact He.free_ok X G (W.c.a.fact 57 rfl)
theorem g_all (W : Wd K mg) : mg "all" = none := by
  obtain ⟨h, X, G⟩ := W.i
  exact He.free_ok X G (W.c.a.fact 58 rfl)
theorem g_len (W : Wd K mg) : mg "len" = none := by
  obtain ⟨h, X, G⟩ := W.i
  exact He.free_ok X G (W.c.a.fact 59 rfl)
theorem g_enumerate (W : Wd K mg) : mg "enumerate" = none := by
  obtain ⟨h, X, G⟩ := W.i
  exact He.free_ok X G (W.c.a.fact 60 rfl)
theorem g_min (W : Wd K mg) : mg "min" = none := by
  obtain ⟨h, X, G⟩ := W.i
  exact He.free_ok X G (W.c.a.fact 61 rfl)
theorem g_sorted (W : Wd K mg) : mg "sorted" = none := by
  obtain ⟨h, X, G⟩ := W.i
  exact He.free_ok X G (W.c.a.fact 62 rfl)
theorem g_max (W : Wd K mg) : mg "max" = none := by
  obtain ⟨h, X, G⟩ := W.i
  exact He.free_ok X G (W.c.a.fact 63 rfl)
theorem g_range (W : Wd K mg) : mg "range" = none := by
  obtain ⟨h, X, G⟩ := W.i
  exact He.free_ok X G (W.c.a.fact 64 rfl)
theorem g_MOST (W : Wd K mg) : ∃ t, mg "MOST" = some (.int 2147483647 t) := by
  obtain ⟨h, X, G⟩ := W.i
  exact He.int_ok X G (W.c.a.fact 65 rfl)
theorem g_LINE (W : Wd K mg) : ∃ t, mg "LINE" = some (.int 10 t) := by
  obtain ⟨h, X, G⟩ := W.i
  exact He.int_ok X G (W.c.a.fact 66 rfl)
theorem g_BARE (W : Wd K mg) : ∃ t, mg "BARE" = some (.int 13 t) := by
  obtain ⟨h, X, G⟩ := W.i
  exact He.int_ok X G (W.c.a.fact 67 rfl)
theorem g_LONG (W : Wd K mg) : ∃ t, mg "LONG" = some (.int 14 t) := by
  obtain ⟨h, X, G⟩ := W.i
  exact He.int_ok X G (W.c.a.fact 68 rfl)
theorem g_NONE (W : Wd K mg) : ∃ t, mg "NONE" = some (.int 15 t) := by
  obtain ⟨h, X, G⟩ := W.i
  exact He.int_ok X G (W.c.a.fact 69 rfl)
theorem g_LAST_SHIFT (W : Wd K mg) : ∃ t, mg "LAST_SHIFT" = some (.int 42 t) := by
  obtain ⟨h, X, G⟩ := W.i
  exact He.int_ok X G (W.c.a.fact 70 rfl)
theorem gc_Table (W : Wd K mg) : mg "Table" = some (.ref (He.ga K "Table")) := by
  obtain ⟨h, X, G⟩ := W.i
  exact He.glo_ok X G (W.c.a.fact 71 rfl)
theorem c_Table (W : Wd K mg) : Cls K (He.ga K "Table") := He.cls_ok (W.c.a.fact 72 rfl)
theorem mk_Table (W : Wd K mg) : Mk K (He.ga K "Table") (He.ma K (He.ga K "Table") "__init__") := He.mkr_ok (W.c.a.fact 73 rfl)
theorem no_data (W : Wd K mg) : NoAttr K (He.ga K "Table") "data" := He.noat_ok (W.c.a.fact 74 rfl)
theorem no_first_line (W : Wd K mg) : NoAttr K (He.ga K "Table") "first_line" := He.noat_ok (W.c.a.fact 75 rfl)
theorem no__entries (W : Wd K mg) : NoAttr K (He.ga K "Table") "_entries" := He.noat_ok (W.c.a.fact 76 rfl)
theorem no__spans (W : Wd K mg) : NoAttr K (He.ga K "Table") "_spans" := He.noat_ok (W.c.a.fact 77 rfl)
theorem no_step_count (W : Wd K mg) : NoAttr K (He.ga K "Table") "step_count" := He.noat_ok (W.c.a.fact 78 rfl)
theorem m_spans (W : Wd K mg) : Meth K (He.ga K "Table") "spans" (He.ma K (He.ga K "Table") "spans") := He.meth_ok (W.c.a.fact 79 rfl)
theorem m_entries (W : Wd K mg) : Meth K (He.ga K "Table") "entries" (He.ma K (He.ga K "Table") "entries") := He.meth_ok (W.c.a.fact 80 rfl)
theorem g_HIGH_NAMES (W : Wd K mg) : mg "HIGH_NAMES" = some (.ref (He.ga K "HIGH_NAMES")) := by
  obtain ⟨h, X, G⟩ := W.i
  exact He.glo_ok X G (W.c.a.fact 81 rfl)
theorem x_BadTable (W : Wd K mg) : ExcF K mg "BadTable" ["at", "why"] := by
  obtain ⟨h, X, G⟩ := W.i
  have c := W.c.b
  exact excF_of X G (He.ba c).1
theorem x_BadLine (W : Wd K mg) : ExcF K mg "BadLine" ["line"] := by
  obtain ⟨h, X, G⟩ := W.i
  have c := W.c.b
  have c := (He.ba c).2
  exact excF_of X G (He.ba c).1
theorem x_BadSpan (W : Wd K mg) : ExcF K mg "BadSpan" ["at"] := by
  obtain ⟨h, X, G⟩ := W.i
  have c := W.c.b
  have c := (He.ba c).2
  have c := (He.ba c).2
  exact excF_of X G (He.ba c).1
theorem x_BadCount (W : Wd K mg) : ExcF K mg "BadCount" ["many"] := by
  obtain ⟨h, X, G⟩ := W.i
  have c := W.c.b
  have c := (He.ba c).2
  have c := (He.ba c).2
  have c := (He.ba c).2
  exact excF_of X G (He.ba c).1
theorem x_HIGH_NAMES (W : Wd K mg) : ∀ H, SqT K H (He.ga K "HIGH_NAMES") [.str "line", .str "line", .str "line", .str "bare", .str "long", .str "none"] := by
  obtain ⟨h, X, G⟩ := W.i
  have c := W.c.b
  have c := (He.ba c).2
  have c := (He.ba c).2
  have c := (He.ba c).2
  have c := (He.ba c).2
  exact He.tupB_ok (He.ba c).1
theorem xm_BadCount_BadLine (W : Wd K mg) : PySem.W.exmOne K (.ref (He.ga K "BadCount")) (.ref (He.ga K "BadLine")) = some false := by
  obtain ⟨h, X, G⟩ := W.i
  have c := W.c.b
  have c := (He.ba c).2
  have c := (He.ba c).2
  have c := (He.ba c).2
  have c := (He.ba c).2
  have c := (He.ba c).2
  exact of_decide_eq_true (He.ba c).1
theorem k_Table_of (W : Wd K mg) : Pu.SMet K (He.ga K "Table") "of" (He5.wf K (He.ga K "Table") "staticmethod" "of") := by
  obtain ⟨h, X, G⟩ := W.i
  have c := W.c.b
  have c := (He.ba c).2
  have c := (He.ba c).2
  have c := (He.ba c).2
  have c := (He.ba c).2
  have c := (He.ba c).2
  have c := (He.ba c).2
  exact Pu.smet_ok (He.ba c).1
theorem F_wall (W : Wd K mg) : ∃ fd, FunD K "_wall" "_wall" (defArgs s_wall) (defBody s_wall) (defScope s_wall) [] [] (He.ga K "_wall") fd := W.c.a.def_ 0 (d := d_wall) rfl
theorem F_BadTable_init (W : Wd K mg) : ∃ fd, FunD K "__init__" "BadTable.__init__" (defArgs s_BadTable_init) (defBody s_BadTable_init) (defScope s_BadTable_init) [] [] (He.ma K (He.ga K "BadTable") "__init__") fd := W.c.a.def_ 1 (d := d_BadTable_init) rfl
theorem F_BadLine_init (W : Wd K mg) : ∃ fd, FunD K "__init__" "BadLine.__init__" (defArgs s_BadLine_init) (defBody s_BadLine_init) (defScope s_BadLine_init) [] [] (He.ma K (He.ga K "BadLine") "__init__") fd := W.c.a.def_ 2 (d := d_BadLine_init) rfl
theorem F_BadSpan_init (W : Wd K mg) : ∃ fd, FunD K "__init__" "BadSpan.__init__" (defArgs s_BadSpan_init) (defBody s_BadSpan_init) (defScope s_BadSpan_init) [] [] (He.ma K (He.ga K "BadSpan") "__init__") fd := W.c.a.def_ 3 (d := d_BadSpan_init) rfl
theorem F_BadCount_init (W : Wd K mg) : ∃ fd, FunD K "__init__" "BadCount.__init__" (defArgs s_BadCount_init) (defBody s_BadCount_init) (defScope s_BadCount_init) [] [] (He.ma K (He.ga K "BadCount") "__init__") fd := W.c.a.def_ 4 (d := d_BadCount_init) rfl
theorem F_is_int (W : Wd K mg) : ∃ fd, FunD K "is_int" "is_int" (defArgs s_is_int) (defBody s_is_int) (defScope s_is_int) [] [] (He.ga K "is_int") fd := W.c.a.def_ 5 (d := d_is_int) rfl
theorem F_is_int_from (W : Wd K mg) : ∃ fd, FunD K "is_int_from" "is_int_from" (defArgs s_is_int_from) (defBody s_is_int_from) (defScope s_is_int_from) [] [] (He.ga K "is_int_from") fd := W.c.a.def_ 6 (d := d_is_int_from) rfl
theorem F_is_byte_data (W : Wd K mg) : ∃ fd, FunD K "is_byte_data" "is_byte_data" (defArgs s_is_byte_data) (defBody s_is_byte_data) (defScope s_is_byte_data) [] [] (He.ga K "is_byte_data") fd := W.c.a.def_ 7 (d := d_is_byte_data) rfl
theorem F_check_byte_data (W : Wd K mg) : ∃ fd, FunD K "check_byte_data" "check_byte_data" (defArgs s_check_byte_data) (defBody s_check_byte_data) (defScope s_check_byte_data) [] [] (He.ga K "check_byte_data") fd := W.c.a.def_ 8 (d := d_check_byte_data) rfl
theorem F_check_source_line (W : Wd K mg) : ∃ fd, FunD K "check_source_line" "check_source_line" (defArgs s_check_source_line) (defBody s_check_source_line) (defScope s_check_source_line) [] [] (He.ga K "check_source_line") fd := W.c.a.def_ 9 (d := d_check_source_line) rfl
theorem F_check_count (W : Wd K mg) : ∃ fd, FunD K "check_count" "check_count" (defArgs s_check_count) (defBody s_check_count) (defScope s_check_count) [] [] (He.ga K "check_count") fd := W.c.a.def_ 10 (d := d_check_count) rfl
theorem F_is_span (W : Wd K mg) : ∃ fd, FunD K "is_span" "is_span" (defArgs s_is_span) (defBody s_is_span) (defScope s_is_span) [] [] (He.ga K "is_span") fd := W.c.a.def_ 11 (d := d_is_span) rfl
theorem F_check_spans (W : Wd K mg) : ∃ fd, FunD K "check_spans" "check_spans" (defArgs s_check_spans) (defBody s_check_spans) (defScope s_check_spans) [] [] (He.ga K "check_spans") fd := W.c.a.def_ 12 (d := d_check_spans) rfl
theorem F_line_behind (W : Wd K mg) : ∃ fd, FunD K "line_behind" "line_behind" (defArgs s_line_behind) (defBody s_line_behind) (defScope s_line_behind) [] [] (He.ga K "line_behind") fd := W.c.a.def_ 13 (d := d_line_behind) rfl
theorem F_ranges_of (W : Wd K mg) : ∃ fd, FunD K "ranges_of" "ranges_of" (defArgs s_ranges_of) (defBody s_ranges_of) (defScope s_ranges_of) [] [] (He.ga K "ranges_of") fd := W.c.a.def_ 14 (d := d_ranges_of) rfl
theorem F_name_of (W : Wd K mg) : ∃ fd, FunD K "name_of" "name_of" (defArgs s_name_of) (defBody s_name_of) (defScope s_name_of) [] [] (He.ga K "name_of") fd := W.c.a.def_ 15 (d := d_name_of) rfl
theorem F_write_number (W : Wd K mg) : ∃ fd, FunD K "write_number" "write_number" (defArgs s_write_number) (defBody s_write_number) (defScope s_write_number) [] [] (He.ga K "write_number") fd := W.c.a.def_ 16 (d := d_write_number) rfl
theorem F_write_signed (W : Wd K mg) : ∃ fd, FunD K "write_signed" "write_signed" (defArgs s_write_signed) (defBody s_write_signed) (defScope s_write_signed) [] [] (He.ga K "write_signed") fd := W.c.a.def_ 17 (d := d_write_signed) rfl
theorem F_read_further (W : Wd K mg) : ∃ fd, FunD K "read_further" "read_further" (defArgs s_read_further) (defBody s_read_further) (defScope s_read_further) [] [] (He.ga K "read_further") fd := W.c.a.def_ 18 (d := d_read_further) rfl
theorem F_read_number (W : Wd K mg) : ∃ fd, FunD K "read_number" "read_number" (defArgs s_read_number) (defBody s_read_number) (defScope s_read_number) [] [] (He.ga K "read_number") fd := W.c.a.def_ 19 (d := d_read_number) rfl
theorem F_read_signed (W : Wd K mg) : ∃ fd, FunD K "read_signed" "read_signed" (defArgs s_read_signed) (defBody s_read_signed) (defScope s_read_signed) [] [] (He.ga K "read_signed") fd := W.c.a.def_ 20 (d := d_read_signed) rfl
theorem F_read_entries (W : Wd K mg) : ∃ fd, FunD K "read_entries" "read_entries" (defArgs s_read_entries) (defBody s_read_entries) (defScope s_read_entries) [] [] (He.ga K "read_entries") fd := W.c.a.def_ 21 (d := d_read_entries) rfl
theorem F_read_entry (W : Wd K mg) : ∃ fd, FunD K "read_entry" "read_entry" (defArgs s_read_entry) (defBody s_read_entry) (defScope s_read_entry) [] [] (He.ga K "read_entry") fd := W.c.a.def_ 22 (d := d_read_entry) rfl
theorem F_read_position (W : Wd K mg) : ∃ fd, FunD K "_read_position" "_read_position" (defArgs s_read_position) (defBody s_read_position) (defScope s_read_position) [] [] (He.ga K "_read_position") fd := W.c.a.def_ 23 (d := d_read_position) rfl
theorem F_read_long (W : Wd K mg) : ∃ fd, FunD K "_read_long" "_read_long" (defArgs s_read_long) (defBody s_read_long) (defScope s_read_long) [] [] (He.ga K "_read_long") fd := W.c.a.def_ 24 (d := d_read_long) rfl
theorem F_column (W : Wd K mg) : ∃ fd, FunD K "_column" "_column" (defArgs s_column) (defBody s_column) (defScope s_column) [] [] (He.ga K "_column") fd := W.c.a.def_ 25 (d := d_column) rfl
theorem F_check_position (W : Wd K mg) : ∃ fd, FunD K "_check_position" "_check_position" (defArgs s_check_position) (defBody s_check_position) (defScope s_check_position) [] [] (He.ga K "_check_position") fd := W.c.a.def_ 26 (d := d_check_position) rfl
theorem F_write_runs (W : Wd K mg) : ∃ fd, FunD K "write_runs" "write_runs" (defArgs s_write_runs) (defBody s_write_runs) (defScope s_write_runs) [] [] (He.ga K "write_runs") fd := W.c.a.def_ 27 (d := d_write_runs) rfl
theorem F_write_run (W : Wd K mg) : ∃ fd, FunD K "_write_run" "_write_run" (defArgs s_write_run) (defBody s_write_run) (defScope s_write_run) [] [] (He.ga K "_write_run") fd := W.c.a.def_ 28 (d := d_write_run) rfl
theorem F_write_entry (W : Wd K mg) : ∃ fd, FunD K "_write_entry" "_write_entry" (defArgs s_write_entry) (defBody s_write_entry) (defScope s_write_entry) [] [] (He.ga K "_write_entry") fd := W.c.a.def_ 29 (d := d_write_entry) rfl
theorem F_form_and_bytes (W : Wd K mg) : ∃ fd, FunD K "_form_and_bytes" "_form_and_bytes" (defArgs s_form_and_bytes) (defBody s_form_and_bytes) (defScope s_form_and_bytes) [] [] (He.ga K "_form_and_bytes") fd := W.c.a.def_ 30 (d := d_form_and_bytes) rfl
theorem F_write_long (W : Wd K mg) : ∃ fd, FunD K "_write_long" "_write_long" (defArgs s_write_long) (defBody s_write_long) (defScope s_write_long) [] [] (He.ga K "_write_long") fd := W.c.a.def_ 31 (d := d_write_long) rfl
theorem F_Table_init (W : Wd K mg) : ∃ fd, FunD K "__init__" "Table.__init__" (defArgs s_Table_init) (defBody s_Table_init) (defScope s_Table_init) [] [] (He.ma K (He.ga K "Table") "__init__") fd := W.c.a.def_ 32 (d := d_Table_init) rfl
theorem F_Table_of (W : Wd K mg) : ∃ fd, FunD K "of" "Table.of" (defArgs s_Table_of) (defBody s_Table_of) (defScope s_Table_of) [] [] (He5.wf K (He.ga K "Table") "staticmethod" "of") fd := W.c.a.def_ 33 (d := d_Table_of) rfl
theorem F_Table_span_at (W : Wd K mg) : ∃ fd, FunD K "span_at" "Table.span_at" (defArgs s_Table_span_at) (defBody s_Table_span_at) (defScope s_Table_span_at) [] [] (He.ma K (He.ga K "Table") "span_at") fd := W.c.a.def_ 34 (d := d_Table_span_at) rfl
theorem F_Table_spans (W : Wd K mg) : ∃ fd, FunD K "spans" "Table.spans" (defArgs s_Table_spans) (defBody s_Table_spans) (defScope s_Table_spans) [] [] (He.ma K (He.ga K "Table") "spans") fd := W.c.a.def_ 35 (d := d_Table_spans) rfl
theorem F_Table_runs (W : Wd K mg) : ∃ fd, FunD K "runs" "Table.runs" (defArgs s_Table_runs) (defBody s_Table_runs) (defScope s_Table_runs) [] [] (He.ma K (He.ga K "Table") "runs") fd := W.c.a.def_ 36 (d := d_Table_runs) rfl
theorem F_Table_entries (W : Wd K mg) : ∃ fd, FunD K "entries" "Table.entries" (defArgs s_Table_entries) (defBody s_Table_entries) (defScope s_Table_entries) [] [] (He.ma K (He.ga K "Table") "entries") fd := W.c.a.def_ 37 (d := d_Table_entries) rfl
theorem F_Table_line_ranges (W : Wd K mg) : ∃ fd, FunD K "line_ranges" "Table.line_ranges" (defArgs s_Table_line_ranges) (defBody s_Table_line_ranges) (defScope s_Table_line_ranges) [] [] (He.ma K (He.ga K "Table") "line_ranges") fd := W.c.a.def_ 38 (d := d_Table_line_ranges) rfl
theorem F_Table_lines (W : Wd K mg) : ∃ fd, FunD K "lines" "Table.lines" (defArgs s_Table_lines) (defBody s_Table_lines) (defScope s_Table_lines) [] [] (He.ma K (He.ga K "Table") "lines") fd := W.c.a.def_ 39 (d := d_Table_lines) rfl
theorem F_Table_stops (W : Wd K mg) : ∃ fd, FunD K "stops" "Table.stops" (defArgs s_Table_stops) (defBody s_Table_stops) (defScope s_Table_stops) [] [] (He.ma K (He.ga K "Table") "stops") fd := W.c.a.def_ 40 (d := d_Table_stops) rfl
theorem F_Table_next_line (W : Wd K mg) : ∃ fd, FunD K "next_line" "Table.next_line" (defArgs s_Table_next_line) (defBody s_Table_next_line) (defScope s_Table_next_line) [] [] (He.ma K (He.ga K "Table") "next_line") fd := W.c.a.def_ 41 (d := d_Table_next_line) rfl
theorem F_Table_covering (W : Wd K mg) : ∃ fd, FunD K "covering" "Table.covering" (defArgs s_Table_covering) (defBody s_Table_covering) (defScope s_Table_covering) [] [] (He.ma K (He.ga K "Table") "covering") fd := W.c.a.def_ 42 (d := d_Table_covering) rfl
theorem F_Table_eq (W : Wd K mg) : ∃ fd, FunD K "__eq__" "Table.__eq__" (defArgs s_Table_eq) (defBody s_Table_eq) (defScope s_Table_eq) [] [] (He.ma K (He.ga K "Table") "__eq__") fd := W.c.a.def_ 43 (d := d_Table_eq) rfl
theorem F_spans_of (W : Wd K mg) : ∃ fd, FunD K "_spans_of" "_spans_of" (defArgs s_spans_of) (defBody s_spans_of) (defScope s_spans_of) [] [] (He.ga K "_spans_of") fd := W.c.a.def_ 44 (d := d_spans_of) rfl
theorem F_moved (W : Wd K mg) : ∃ fd, FunD K "moved" "moved" (defArgs s_moved) (defBody s_moved) (defScope s_moved) [] [] (He.ga K "moved") fd := W.c.a.def_ 45 (d := d_moved) rfl
theorem F_moved_span (W : Wd K mg) : ∃ fd, FunD K "_moved_span" "_moved_span" (defArgs s_moved_span) (defBody s_moved_span) (defScope s_moved_span) [] [] (He.ga K "_moved_span") fd := W.c.a.def_ 46 (d := d_moved_span) rfl
theorem F_moved_line (W : Wd K mg) : ∃ fd, FunD K "_moved_line" "_moved_line" (defArgs s_moved_line) (defBody s_moved_line) (defScope s_moved_line) [] [] (He.ga K "_moved_line") fd := W.c.a.def_ 47 (d := d_moved_line) rfl
theorem F_l_cell_at (W : Wd K mg) : ∃ fd, FunD K "_law_cell_at" "_law_cell_at" (defArgs s_l_cell_at) (defBody s_l_cell_at) (defScope s_l_cell_at) [] [] (He.ga K "_law_cell_at") fd := W.c.a.def_ 48 (d := d_l_cell_at) rfl
theorem F_l_well (W : Wd K mg) : ∃ fd, FunD K "_law_well" "_law_well" (defArgs s_l_well) (defBody s_l_well) (defScope s_l_well) [] [] (He.ga K "_law_well") fd := W.c.a.def_ 49 (d := d_l_well) rfl
theorem F_l_draw (W : Wd K mg) : ∃ fd, FunD K "_law_draw" "_law_draw" (defArgs s_l_draw) (defBody s_l_draw) (defScope s_l_draw) [] [] (He.ga K "_law_draw") fd := W.c.a.def_ 50 (d := d_l_draw) rfl
theorem F_l_one (W : Wd K mg) : ∃ fd, FunD K "_law_one" "_law_one" (defArgs s_l_one) (defBody s_l_one) (defScope s_l_one) [] [] (He.ga K "_law_one") fd := W.c.a.def_ 51 (d := d_l_one) rfl
theorem F_l_line (W : Wd K mg) : ∃ fd, FunD K "_law_line" "_law_line" (defArgs s_l_line) (defBody s_l_line) (defScope s_l_line) [] [] (He.ga K "_law_line") fd := W.c.a.def_ 52 (d := d_l_line) rfl
theorem F_l_column (W : Wd K mg) : ∃ fd, FunD K "_law_column" "_law_column" (defArgs s_l_column) (defBody s_l_column) (defScope s_l_column) [] [] (He.ga K "_law_column") fd := W.c.a.def_ 53 (d := d_l_column) rfl
theorem F_l_span (W : Wd K mg) : ∃ fd, FunD K "_law_span" "_law_span" (defArgs s_l_span) (defBody s_l_span) (defScope s_l_span) [] [] (He.ga K "_law_span") fd := W.c.a.def_ 54 (d := d_l_span) rfl
theorem F_l_spans (W : Wd K mg) : ∃ fd, FunD K "_law_spans" "_law_spans" (defArgs s_l_spans) (defBody s_l_spans) (defScope s_l_spans) [] [] (He.ga K "_law_spans") fd := W.c.a.def_ 55 (d := d_l_spans) rfl
theorem F_l_groups (W : Wd K mg) : ∃ fd, FunD K "_law_groups" "_law_groups" (defArgs s_l_groups) (defBody s_l_groups) (defScope s_l_groups) [] [] (He.ga K "_law_groups") fd := W.c.a.def_ 56 (d := d_l_groups) rfl
theorem F_l_folded (W : Wd K mg) : ∃ fd, FunD K "_law_folded" "_law_folded" (defArgs s_l_folded) (defBody s_l_folded) (defScope s_l_folded) [] [] (He.ga K "_law_folded") fd := W.c.a.def_ 57 (d := d_l_folded) rfl
theorem F_l_padded (W : Wd K mg) : ∃ fd, FunD K "_law_padded" "_law_padded" (defArgs s_l_padded) (defBody s_l_padded) (defScope s_l_padded) [] [] (He.ga K "_law_padded") fd := W.c.a.def_ 58 (d := d_l_padded) rfl
theorem F_l_column_number (W : Wd K mg) : ∃ fd, FunD K "_law_column_number" "_law_column_number" (defArgs s_l_column_number) (defBody s_l_column_number) (defScope s_l_column_number) [] [] (He.ga K "_law_column_number") fd := W.c.a.def_ 59 (d := d_l_column_number) rfl
theorem F_l_loose_entry (W : Wd K mg) : ∃ fd, FunD K "_law_loose_entry" "_law_loose_entry" (defArgs s_l_loose_entry) (defBody s_l_loose_entry) (defScope s_l_loose_entry) [] [] (He.ga K "_law_loose_entry") fd := W.c.a.def_ 60 (d := d_l_loose_entry) rfl
theorem F_l_written (W : Wd K mg) : ∃ fd, FunD K "_law_written" "_law_written" (defArgs s_l_written) (defBody s_l_written) (defScope s_l_written) [] [] (He.ga K "_law_written") fd := W.c.a.def_ 61 (d := d_l_written) rfl
theorem F_l_moved (W : Wd K mg) : ∃ fd, FunD K "_law_moved" "_law_moved" (defArgs s_l_moved) (defBody s_l_moved) (defScope s_l_moved) [] [] (He.ga K "_law_moved") fd := W.c.a.def_ 62 (d := d_l_moved) rfl
theorem F_l_said (W : Wd K mg) : ∃ fd, FunD K "_law_said" "_law_said" (defArgs s_l_said) (defBody s_l_said) (defScope s_l_said) [] [] (He.ga K "_law_said") fd := W.c.a.def_ 63 (d := d_l_said) rfl
theorem F_l_due (W : Wd K mg) : ∃ fd, FunD K "_law_due" "_law_due" (defArgs s_l_due) (defBody s_l_due) (defScope s_l_due) [] [] (He.ga K "_law_due") fd := W.c.a.def_ 64 (d := d_l_due) rfl
theorem F_l_edit (W : Wd K mg) : ∃ fd, FunD K "_law_edit" "_law_edit" (defArgs s_l_edit) (defBody s_l_edit) (defScope s_l_edit) [] [] (He.ga K "_law_edit") fd := W.c.a.def_ 65 (d := d_l_edit) rfl
theorem F_l_idle (W : Wd K mg) : ∃ fd, FunD K "_law_idle" "_law_idle" (defArgs s_l_idle) (defBody s_l_idle) (defScope s_l_idle) [] [] (He.ga K "_law_idle") fd := W.c.a.def_ 66 (d := d_l_idle) rfl
theorem F_law (W : Wd K mg) : ∃ fd, FunD K "law" "law" (defArgs s_law) (defBody s_law) (defScope s_law) [] [] (He.ga K "law") fd := W.c.a.def_ 67 (d := d_law) rfl
end
theorem i_BadTable {P : Program} {w : World} {K : PySem.W.Frag} {mg : Str → Option Value} {base : Heap} (W : Wd K mg) : IOk P w K mg base 1 "BadTable" ["self", "at", "why"] (spInit2 (He.ga K "BadTable") "at" "why") := by
  obtain ⟨fd, F⟩ := F_BadTable_init W
  refine ⟨fd, ?_, F.bindsN fun _ _ _ _ _ _ us hl => match us, hl with | [_, _, _], _ => rfl⟩
  refine F.ok sc_BadTable_init (fun vs H Q E h => ?_) (fun cdv A outer s H vs Q E hr h => ?_)
  · obtain ⟨a, v, u, rfl, _⟩ := h
    rfl
  · obtain ⟨a, v, u, rfl, ha, q⟩ := h
    refine ⟨_, PSs.nox (pss_cons (ps_ost (pv 0) (pv 1)) (pss_one (ps_ost (pv 0) (pv 2)))), ?_⟩
    refine ⟨v, rfl, .ref a, rfl, a, _, rfl, (x_BadTable W).ox, (x_BadTable W).no _ (by simp), .inl ⟨ha, fun dx n ne => ?_⟩⟩
    refine ⟨u, rfl, .ref a, rfl, a, _, rfl, (x_BadTable W).ox, (x_BadTable W).no _ (by simp), .inr ⟨dx, _, upd_same, by rw [upd_ne ne, upd_same], by show 1 ≤ 900; decide, ?_⟩⟩
    rw [upd_swap ne]
    exact q dx n ne
theorem i_BadLine {P : Program} {w : World} {K : PySem.W.Frag} {mg : Str → Option Value} {base : Heap} (W : Wd K mg) : IOk P w K mg base 1 "BadLine" ["self", "line"] (spInit1 (He.ga K "BadLine") "line") := by
  obtain ⟨fd, F⟩ := F_BadLine_init W
  refine ⟨fd, ?_, F.bindsN fun _ _ _ _ _ _ us hl => match us, hl with | [_, _], _ => rfl⟩
  refine F.ok sc_BadLine_init (fun vs H Q E h => ?_) (fun cdv A outer s H vs Q E hr h => ?_)
  · obtain ⟨a, v, rfl, _⟩ := h
    rfl
  · obtain ⟨a, v, rfl, ha, q⟩ := h
    refine ⟨_, PSs.nox (pss_one (ps_ost (pv 0) (pv 1))), ?_⟩
    exact ⟨v, rfl, .ref a, rfl, a, _, rfl, (x_BadLine W).ox, (x_BadLine W).no _ (by simp), .inl ⟨ha, q⟩⟩
theorem i_BadSpan {P : Program} {w : World} {K : PySem.W.Frag} {mg : Str → Option Value} {base : Heap} (W : Wd K mg) : IOk P w K mg base 1 "BadSpan" ["self", "at"] (spInit1 (He.ga K "BadSpan") "at") := by
  obtain ⟨fd, F⟩ := F_BadSpan_init W
  refine ⟨fd, ?_, F.bindsN fun _ _ _ _ _ _ us hl => match us, hl with | [_, _], _ => rfl⟩
  refine F.ok sc_BadSpan_init (fun vs H Q E h => ?_) (fun cdv A outer s H vs Q E hr h => ?_)
  · obtain ⟨a, v, rfl, _⟩ := h
    rfl
  · obtain ⟨a, v, rfl, ha, q⟩ := h
    refine ⟨_, PSs.nox (pss_one (ps_ost (pv 0) (pv 1))), ?_⟩
    exact ⟨v, rfl, .ref a, rfl, a, _, rfl, (x_BadSpan W).ox, (x_BadSpan W).no _ (by simp), .inl ⟨ha, q⟩⟩
theorem i_BadCount {P : Program} {w : World} {K : PySem.W.Frag} {mg : Str → Option Value} {base : Heap} (W : Wd K mg) : IOk P w K mg base 1 "BadCount" ["self", "many"] (spInit1 (He.ga K "BadCount") "many") := by
  obtain ⟨fd, F⟩ := F_BadCount_init W
  refine ⟨fd, ?_, F.bindsN fun _ _ _ _ _ _ us hl => match us, hl with | [_, _], _ => rfl⟩
  refine F.ok sc_BadCount_init (fun vs H Q E h => ?_) (fun cdv A outer s H vs Q E hr h => ?_)
  · obtain ⟨a, v, rfl, _⟩ := h
    rfl
  · obtain ⟨a, v, rfl, ha, q⟩ := h
    refine ⟨_, PSs.nox (pss_one (ps_ost (pv 0) (pv 1))), ?_⟩
    exact ⟨v, rfl, .ref a, rfl, a, _, rfl, (x_BadCount W).ox, (x_BadCount W).no _ (by simp), .inl ⟨ha, q⟩⟩
theorem rp_HIGH_NAMES (K : PySem.W.Frag) (G : Hp) : Reps K G [.str "line", .str "line", .str "line", .str "bare", .str "long", .str "none"] [.str "line", .str "line", .str "line", .str "bare", .str "long", .str "none"] := .cons (.str _) (.cons (.str _) (.cons (.str _) (.cons (.str _) (.cons (.str _) (.cons (.str _) .nil)))))
end K33

namespace K33
open PySem PySem.Spec PyProof.Rows L2 Lay Pu
def isIntP : PV → Bool
  | .int _ => true
  | _ => false
def q_is_int : PSp := fun γ K _ _ => ∃ (x : PV) (n : String), γ = [.sh x] ∧ x.tyN = some n ∧ K (.bl (isIntP x)) [.sh x]
theorem ok_is_int {P : Program} {w : World} {K : PySem.W.Frag} {mg : Str → Option Value} {base : Heap} (W : Wd K mg) : FOk P w K mg base CX0 1 "is_int" ["thing"] (spOf K q_is_int) :=
  fok (F_is_int W) (g_is_int W) (fun _ _ _ _ _ _ us hl => match us, hl with | [_], _ => rfl) fun fd F => by
  refine F.ok sc_is_int (sp_len (n := 1) fun γ Kp Ko Ep h => ?_) (fun cdv A outer s H vs Q E hr h => ?_)
  · obtain ⟨x, n, rfl, _⟩ := h
    rfl
  · refine ⟨_, PSs.nox (jss_one (js_ret (pp_and (pp_cb (pe_callB call_isiA (by rfl) (g_isinstance W) (by decide +kernel) (ja_cons (pp_v (pv 0)) (ja_cons (pp_gty (pe_bltn (v := .ty "int") rfl (g_int W) (by decide +kernel) rfl)) ja_nil))) cb_isi) (pp_one (pp_not (pp_cb (pe_callB call_isiA (by rfl) (g_isinstance W) (by decide +kernel) (ja_cons (pp_v (pv 0)) (ja_cons (pp_gty (pe_bltn (v := .ty "bool") rfl (g_bool W) (by decide +kernel) rfl)) ja_nil))) cb_isi)))))), body_of h fun γ Kp Ko Ep h => ?_⟩
    obtain ⟨x, n, rfl, hn, k⟩ := h
    cases x <;> cases hn <;> first
      | exact ⟨rfl, _, rfl, iteF k⟩
      | exact ⟨rfl, _, rfl, iteT ⟨rfl, _, rfl, k⟩⟩
def inRP (x : PV) (lo hi : Int) : Bool := match x with
  | .int i => decide (lo ≤ i) && decide (i ≤ hi)
  | _ => false
def q_is_int_from : PSp := fun γ K _ _ => ∃ (x : PV) (n : String) (lo hi : Int), γ = [.sh x, .sh (.int lo), .sh (.int hi)] ∧ x.tyN = some n ∧ K (.bl (inRP x lo hi)) [.sh x, .sh (.int lo), .sh (.int hi)]
theorem ok_is_int_from {P : Program} {w : World} {K : PySem.W.Frag} {mg : Str → Option Value} {base : Heap} (W : Wd K mg) : FOk P w K mg base CX0 2 "is_int_from" ["thing", "low", "high"] (spOf K q_is_int_from) :=
  fok (F_is_int_from W) (g_is_int_from W) (fun _ _ _ _ _ _ us hl => match us, hl with | [_, _, _], _ => rfl) fun fd F => by
  refine F.ok sc_is_int_from (sp_len (n := 3) fun γ Kp Ko Ep h => ?_) (fun cdv A outer s H vs Q E hr h => ?_)
  · obtain ⟨x, n, lo, hi, rfl, _⟩ := h
    rfl
  · refine ⟨_, PSs.nox (jss_one (js_ret (pp_and (pp_call (pe_fS (ok_is_int W) (hr.mono (by decide)) (by rfl) pass0S (ja_cons (pp_v (pv 0)) ja_nil))) (pp_one (pp_ch op_le op_le bin_le bin_le (pp_v (pv 1)) (pp_v (pv 0)) (pp_v (pv 2))))))), body_of h fun γ Kp Ko Ep h => ?_⟩
    obtain ⟨x, n, lo, hi, rfl, hn, k⟩ := h
    refine ⟨x, n, rfl, hn, ?_⟩
    cases x <;> first
      | exact iteF k
      | skip
    rename_i i
    refine iteT (ite_b (fun h1 => ?_) (fun h1 => ?_))
    · have e : inRP (.int i) lo hi = decide (i ≤ hi) := by
        show (decide (lo ≤ i) && decide (i ≤ hi)) = _
        rw [decide_eq_true h1, Bool.true_and]
      rw [e] at k
      exact k
    · have e : inRP (.int i) lo hi = false := by
        show (decide (lo ≤ i) && decide (i ≤ hi)) = _
        rw [decide_eq_false h1, Bool.false_and]
      rw [e] at k
      exact k
abbrev wl (a b : Int) : Cell := .lst [.int a, .int b]
def q_l_well : PSp := fun γ _ Ko _ => ∃ (c : Int), γ = [.sh (.int c)] ∧ ∀ w, Ko w (wl c 0) [.sh (.int c)]
theorem ok_l_well {P : Program} {w : World} {K : PySem.W.Frag} {mg : Str → Option Value} {base : Heap} (W : Wd K mg) : FOk P w K mg base CX0 1 "_law_well" ["_law_cell"] (spOf K q_l_well) :=
  fok (F_l_well W) (g_l_well W) (fun _ _ _ _ _ _ us hl => match us, hl with | [_], _ => rfl) fun fd F => by
  refine F.ok sc_l_well (sp_len (n := 1) fun γ Kp Ko Ep h => ?_) (fun cdv A outer s H vs Q E hr h => ?_)
  · obtain ⟨c, rfl, _⟩ := h
    rfl
  · refine ⟨_, PSs.nox (jss_one (js_retO (po_lst (ja_cons (pp_v (pv 0)) (ja_cons pp_int ja_nil))))), body_of h fun γ Kp Ko Ep h => ?_⟩
    obtain ⟨c, rfl, k⟩ := h
    exact ⟨by show 2 ≤ sizeLine; decide, fun w => k w⟩
def q_l_draw : PSp := fun γ K _ _ => ∃ (w : Addr) (a b m : Int), γ = [.ow w (wl a b), .sh (.int m)] ∧ 0 < m ∧ m < 2 ^ 200 ∧ ∀ d a' b', 0 ≤ d → d < m → K (.int d) [.ow w (wl a' b'), .sh (.int m)]
theorem ok_l_draw {P : Program} {w : World} {K : PySem.W.Frag} {mg : Str → Option Value} {base : Heap} (W : Wd K mg) : FOk P w K mg base CX0 1 "_law_draw" ["_law_well_here", "_law_many"] (spOf K q_l_draw) :=
  fok (F_l_draw W) (g_l_draw W) (fun _ _ _ _ _ _ us hl => match us, hl with | [_, _], _ => rfl) fun fd F => by
  refine F.ok sc_l_draw (sp_len (n := 2) fun γ Kp Ko Ep h => ?_) (fun cdv A outer s H vs Q E hr h => ?_)
  · obtain ⟨w, a, b, m, rfl, _⟩ := h
    rfl
  · refine ⟨_, PSs.nox (jss_cons (js_if (pb_cmp op_ge bin_ge (pp_ixO (pv 0) pp_int) (pp_pow pp_int pp_int)) (jss_cons (js_set (ps_set (i := 2) sc_l_draw.nd rfl (Or.inl rfl) (pp_mod (pp_cb (pe_callTy call_int1 (by rfl) (g_int W) (by decide +kernel) (ja_cons (pp_ixO (pv 0) pp_int) ja_nil)) cb_int) (pp_v (pv 1))))) (jss_cons (js_setIx (ps_asg (pp_fdiv (pp_ixO (pv 0) pp_int) (pp_v (pv 1))) (pg_sub (pv 0) pp_int set_list))) (jss_one (js_ret (pp_v (pv 2)))))) jss_nil) (jss_cons (js_setIx (ps_asg (pp_add (pp_ixO (pv 0) pp_int) pp_int) (pg_sub (pv 0) pp_int set_list))) (jss_cons (js_set (ps_set (i := 3) sc_l_draw.nd rfl (Or.inl rfl) (pp_mod (pp_cb (pe_callTy call_int1 (by rfl) (g_int W) (by decide +kernel) (ja_cons (pp_mul (pp_add (pp_add (pp_mod (pp_cb (pe_callTy call_int1 (by rfl) (g_int W) (by decide +kernel) (ja_cons (pp_ixO (pv 0) pp_int) ja_nil)) cb_int) pp_int) (pp_mul pp_int (pp_ixO (pv 0) pp_int))) pp_int) pp_int) ja_nil)) cb_int) pp_int))) (jss_cons (js_set (ps_set (i := 4) sc_l_draw.nd rfl (Or.inl rfl) (pp_mod (pp_cb (pe_callTy call_int1 (by rfl) (g_int W) (by decide +kernel) (ja_cons (pp_fdiv (pp_ixO (pv 0) pp_int) pp_int) ja_nil)) cb_int) pp_int))) (jss_cons (js_set (ps_set (i := 3) sc_l_draw.nd rfl (Or.inl rfl) (pp_mod (pp_cb (pe_callTy call_int1 (by rfl) (g_int W) (by decide +kernel) (ja_cons (pp_mul (pp_v (pv 3)) (pp_add (pp_add (pp_fdiv (pp_v (pv 3)) pp_int) pp_int) (pp_v (pv 4)))) ja_nil)) cb_int) pp_int))) (jss_one (js_ret (pp_mod (pp_cb (pe_callTy call_int1 (by rfl) (g_int W) (by decide +kernel) (ja_cons (pp_fdiv (pp_mod (pp_cb (pe_callTy call_int1 (by rfl) (g_int W) (by decide +kernel) (ja_cons (pp_mul (pp_v (pv 3)) (pp_add (pp_fdiv (pp_v (pv 3)) pp_int) pp_int)) ja_nil)) cb_int) pp_int) pp_int) ja_nil)) cb_int) (pp_v (pv 1)))))))))), body_of h fun γ Kp Ko Ep h => ?_⟩
    obtain ⟨w, a, b, m, rfl, h0, h1, k⟩ := h
    refine ⟨_, rfl, ⟨by decide, by decide⟩, ?_⟩
    refine ite_b (fun _ => ?_) (fun _ => ?_)
    · refine ⟨_, rfl, h0, _, rfl, divA h0 h1, 0, rfl, ?_⟩
      exact ⟨rfl, k _ _ _ (Int.emod_nonneg _ (by omega)) (Int.emod_lt_of_pos _ h0)⟩
    refine ⟨_, rfl, 1, rfl, _, rfl, (by decide : (0 : Int) < 2147483629), _, rfl, mulA (by decide) (by decide), mulB (by decide) (by decide), (by decide : (0 : Int) < 2147483647), ?_⟩
    dsimp only
    show _
    generalize hn : ((a % 2147483629 + 60013 * (b + 1) + 11) * 48271) % 2147483647 = n
    have n0 : 0 ≤ n := by rw [← hn]; exact Int.emod_nonneg _ (by decide)
    have n1 : n < 2147483647 := by rw [← hn]; exact Int.emod_lt_of_pos _ (by decide)
    refine ⟨_, rfl, divA (by decide) (by decide), (by decide : (0 : Int) < 9973), divA (by decide) (by decide), mulA (by omega) (by omega), (by decide : (0 : Int) < 2147483587), ?_⟩
    dsimp only
    generalize hk : (n * (n / 1013 + 40692 + a / 2147483629 % 9973)) % 2147483587 = j
    have k0 : 0 ≤ j := by rw [← hk]; exact Int.emod_nonneg _ (by decide)
    have k1 : j < 2147483587 := by rw [← hk]; exact Int.emod_lt_of_pos _ (by decide)
    refine ⟨divA (by decide) (by decide), mulA (by omega) (by omega), (by decide : (0 : Int) < 2147483563), divA (by decide) (by decide), h0, ?_⟩
    exact ⟨rfl, k _ _ _ (Int.emod_nonneg _ (by omega)) (Int.emod_lt_of_pos _ h0)⟩
def q_l_one : PSp := fun γ K _ _ => ∃ (w : Addr) (a b : Int) (xs : List PV), γ = [.ow w (wl a b), .sh (.lst xs)] ∧ 0 < xs.length ∧ xs.length ≤ 16777216 ∧ ∀ x a' b', x ∈ xs → K x [.ow w (wl a' b'), .sh (.lst xs)]
theorem ok_l_one {P : Program} {w : World} {K : PySem.W.Frag} {mg : Str → Option Value} {base : Heap} (W : Wd K mg) : FOk P w K mg base CX0 2 "_law_one" ["_law_well_here", "_law_some"] (spOf K q_l_one) :=
  fok (F_l_one W) (g_l_one W) (fun _ _ _ _ _ _ us hl => match us, hl with | [_, _], _ => rfl) fun fd F => by
  refine F.ok sc_l_one (sp_len (n := 2) fun γ Kp Ko Ep h => ?_) (fun cdv A outer s H vs Q E hr h => ?_)
  · obtain ⟨w, a, b, xs, rfl, _⟩ := h
    rfl
  · refine ⟨_, PSs.nox (jss_one (js_ret (pp_ix (pp_v (pv 1)) (pp_callW (pe_fS (ok_l_draw W) (hr.mono (by decide)) (by rfl) pass0S (pa_cons (pv 0) (ja_cons (pp_cb (pe_callB call_len (by rfl) (g_len W) (by decide +kernel) (ja_cons (pp_v (pv 1)) ja_nil)) cb_len) ja_nil))))))), body_of h fun γ Kp Ko Ep h => ?_⟩
    obtain ⟨w, a, b, xs, rfl, h0, h1, k⟩ := h
    refine ⟨w, a, b, xs.length, rfl, by omega, by omega, fun d a' b' d0 d1 => ?_⟩
    obtain ⟨x, e, hx⟩ := atI_in d0 d1
    exact ⟨x, e, rfl, k x a' b' hx⟩
def q_l_line : PSp := fun γ K _ _ => ∃ (w : Addr) (a b near : Int), γ = [.ow w (wl a b), .sh (.int near)] ∧ ∀ l a' b', 1 ≤ l → l ≤ 2147483647 → K (.int l) [.ow w (wl a' b'), .sh (.int near)]
theorem clamp {x : Int} : 1 ≤ (if (if x > 1 then x else 1) < 2147483647 then (if x > 1 then x else 1) else 2147483647) ∧ (if (if x > 1 then x else 1) < 2147483647 then (if x > 1 then x else 1) else 2147483647) ≤ 2147483647 := by
  split <;> split <;> constructor <;> omega
theorem ok_l_line {P : Program} {w : World} {K : PySem.W.Frag} {mg : Str → Option Value} {base : Heap} (W : Wd K mg) : FOk P w K mg base CX0 3 "_law_line" ["_law_well_here", "_law_near"] (spOf K q_l_line) :=
  fok (F_l_line W) (g_l_line W) (fun _ _ _ _ _ _ us hl => match us, hl with | [_, _], _ => rfl) fun fd F => by
  refine F.ok sc_l_line (sp_len (n := 2) fun γ Kp Ko Ep h => ?_) (fun cdv A outer s H vs Q E hr h => ?_)
  · obtain ⟨w, a, b, near, rfl, _⟩ := h
    rfl
  · refine ⟨_, PSs.nox (jss_cons (js_set (ps_set (i := 2) sc_l_line.nd rfl (Or.inl rfl) (pp_callW (pe_fS (ok_l_draw W) (hr.mono (by decide)) (by rfl) pass0S (pa_cons (pv 0) (ja_cons pp_int ja_nil)))))) (jss_cons (js_if (pb_cmp op_lt bin_lt (pp_v (pv 2)) pp_int) (jss_one (js_ret (pp_cb (pe_callB (call_min2 rfl) (by rfl) (g_min W) (by decide +kernel) (ja_cons pp_int (ja_cons (pp_cb (pe_callB (call_max2 rfl) (by rfl) (g_max W) (by decide +kernel) (ja_cons pp_int (ja_cons (pp_sub (pp_sub (pp_add (pp_v (pv 1)) (pp_v (pv 2))) pp_int) (pp_mul pp_int (pp_callW (pe_fS (ok_l_draw W) (hr.mono (by decide)) (by rfl) pass0S (pa_cons (pv 0) (ja_cons pp_int ja_nil)))))) ja_nil))) cb_max) ja_nil))) cb_min))) jss_nil) (jss_one (js_ret (pp_callW (pe_fS (ok_l_one W) (hr.mono (by decide)) (by rfl) pass0S (pa_cons (pv 0) (ja_cons (pp_sh (po_lst (ja_cons pp_int (ja_cons pp_int (ja_cons (pp_add pp_int (pp_callW (pe_fS (ok_l_draw W) (hr.mono (by decide)) (by rfl) pass0S (pa_cons (pv 0) (ja_cons pp_int ja_nil))))) (ja_cons (pp_add pp_int (pp_callW (pe_fS (ok_l_draw W) (hr.mono (by decide)) (by rfl) pass0S (pa_cons (pv 0) (ja_cons pp_int ja_nil))))) ja_nil)))))) ja_nil)))))))), body_of h fun γ Kp Ko Ep h => ?_⟩
    obtain ⟨w, a, b, near, rfl, k⟩ := h
    refine ⟨w, a, b, 8, rfl, by decide, by decide, fun d a1 b1 d0 d1 => ?_⟩
    refine ite_b (fun _ => ?_) (fun _ => ?_)
    · refine ⟨w, a1, b1, 2, rfl, by decide, by decide, fun d2 a2 b2 e0 e1 => ⟨mulA (by decide) (by decide), ?_⟩⟩
      exact ⟨rfl, k _ _ _ clamp.1 clamp.2⟩
    refine ⟨w, a1, b1, 200, rfl, by decide, by decide, fun d2 a2 b2 e0 e1 => ⟨w, a2, b2, 2147483647, rfl, by decide, by decide, fun d3 a3 b3 f0 f1 => ⟨by show 4 ≤ sizeLine; decide, fun _ => ?_⟩⟩⟩
    refine ⟨w, a3, b3, _, rfl, by simp, by simp, fun x a4 b4 hx => ⟨rfl, ?_⟩⟩
    simp only [List.mem_cons, List.not_mem_nil, or_false] at hx
    rcases hx with rfl | rfl | rfl | rfl <;> exact k _ _ _ (by omega) (by omega)
def q_l_column : PSp := fun γ K _ _ => ∃ (w : Addr) (a b : Int), γ = [.ow w (wl a b)] ∧ ∀ c a' b', 0 ≤ c → c ≤ 2147483647 → K (.int c) [.ow w (wl a' b')]
theorem ok_l_column {P : Program} {w : World} {K : PySem.W.Frag} {mg : Str → Option Value} {base : Heap} (W : Wd K mg) : FOk P w K mg base CX0 3 "_law_column" ["_law_well_here"] (spOf K q_l_column) :=
  fok (F_l_column W) (g_l_column W) (fun _ _ _ _ _ _ us hl => match us, hl with | [_], _ => rfl) fun fd F => by
  refine F.ok sc_l_column (sp_len (n := 1) fun γ Kp Ko Ep h => ?_) (fun cdv A outer s H vs Q E hr h => ?_)
  · obtain ⟨w, a, b, rfl, _⟩ := h
    rfl
  · refine ⟨_, PSs.nox (jss_cons (js_set (ps_set (i := 1) sc_l_column.nd rfl (Or.inl rfl) (pp_sh (po_lst (ja_cons (pp_callW (pe_fS (ok_l_draw W) (hr.mono (by decide)) (by rfl) pass0S (pa_cons (pv 0) (ja_cons pp_int ja_nil)))) (ja_cons (pp_callW (pe_fS (ok_l_draw W) (hr.mono (by decide)) (by rfl) pass0S (pa_cons (pv 0) (ja_cons pp_int ja_nil)))) (ja_cons (pp_callW (pe_fS (ok_l_draw W) (hr.mono (by decide)) (by rfl) pass0S (pa_cons (pv 0) (ja_cons pp_int ja_nil)))) ja_nil))))))) (jss_one (js_ret (pp_callW (pe_fS (ok_l_one W) (hr.mono (by decide)) (by rfl) pass0S (pa_cons (pv 0) (ja_cons (pp_add (pp_v (pv 1)) (pp_sh (po_lst (ja_cons (pp_sub pp_int (pp_callW (pe_fS (ok_l_draw W) (hr.mono (by decide)) (by rfl) pass0S (pa_cons (pv 0) (ja_cons pp_int ja_nil))))) ja_nil)))) ja_nil))))))), body_of h fun γ Kp Ko Ep h => ?_⟩
    obtain ⟨w, a, b, rfl, k⟩ := h
    refine ⟨w, a, b, 12, rfl, by decide, by decide, fun d1 a1 b1 _ _ => ⟨w, a1, b1, 82, rfl, by decide, by decide, fun d2 a2 b2 _ _ => ⟨w, a2, b2, 131, rfl, by decide, by decide, fun d3 a3 b3 _ _ => ⟨by show 3 ≤ sizeLine; decide, fun _ => ?_⟩⟩⟩⟩
    refine ⟨w, a3, b3, 9, rfl, by decide, by decide, fun d4 a4 b4 _ _ => ⟨by show 1 ≤ sizeLine; decide, fun _ => ⟨by show 4 ≤ sizeLine; decide, ?_⟩⟩⟩
    refine ⟨w, a4, b4, _, rfl, by simp, by simp, fun x a5 b5 hx => ⟨rfl, ?_⟩⟩
    simp only [List.cons_append, List.nil_append, List.mem_cons, List.not_mem_nil, or_false] at hx
    rcases hx with rfl | rfl | rfl | rfl <;> exact k _ _ _ (by omega) (by omega)
def ovP : Option Int → PV
  | none => .non
  | some i => .int i
/-- a span as a value -/
def spv : Span → PV
  | none => .non
  | some p => .tup [.int p.l, .int p.e, ovP p.c, ovP p.d]
def q_l_span : PSp := fun γ K _ _ => ∃ (w : Addr) (a b near : Int), γ = [.ow w (wl a b), .sh (.int near)] ∧ ∀ s a' b', SpanOk s → K (spv s) [.ow w (wl a' b'), .sh (.int near)]
theorem min_ok {x : Int} : (if x < 2147483647 then x else 2147483647) ≤ 2147483647 := by
  split <;> omega
theorem ok_l_span {P : Program} {w : World} {K : PySem.W.Frag} {mg : Str → Option Value} {base : Heap} (W : Wd K mg) : FOk P w K mg base CX0 4 "_law_span" ["_law_well_here", "_law_near"] (spOf K q_l_span) :=
  fok (F_l_span W) (g_l_span W) (fun _ _ _ _ _ _ us hl => match us, hl with | [_, _], _ => rfl) fun fd F => by
  refine F.ok sc_l_span (sp_len (n := 2) fun γ Kp Ko Ep h => ?_) (fun cdv A outer s H vs Q E hr h => ?_)
  · obtain ⟨w, a, b, near, rfl, _⟩ := h
    rfl
  · refine ⟨_, PSs.nox (jss_cons (js_set (ps_set (i := 2) sc_l_span.nd rfl (Or.inl rfl) (pp_callW (pe_fS (ok_l_draw W) (hr.mono (by decide)) (by rfl) pass0S (pa_cons (pv 0) (ja_cons pp_int ja_nil)))))) (jss_cons (js_if (pb_cmp (op_eqA hr.units) bin_eq (pp_v (pv 2)) pp_int) (jss_one (js_ret pp_non)) jss_nil) (jss_cons (js_set (ps_set (i := 3) sc_l_span.nd rfl (Or.inl rfl) (pp_callW (pe_fS (ok_l_line W) (hr.mono (by decide)) (by rfl) pass0S (pa_cons (pv 0) (ja_cons (pp_v (pv 1)) ja_nil)))))) (jss_cons (js_if (pb_cmp (op_eqA hr.units) bin_eq (pp_v (pv 2)) pp_int) (jss_one (js_ret (pp_tup (ja_cons (pp_v (pv 3)) (ja_cons (pp_v (pv 3)) (ja_cons pp_non (ja_cons pp_non ja_nil))))))) jss_nil) (jss_cons (js_set (ps_set (i := 4) sc_l_span.nd rfl (Or.inl rfl) (pp_callW (pe_fS (ok_l_column W) (hr.mono (by decide)) (by rfl) pass0S (pa_cons (pv 0) ja_nil))))) (jss_cons (js_set (ps_set (i := 5) sc_l_span.nd rfl (Or.inl rfl) (pp_callW (pe_fS (ok_l_draw W) (hr.mono (by decide)) (by rfl) pass0S (pa_cons (pv 0) (ja_cons (pp_callW (pe_fS (ok_l_one W) (hr.mono (by decide)) (by rfl) pass0S (pa_cons (pv 0) (ja_cons (pp_sh (po_lst (ja_cons pp_int (ja_cons pp_int (ja_cons pp_int (ja_cons (pp_pow pp_int pp_int) ja_nil)))))) ja_nil)))) ja_nil)))))) (jss_cons (js_set (ps_set (i := 6) sc_l_span.nd rfl (Or.inl rfl) (pp_v (pv 3)))) (jss_mid (js_if (pb_cmp op_gt bin_gt (pp_v (pv 2)) pp_int) (jss_one (js_set (ps_set (i := 6) sc_l_span.nd rfl (Or.inl rfl) (pp_cb (pe_callB (call_min2 rfl) (by rfl) (g_min W) (by decide +kernel) (ja_cons pp_int (ja_cons (pp_add (pp_v (pv 3)) (pp_callW (pe_fS (ok_l_one W) (hr.mono (by decide)) (by rfl) pass0S (pa_cons (pv 0) (ja_cons (pp_sh (po_lst (ja_cons pp_int (ja_cons (pp_callW (pe_fS (ok_l_draw W) (hr.mono (by decide)) (by rfl) pass0S (pa_cons (pv 0) (ja_cons pp_int ja_nil)))) (ja_cons (pp_callW (pe_fS (ok_l_draw W) (hr.mono (by decide)) (by rfl) pass0S (pa_cons (pv 0) (ja_cons (pp_pow pp_int pp_int) ja_nil)))) ja_nil))))) ja_nil))))) ja_nil))) cb_min)))) jss_nil) (jss_cons (js_if (pb_cmp op_gt bin_gt (pp_v (pv 6)) (pp_v (pv 3))) (jss_one (js_ret (pp_tup (ja_cons (pp_v (pv 3)) (ja_cons (pp_v (pv 6)) (ja_cons (pp_v (pv 4)) (ja_cons (pp_callW (pe_fS (ok_l_column W) (hr.mono (by decide)) (by rfl) pass0S (pa_cons (pv 0) ja_nil))) ja_nil))))))) jss_nil) (jss_one (js_ret (pp_tup (ja_cons (pp_v (pv 3)) (ja_cons (pp_v (pv 3)) (ja_cons (pp_v (pv 4)) (ja_cons (pp_cb (pe_callB (call_min2 rfl) (by rfl) (g_min W) (by decide +kernel) (ja_cons pp_int (ja_cons (pp_add (pp_v (pv 4)) (pp_v (pv 5))) ja_nil))) cb_min) ja_nil)))))))))))))))), body_of h fun γ Kp Ko Ep h => ?_⟩
    obtain ⟨w, a, b, near, rfl, k⟩ := h
    refine ⟨w, a, b, 8, rfl, by decide, by decide, fun d a1 b1 d0 d1 => ?_⟩
    refine ite_b (fun _ => ⟨rfl, k none _ _ trivial⟩) (fun _ => ?_)
    refine ⟨w, a1, b1, near, rfl, fun l a2 b2 l1 lM => ?_⟩
    refine ite_b (fun _ => ⟨by show 4 ≤ sizeLine; decide, rfl, k (some ⟨l, l, none, none⟩) _ _ ⟨l1, Int.le_refl _, lM, .inl ⟨rfl, rfl, rfl⟩⟩⟩) (fun _ => ?_)
    refine ⟨w, a2, b2, rfl, fun c a3 b3 c0 cM => ?_⟩
    refine ⟨⟨by decide, by decide⟩, by show 4 ≤ sizeLine; decide, fun _ => ⟨w, a3, b3, _, rfl, by simp, by simp, fun x a4 b4 hx => ?_⟩⟩
    obtain ⟨m, rfl, m0, mM⟩ : ∃ m : Int, x = .int m ∧ 0 < m ∧ m < 2 ^ 200 := by
      simp only [List.mem_cons, List.not_mem_nil, or_false] at hx
      rcases hx with rfl | rfl | rfl | rfl
      · exact ⟨_, rfl, by decide, by decide⟩
      · exact ⟨_, rfl, by decide, by decide⟩
      · exact ⟨_, rfl, by decide, by decide⟩
      · exact ⟨_, rfl, by decide, by decide⟩
    refine ⟨w, a4, b4, m, rfl, m0, mM, fun wd a5 b5 w0 w1 => ?_⟩
    refine ⟨fun γ => ∃ (e a6 b6 : Int), γ = [.ow w (wl a6 b6), .sh (.int near), .sh (.int d), .sh (.int l), .sh (.int c), .sh (.int wd), .sh (.int e)] ∧ l ≤ e ∧ e ≤ 2147483647, ?_, ?_⟩
    · refine ite_b (fun _ => ?_) (fun _ => ⟨l, a5, b5, rfl, Int.le_refl _, lM⟩)
      refine ⟨w, a5, b5, 70, rfl, by decide, by decide, fun d6 a6 b6 e0 e1 => ⟨⟨by decide, by decide⟩, w, a6, b6, _, rfl, by decide, by decide, fun d7 a7 b7 f0 f1 => ⟨by show 3 ≤ sizeLine; decide, fun _ => ?_⟩⟩⟩
      refine ⟨w, a7, b7, _, rfl, by simp, by simp, fun y a8 b8 hy => ?_⟩
      obtain ⟨z, rfl, z0⟩ : ∃ z : Int, y = .int z ∧ 0 ≤ z := by
        simp only [List.mem_cons, List.not_mem_nil, or_false] at hy
        rcases hy with rfl | rfl | rfl
        · exact ⟨_, rfl, by decide⟩
        · exact ⟨_, rfl, e0⟩
        · exact ⟨_, rfl, f0⟩
      refine ⟨_, a8, b8, rfl, ?_, min_ok⟩
      split <;> omega
    · rintro γ' ⟨e, a6, b6, rfl, le, eM⟩
      refine ite_b (fun hlt => ?_) (fun hlt => ?_)
      · refine ⟨w, a6, b6, rfl, fun c2 a7 b7 u0 uM => ⟨by show 4 ≤ sizeLine; decide, rfl, ?_⟩⟩
        exact k (some ⟨l, e, some c, some c2⟩) _ _ ⟨l1, le, eM, .inr ⟨c, c2, rfl, rfl, c0, cM, u0, uM, fun z => absurd hlt (by have z' : e = l := z; omega)⟩⟩
      · refine ⟨by show 4 ≤ sizeLine; decide, rfl, ?_⟩
        refine k (some ⟨l, l, some c, some _⟩) _ _ ⟨l1, Int.le_refl _, lM, .inr ⟨c, _, rfl, rfl, c0, cM, ?_, min_ok, fun _ => ?_⟩⟩
        · split <;> omega
        · split <;> omega
end K33

namespace K33
open PySem PySem.Spec PyProof.Rows L2 Lay Pu
def q_l_groups : PSp := fun γ _ Ko _ => ∃ (n : Nat), γ = [.sh (.int (n : Int))] ∧ n < 64 ^ 8 ∧ ∀ w, Ko w (.lst ((groups n).map .int)) [.sh (.int (n : Int))]
theorem ok_l_groups {P : Program} {w : World} {K : PySem.W.Frag} {mg : Str → Option Value} {base : Heap} (W : Wd K mg) : FOk P w K mg base CX0 1 "_law_groups" ["_law_number"] (spOf K q_l_groups) :=
  fok (F_l_groups W) (g_l_groups W) (fun _ _ _ _ _ _ us hl => match us, hl with | [_], _ => rfl) fun fd F => by
  refine F.ok sc_l_groups (sp_len (n := 1) fun γ Kp Ko Ep h => ?_) (fun cdv A outer s H vs Q E hr h => ?_)
  · obtain ⟨n, rfl, _⟩ := h
    rfl
  · refine ⟨_, PSs.nox (jss_cons (js_setO (ps_set (i := 1) sc_l_groups.nd rfl (Or.inl rfl) (po_lst ja_nil))) (jss_cons (js_while PassesOwn.never (pb_cmp op_ge bin_ge (pp_v (pv 0)) pp_int) (jss_cons (js_app (ps_expr (pe_bm PySem.F.plainAttrs_list PySem.F.slot_list_append PySem.F.type_list_append mt_append (pv 1) (ja_cons (pp_add (pp_mod (pp_cb (pe_callTy call_int1 (by rfl) (g_int W) (by decide +kernel) (ja_cons (pp_v (pv 0)) ja_nil)) cb_int) pp_int) pp_int) ja_nil)))) (jss_one (js_set (ps_set (i := 0) sc_l_groups.nd rfl (Or.inl rfl) (pp_fdiv (pp_v (pv 0)) pp_int)))))) (jss_one (js_retO (po_addO (pv 1) (pp_sh (po_lst (ja_cons (pp_v (pv 0)) ja_nil)))))))), body_of h fun γ Kp Ko Ep h => ?_⟩
    obtain ⟨n, rfl, hn, k⟩ := h
    have hlen := groups_len 7 n hn
    refine ⟨by show 0 ≤ sizeLine; decide, fun w => ?_⟩
    refine ⟨fun m γ => ∃ (acc : List Int), γ = [.sh (.int (m : Int)), .ow w (.lst (acc.map .int))] ∧ acc ++ groups m = groups n, ⟨n, [], rfl, rfl⟩, ?_⟩
    rintro m γ ⟨acc, rfl, eg⟩
    have hsz : acc.length + (groups m).length ≤ 8 := by
      have := congrArg List.length eg
      rw [List.length_append] at this
      omega
    have hgp := groups_pos m
    refine ite_b (fun hgt => ?_) (fun hgt => ?_)
    · refine ⟨(by decide : (0 : Int) < 64), ?_, divA (by decide) (by decide), m / 64, by omega, acc ++ [((64 + m % 64 : Nat) : Int)], ?_, ?_⟩
      · rw [List.length_map, sizeLine_eq]
        omega
      · show [Sl.sh (.int (((m / 64 : Nat)) : Int)), Sl.ow w (.lst (acc.map PV.int ++ [PV.int ((m : Int) % 64 + 64)]))] = _
        have e : (m : Int) % 64 + 64 = ((64 + m % 64 : Nat) : Int) := by omega
        rw [e, pints_snoc]
      · rw [← eg, groups_more (n := m) (by omega), List.append_assoc]
        rfl
    · have e1 : acc ++ [(m : Int)] = groups n := by
        rw [← eg, groups_small (n := m) (by omega)]
      refine ⟨by show 1 ≤ sizeLine; decide, fun _ => ⟨?_, fun a => ?_⟩⟩
      · rw [List.length_map, sizeLine_eq]
        show acc.length + 1 ≤ _
        omega
      · have z := k a
        rw [← e1, List.map_append] at z
        exact z
def q_l_folded : PSp := fun γ K _ _ => ∃ (d : Int), γ = [.sh (.int d)] ∧ K (.int (fold1 d : Int)) [.sh (.int d)]
theorem ok_l_folded {P : Program} {w : World} {K : PySem.W.Frag} {mg : Str → Option Value} {base : Heap} (W : Wd K mg) : FOk P w K mg base CX0 1 "_law_folded" ["_law_number"] (spOf K q_l_folded) :=
  fok (F_l_folded W) (g_l_folded W) (fun _ _ _ _ _ _ us hl => match us, hl with | [_], _ => rfl) fun fd F => by
  refine F.ok sc_l_folded (sp_len (n := 1) fun γ Kp Ko Ep h => ?_) (fun cdv A outer s H vs Q E hr h => ?_)
  · obtain ⟨d, rfl, _⟩ := h
    rfl
  · refine ⟨_, PSs.nox (jss_one (js_ret (pp_if (pb_cmp op_ge bin_ge (pp_v (pv 0)) pp_int) (pp_mul pp_int (pp_v (pv 0))) (pp_sub pp_int (pp_mul pp_int (pp_v (pv 0))))))), body_of h fun γ Kp Ko Ep h => ?_⟩
    obtain ⟨d, rfl, k⟩ := h
    refine ite_b (fun h0 => ?_) (fun h0 => ?_)
    · refine ⟨mulA (by decide) (by decide), ?_⟩
      have e : ((fold1 d : Nat) : Int) = 2 * d := by
        unfold fold1
        rw [if_pos h0]
        omega
      rw [e] at k
      exact k
    · refine ⟨mulA (by decide) (by decide), ?_⟩
      have e : ((fold1 d : Nat) : Int) = 1 - 2 * d := by
        unfold fold1
        rw [if_neg h0]
        omega
      rw [e] at k
      exact k
def q_l_column_number : PSp := fun γ K _ _ => ∃ (o : Option Int), γ = [.sh (ovP o)] ∧ (∀ c, o = some c → 0 ≤ c) ∧ K (.int (colN o : Int)) [.sh (ovP o)]
theorem ok_l_column_number {P : Program} {w : World} {K : PySem.W.Frag} {mg : Str → Option Value} {base : Heap} (W : Wd K mg) : FOk P w K mg base CX0 1 "_law_column_number" ["_law_column_here"] (spOf K q_l_column_number) :=
  fok (F_l_column_number W) (g_l_column_number W) (fun _ _ _ _ _ _ us hl => match us, hl with | [_], _ => rfl) fun fd F => by
  refine F.ok sc_l_column_number (sp_len (n := 1) fun γ Kp Ko Ep h => ?_) (fun cdv A outer s H vs Q E hr h => ?_)
  · obtain ⟨o, rfl, _⟩ := h
    rfl
  · refine ⟨_, PSs.nox (jss_one (js_ret (pp_if (pb_cmp op_isN bin_isN (pp_v (pv 0)) pp_non) pp_int (pp_add (pp_v (pv 0)) pp_int)))), body_of h fun γ Kp Ko Ep h => ?_⟩
    obtain ⟨o, rfl, ho, k⟩ := h
    cases o with
    | none => exact k
    | some c =>
      have := ho c rfl
      have e : ((colN (some c) : Nat) : Int) = c + 1 := by
        show (((c + 1).toNat : Nat) : Int) = c + 1
        omega
      rw [e] at k
      exact k
def q_l_padded : PSp := fun γ K _ _ => ∃ (w : Addr) (a b : Int) (n : Nat), γ = [.ow w (wl a b), .sh (.int (n : Int))] ∧ n < 64 ^ 6 ∧ ∀ t a' b', NumB t n → t.length ≤ 8 → K (pints t) [.ow w (wl a' b'), .sh (.int (n : Int))]
theorem ok_l_padded {P : Program} {w : World} {K : PySem.W.Frag} {mg : Str → Option Value} {base : Heap} (W : Wd K mg) : FOk P w K mg base CX0 3 "_law_padded" ["_law_well_here", "_law_number"] (spOf K q_l_padded) :=
  fok (F_l_padded W) (g_l_padded W) (fun _ _ _ _ _ _ us hl => match us, hl with | [_, _], _ => rfl) fun fd F => by
  refine F.ok sc_l_padded (sp_len (n := 2) fun γ Kp Ko Ep h => ?_) (fun cdv A outer s H vs Q E hr h => ?_)
  · obtain ⟨w, a, b, n, rfl, _⟩ := h
    rfl
  · refine ⟨_, PSs.nox (jss_cons (js_setO (ps_set (i := 2) sc_l_padded.nd rfl (Or.inl rfl) (po_call (pe_fS (ok_l_groups W) (hr.mono (by decide)) (by rfl) pass0S (ja_cons (pp_v (pv 1)) ja_nil))))) (jss_cons (js_for PassesOwn.never rfl (ji_rg (pi_range1 (by rfl) (g_range W) (ja_cons (pp_callW (pe_fS (ok_l_one W) (hr.mono (by decide)) (by rfl) pass0S (pa_cons (pv 0) (ja_cons (pp_sh (po_lst (ja_cons pp_int (ja_cons pp_int (ja_cons pp_int (ja_cons pp_int (ja_cons (pp_sub pp_int (pp_lenO (pe_callB call_len (by rfl) (g_len W) (by decide +kernel) (pa_cons (pv 2) pa_nil)))) ja_nil))))))) ja_nil)))) ja_nil))) (jg_name (pg_name (i := 3) sc_l_padded.nd rfl (Or.inl rfl))) (jss_cons (js_setIx (ps_asg (pp_add (pp_ixO (pv 2) (pp_neg pp_int)) pp_int) (pg_sub (pv 2) (pp_neg pp_int) set_list))) (jss_one (js_app (ps_expr (pe_bm PySem.F.plainAttrs_list PySem.F.slot_list_append PySem.F.type_list_append mt_append (pv 2) (ja_cons pp_int ja_nil))))))) (jss_one (js_ret (pp_fz (pv 2)))))), body_of h fun γ Kp Ko Ep h => ?_⟩
    obtain ⟨w, a, b, n, rfl, hn, k⟩ := h
    have h8 : n < 64 ^ 8 := Nat.lt_trans hn (by decide)
    have hlen := groups_len 5 n hn
    have gp := groups_pos n
    refine ⟨n, rfl, h8, fun l => ⟨by show 5 ≤ sizeLine; decide, fun _ => ⟨w, a, b, _, rfl, by simp, by simp, fun x a1 b1 hx => ?_⟩⟩⟩
    obtain ⟨m, rfl, hm⟩ : ∃ m : Nat, x = .int (m : Int) ∧ m + (groups n).length ≤ 8 := by
      simp only [List.mem_cons, List.not_mem_nil, or_false, List.length_map] at hx
      rcases hx with rfl | rfl | rfl | rfl | rfl
      · exact ⟨0, rfl, by omega⟩
      · exact ⟨0, rfl, by omega⟩
      · exact ⟨0, rfl, by omega⟩
      · exact ⟨1, rfl, by omega⟩
      · exact ⟨8 - (groups n).length, congrArg PV.int (by omega), by omega⟩
    obtain ⟨ys, z, eyz, _⟩ := groups_last n
    refine ⟨⟨by omega, by omega⟩, fun i γ => ∃ (ys : List Int) (z : Int) (a b : Int) (x3 : Sl), γ = [.ow w (wl a b), .sh (.int (n : Int)), .ow l (.lst ((ys ++ [z]).map .int)), x3] ∧ NumB (ys ++ [z]) n ∧ (ys ++ [z]).length = (groups n).length + i,
      ⟨ys, z, a1, b1, _, by rw [← eyz]; rfl, by rw [← eyz]; exact numB_groups n, by rw [← eyz]; rfl⟩, ?_, ?_⟩
    · rintro i x γ hi rfl ⟨ys, z, a2, b2, x3, rfl, k3, len3⟩
      have hi2 : i < m := by
        have : i < (m : Int).toNat := hi
        omega
      rw [List.length_append, List.length_singleton] at len3
      have ea : atI ((ys ++ [z]).map PV.int) (-1) = some (.int z) := by
        rw [List.map_append]; exact atI_snoc _ _
      refine ⟨_, ea, _, (by rw [List.map_append]; exact ixN_snoc _ _), ?_, ys ++ [z + 64], 0, a2, b2, .sh (.int (0 + (i : Int))), ?_, ?_, ?_⟩
      · rw [List.length_set, List.length_map, List.length_append, List.length_singleton, sizeLine_eq]
        omega
      · show [_, _, Sl.ow l (.lst ((((ys ++ [z]).map PV.int).set (ys.map PV.int).length (.int (z + 64))) ++ [.int 0])), _] = _
        rw [List.map_append, show [z].map PV.int = [PV.int z] from rfl, set_snoc, pints_snoc, pints_snoc]
      · rw [List.append_assoc]
        exact NumB.pad k3
      · rw [List.length_append, List.length_append, List.length_singleton, List.length_singleton]
        omega
    · rintro γ ⟨ys, z, a2, b2, x3, rfl, k3, len3⟩
      have len3 : (ys ++ [z]).length = (groups n).length + (m : Int).toNat := len3
      exact ⟨rfl, k _ _ _ k3 (by omega)⟩
end K33

namespace K33
open PySem PySem.Spec PyProof.Rows L2 Lay Pu
def stp (k : Nat) : PV := .int ((k + 1 : Nat) : Int)
def q_l_loose_entry : PSp := fun γ K _ _ => ∃ (w : Addr) (a b : Int) (s : Span) (l : Int) (k : Nat), γ = [.ow w (wl a b), .sh (spv s), .sh (.int l), .sh (stp k)] ∧ SpanOk s ∧ 1 ≤ l ∧ l ≤ 2147483647 ∧ k < 8 ∧
  ∀ part a' b', EntB part s l (k + 1) → K (pints part) [.ow w (wl a' b'), .sh (spv s), .sh (.int l), .sh (stp k)]
theorem pv_int_inj {i j : Int} (h : PV.int i = PV.int j) : i = j := by injection h
theorem ok_l_loose_entry {P : Program} {w : World} {K : PySem.W.Frag} {mg : Str → Option Value} {base : Heap} (W : Wd K mg) : FOk P w K mg base CX0 4 "_law_loose_entry" ["_law_well_here", "_law_span_here", "_law_line_here", "_law_steps"] (spOf K q_l_loose_entry) :=
  fok (F_l_loose_entry W) (g_l_loose_entry W) (fun _ _ _ _ _ _ us hl => match us, hl with | [_, _, _, _], _ => rfl) fun fd F => by
  refine F.ok sc_l_loose_entry (sp_len (n := 4) fun γ Kp Ko Ep h => ?_) (fun cdv A outer s H vs Q E hr h => ?_)
  · obtain ⟨w, a, b, s, l, k, rfl, _⟩ := h
    rfl
  · refine ⟨_, PSs.nox (jss_cons (js_if (pb_cmp op_isN bin_isN (pp_v (pv 1)) pp_non) (jss_one (js_ret (pp_sh (po_lst (ja_cons (pp_sub (pp_add pp_int (pp_v (pv 3))) pp_int) ja_nil))))) jss_nil) (jss_cons (js_asg (pp_v (pv 1)) (jg_tup rfl (jgs_cons (jg_name (pg_name (i := 4) sc_l_loose_entry.nd rfl (Or.inl rfl))) (jgs_cons (jg_name (pg_name (i := 5) sc_l_loose_entry.nd rfl (Or.inl rfl))) (jgs_cons (jg_name (pg_name (i := 6) sc_l_loose_entry.nd rfl (Or.inl rfl))) (jgs_cons (jg_name (pg_name (i := 7) sc_l_loose_entry.nd rfl (Or.inl rfl))) jgs_nil)))))) (jss_cons (js_set (ps_set (i := 8) sc_l_loose_entry.nd rfl (Or.inl rfl) (pp_callW (pe_fS (ok_l_padded W) (hr.mono (by decide)) (by rfl) pass0S (pa_cons (pv 0) (ja_cons (pp_call (pe_fS (ok_l_folded W) (hr.mono (by decide)) (by rfl) pass0S (ja_cons (pp_sub (pp_v (pv 4)) (pp_v (pv 2))) ja_nil))) ja_nil)))))) (jss_mid (js_setO (ps_set (i := 9) sc_l_loose_entry.nd rfl (Or.inl rfl) (po_lst (ja_cons (pp_add (pp_add (pp_sh (po_lst (ja_cons (pp_sub (pp_add pp_int (pp_v (pv 3))) pp_int) ja_nil))) (pp_v (pv 8))) (pp_callW (pe_fS (ok_l_padded W) (hr.mono (by decide)) (by rfl) pass0S (pa_cons (pv 0) (ja_cons (pp_sub (pp_v (pv 5)) (pp_v (pv 4))) ja_nil))))) ja_nil)))) (jss_mid (js_setIx (ps_asg (pp_add (pp_ixO (pv 9) pp_int) (pp_callW (pe_fS (ok_l_padded W) (hr.mono (by decide)) (by rfl) pass0S (pa_cons (pv 0) (ja_cons (pp_call (pe_fS (ok_l_column_number W) (hr.mono (by decide)) (by rfl) pass0S (ja_cons (pp_v (pv 6)) ja_nil))) ja_nil))))) (pg_sub (pv 9) pp_int set_list))) (jss_mid (js_setIx (ps_asg (pp_add (pp_ixO (pv 9) pp_int) (pp_callW (pe_fS (ok_l_padded W) (hr.mono (by decide)) (by rfl) pass0S (pa_cons (pv 0) (ja_cons (pp_call (pe_fS (ok_l_column_number W) (hr.mono (by decide)) (by rfl) pass0S (ja_cons (pp_v (pv 7)) ja_nil))) ja_nil))))) (pg_sub (pv 9) pp_int set_list))) (jss_cons (js_if (pb_cmp op_isN bin_isN (pp_v (pv 6)) pp_non) (jss_cons (js_app (ps_expr (pe_bm PySem.F.plainAttrs_list PySem.F.slot_list_append PySem.F.type_list_append mt_append (pv 9) (ja_cons (pp_add (pp_sh (po_lst (ja_cons (pp_sub (pp_add pp_int (pp_v (pv 3))) pp_int) ja_nil))) (pp_v (pv 8))) ja_nil)))) (jss_one (js_ret (pp_callW (pe_fS (ok_l_one W) (hr.mono (by decide)) (by rfl) pass0S (pa_cons (pv 0) (ja_cons (pp_fz (pv 9)) ja_nil))))))) jss_nil) (jss_mid (js_if (pb_w (jw_and (pb_ch (op_eqA hr.units) (op_eqA hr.units) bin_eq bin_eq (pp_v (pv 4)) (pp_v (pv 5)) (pp_v (pv 2))) (jw_and (pb_cmp op_lt bin_lt (pp_v (pv 6)) pp_int) (jw_and1 (pb_cmp op_lt bin_lt (pp_sub (pp_v (pv 7)) (pp_v (pv 6))) pp_int))))) (jss_one (js_app (ps_expr (pe_bm PySem.F.plainAttrs_list PySem.F.slot_list_append PySem.F.type_list_append mt_append (pv 9) (ja_cons (pp_sh (po_lst (ja_cons (pp_sub (pp_add (pp_add pp_int (pp_mul (pp_fdiv (pp_v (pv 6)) pp_int) pp_int)) (pp_v (pv 3))) pp_int) (ja_cons (pp_sub (pp_add (pp_mul (pp_mod (pp_cb (pe_callTy call_int1 (by rfl) (g_int W) (by decide +kernel) (ja_cons (pp_v (pv 6)) ja_nil)) cb_int) pp_int) pp_int) (pp_v (pv 7))) (pp_v (pv 6))) ja_nil)))) ja_nil))))) jss_nil) (jss_mid (js_if (pb_w (jw_and (pb_cmp (op_eqA hr.units) bin_eq (pp_v (pv 4)) (pp_v (pv 5))) (jw_and (pb_ch op_le op_lt bin_le bin_lt pp_int (pp_sub (pp_v (pv 4)) (pp_v (pv 2))) pp_int) (jw_and1 (pb_cmp op_lt bin_lt (pp_v (pv 7)) pp_int))))) (jss_one (js_app (ps_expr (pe_bm PySem.F.plainAttrs_list PySem.F.slot_list_append PySem.F.type_list_append mt_append (pv 9) (ja_cons (pp_sh (po_lst (ja_cons (pp_sub (pp_add (pp_add pp_int (pp_mul pp_int (pp_sub (pp_v (pv 4)) (pp_v (pv 2))))) (pp_v (pv 3))) pp_int) (ja_cons (pp_v (pv 6)) (ja_cons (pp_v (pv 7)) ja_nil))))) ja_nil))))) jss_nil) (jss_one (js_ret (pp_callW (pe_fS (ok_l_one W) (hr.mono (by decide)) (by rfl) pass0S (pa_cons (pv 0) (ja_cons (pp_fz (pv 9)) ja_nil))))))))))))))), body_of h fun γ Kp Ko Ep h => ?_⟩
    obtain ⟨w, a, b, s, l, k, rfl, ok, l1, lM, hk, q⟩ := h
    cases s with
    | none =>
      refine ⟨by show 1 ≤ sizeLine; decide, fun _ => ⟨rfl, ?_⟩⟩
      have z := q [248 + (k : Int)] a b (entB_none hk)
      have e : (248 : Int) + (k : Int) = 248 + ((k + 1 : Nat) : Int) - 1 := by omega
      rw [e] at z
      exact z
    | some ps =>
      have pk : ps.ok := ok
      have h1 := pk.l1
      have h2 := pk.le
      have h3 := pk.eM
      obtain ⟨hc, hd⟩ := pk.cs
      refine ⟨rfl, ?_⟩
      refine ⟨ps.l - l, rfl, w, a, b, fold1 (ps.l - l), rfl, fold_lt h1 (by omega) l1 lM, fun d a1 b1 nd ld => ?_⟩
      have hE : ps.e - ps.l = (((ps.e - ps.l).toNat : Nat) : Int) := by omega
      have aK : (240 : Int) + ((k + 1 : Nat) : Int) - 1 = 240 + (k : Int) := by omega
      refine ⟨fun γ => ∃ (sm : Addr) (h : List Int) (a1 b1 : Int), γ = [.ow w (wl a1 b1), .sh (spv (some ps)), .sh (.int l), .sh (stp k), .sh (.int ps.l), .sh (.int ps.e), .sh (ovP ps.c), .sh (ovP ps.d), .sh (pints d), .ow sm (.lst [pints ((240 + (k : Int)) :: (d ++ h))])] ∧ NumB h (ps.e - ps.l).toNat ∧ h.length ≤ 8, ?_, ?_⟩
      · refine ⟨by show 1 ≤ sizeLine; decide, fun _ => ⟨(by simp only [List.length_append, List.length_map, List.length_cons, List.length_nil]; rw [sizeLine_eq]; omega), w, a1, b1, (ps.e - ps.l).toNat, congrArg (fun z => [Sl.ow w (wl a1 b1), Sl.sh (.int z)]) hE, by omega, fun h a2 b2 nh lh => ⟨(by simp only [List.length_append, List.length_map, List.length_cons, List.length_nil]; rw [sizeLine_eq]; omega), by show 1 ≤ sizeLine; decide, fun sm => ?_⟩⟩⟩
        refine ⟨sm, h, a2, b2, ?_, nh, lh⟩
        show [_, _, _, _, _, _, _, _, _, Sl.ow sm (.lst [.lst ([PV.int (240 + ((k + 1 : Nat) : Int) - 1)] ++ d.map PV.int ++ h.map PV.int)])] = _
        rw [aK, List.append_assoc, pints_app, show [PV.int (240 + (k : Int))] = [240 + (k : Int)].map PV.int from rfl, pints_app]
        rfl
      rintro γ' ⟨sm, h, a1, b1, rfl, nh, lh⟩
      refine ⟨fun γ => ∃ (c1 : List Int) (a1 b1 : Int), γ = [.ow w (wl a1 b1), .sh (spv (some ps)), .sh (.int l), .sh (stp k), .sh (.int ps.l), .sh (.int ps.e), .sh (ovP ps.c), .sh (ovP ps.d), .sh (pints d), .ow sm (.lst [pints ((240 + (k : Int)) :: (d ++ h ++ c1))])] ∧ NumB c1 (colN ps.c) ∧ c1.length ≤ 8, ?_, ?_⟩
      · refine ⟨_, rfl, ps.c, rfl, fun c e => (hc c e).1, w, a1, b1, colN ps.c, rfl, colN_lt hc, fun c1 a2 b2 nc lc => ⟨(by simp only [List.length_append, List.length_map, List.length_cons, List.length_nil]; rw [sizeLine_eq]; omega), 0, rfl, c1, a2, b2, ?_, nc, lc⟩⟩
        show [_, _, _, _, _, _, _, _, _, Sl.ow sm (.lst [.lst (((240 + (k : Int)) :: (d ++ h)).map PV.int ++ c1.map PV.int)])] = _
        rw [pints_app]
        rfl
      rintro γ' ⟨c1, a1, b1, rfl, nc, lc⟩
      refine ⟨fun γ => ∃ (c2 : List Int) (a1 b1 : Int), γ = [.ow w (wl a1 b1), .sh (spv (some ps)), .sh (.int l), .sh (stp k), .sh (.int ps.l), .sh (.int ps.e), .sh (ovP ps.c), .sh (ovP ps.d), .sh (pints d), .ow sm (.lst [pints ((240 + (k : Int)) :: (d ++ h ++ c1 ++ c2))])] ∧ NumB c2 (colN ps.d) ∧ c2.length ≤ 8, ?_, ?_⟩
      · refine ⟨_, rfl, ps.d, rfl, fun c e => (hd c e).1, w, a1, b1, colN ps.d, rfl, colN_lt hd, fun c2 a2 b2 nc2 lc2 => ⟨(by simp only [List.length_append, List.length_map, List.length_cons, List.length_nil]; rw [sizeLine_eq]; omega), 0, rfl, c2, a2, b2, ?_, nc2, lc2⟩⟩
        show [_, _, _, _, _, _, _, _, _, Sl.ow sm (.lst [.lst (((240 + (k : Int)) :: (d ++ h ++ c1)).map PV.int ++ c2.map PV.int)])] = _
        rw [pints_app]
        rfl
      rintro γ' ⟨c2, a1, b1, rfl, nc2, lc2⟩
      have EL := entB_long hk nd ld nh lh nc lc nc2 lc2 ok
      by_cases hcn : ps.c = none
      · have eb : ps = ⟨ps.l, ps.l, none, none⟩ := by
          obtain ⟨pl, pe, pc, pd⟩ := ps
          rcases pk.cd with ⟨x1, x2, x3⟩ | ⟨u, v, x1, _⟩
          · have x1 : pc = none := x1
            have x2 : pd = none := x2
            have x3 : pe = pl := x3
            rw [x1, x2, x3]
          · have x1 : pc = some u := x1
            have hcn : pc = none := hcn
            rw [x1] at hcn
            cases hcn
        have EB : EntB ((232 + (k : Int)) :: d) (some ps) l (k + 1) := by
          rw [eb]
          exact entB_bare hk nd ld (by rw [← eb]; exact ok)
        have aB : (232 : Int) + ((k + 1 : Nat) : Int) - 1 = 232 + (k : Int) := by omega
        rw [show ovP ps.c = .non from by rw [hcn]; rfl]
        refine ⟨by show 1 ≤ sizeLine; decide, fun _ => ⟨(by simp only [List.length_append, List.length_map, List.length_cons, List.length_nil]; rw [sizeLine_eq]; omega), by show 1 < sizeLine; decide, w, a1, b1, _, rfl, by simp, by simp, fun x a2 b2 hx => ⟨rfl, ?_⟩⟩⟩
        have hx : x ∈ [pints ((240 + (k : Int)) :: (d ++ h ++ c1 ++ c2)), .lst ([PV.int (232 + ((k + 1 : Nat) : Int) - 1)] ++ d.map PV.int)] := hx
        simp only [List.mem_cons, List.not_mem_nil, or_false] at hx
        rcases hx with rfl | rfl
        · exact q _ _ _ EL
        · have z := q _ a2 b2 EB
          rw [aB]
          exact z
      obtain ⟨c0, d0, ec, ed⟩ : ∃ c0 d0, ps.c = some c0 ∧ ps.d = some d0 := by
        rcases pk.cd with ⟨x1, _⟩ | ⟨u, v, x1, x2, _⟩
        · exact absurd x1 hcn
        · exact ⟨u, v, x1, x2⟩
      have hc0 := hc c0 ec
      have hd0 := hd d0 ed
      have cd : ps.e = ps.l → c0 ≤ d0 := fun z => by
        rcases pk.cd with ⟨y1, _⟩ | ⟨u, v, y1, y2, _, _, _, _, y3⟩
        · rw [ec] at y1; cases y1
        · rw [ec] at y1; rw [ed] at y2; cases y1; cases y2
          exact y3 z
      have e1 : ovP ps.c = .int c0 := by rw [ec]; rfl
      have e2 : ovP ps.d = .int d0 := by rw [ed]; rfl
      rw [e1, e2]
      show sMid _ _ _ _
      refine ⟨fun γ => ∃ (xs : List (List Int)) (a1 b1 : Int), γ = [.ow w (wl a1 b1), .sh (spv (some ps)), .sh (.int l), .sh (stp k), .sh (.int ps.l), .sh (.int ps.e), .sh (.int c0), .sh (.int d0), .sh (pints d), .ow sm (.lst (xs.map fun x => pints x))] ∧ xs.length ≤ 2 ∧ 0 < xs.length ∧ ∀ x ∈ xs, EntB x (some ps) l (k + 1), ?_, ?_⟩
      · have no : ∃ (xs : List (List Int)) (a2 b2 : Int), ([.ow w (wl a1 b1), .sh (spv (some ps)), .sh (.int l), .sh (stp k), .sh (.int ps.l), .sh (.int ps.e), .sh (.int c0), .sh (.int d0), .sh (pints d), .ow sm (.lst [pints ((240 + (k : Int)) :: (d ++ h ++ c1 ++ c2))])] : List Sl) = [.ow w (wl a2 b2), .sh (spv (some ps)), .sh (.int l), .sh (stp k), .sh (.int ps.l), .sh (.int ps.e), .sh (.int c0), .sh (.int d0), .sh (pints d), .ow sm (.lst (xs.map fun x => pints x))] ∧ xs.length ≤ 2 ∧ 0 < xs.length ∧ ∀ x ∈ xs, EntB x (some ps) l (k + 1) := ⟨[(240 + (k : Int)) :: (d ++ h ++ c1 ++ c2)], a1, b1, rfl, by simp, by simp, fun x hx => by obtain rfl := List.mem_singleton.mp hx; exact EL⟩
        refine ite_b (fun x1 => ite_b (fun x2 => ite_b (fun x3 => ite_b (fun x4 => ?_) (fun _ => no)) (fun _ => no)) (fun _ => no)) (fun _ => no)
        refine ⟨divA (by decide) (by decide), mulB (by decide) (by decide), (by decide : (0 : Int) < 8), mulB (by decide) (by decide), by show 2 ≤ sizeLine; decide, fun _ => ⟨by show 1 < sizeLine; decide, [(240 + (k : Int)) :: (d ++ h ++ c1 ++ c2), [128 + c0 / 8 * 8 + (k : Int), c0 % 8 * 16 + d0 - c0]], a1, b1, ?_, by simp, by simp, ?_⟩⟩
        · have e : (128 : Int) + c0 / 8 * 8 + ((k + 1 : Nat) : Int) - 1 = 128 + c0 / 8 * 8 + (k : Int) := by omega
          show [_, _, _, _, _, _, _, _, _, Sl.ow sm (.lst [_, .lst [.int (128 + c0 / 8 * 8 + ((k + 1 : Nat) : Int) - 1), _]])] = _
          rw [e]
          rfl
        · have eb : ps = ⟨l, l, some c0, some d0⟩ := by
            obtain ⟨pl, pe, pc, pd⟩ := ps
            have x1 : pl = pe := x1
            have x2 : pe = l := x2
            have ec : pc = some c0 := ec
            have ed : pd = some d0 := ed
            rw [ec, ed, x1, x2]
          intro x hx
          simp only [List.mem_cons, List.not_mem_nil, or_false] at hx
          rcases hx with rfl | rfl
          · exact EL
          · rw [eb]
            exact entB_short hk hc0.1 x3 (cd x1.symm) x4 (by rw [← eb]; exact ok)
      · rintro γ' ⟨xs, a1, b1, rfl, l5, p5, al⟩
        refine ⟨fun γ => ∃ (xs : List (List Int)) (a1 b1 : Int), γ = [.ow w (wl a1 b1), .sh (spv (some ps)), .sh (.int l), .sh (stp k), .sh (.int ps.l), .sh (.int ps.e), .sh (.int c0), .sh (.int d0), .sh (pints d), .ow sm (.lst (xs.map fun x => pints x))] ∧ xs.length ≤ 3 ∧ 0 < xs.length ∧ ∀ x ∈ xs, EntB x (some ps) l (k + 1), ?_, ?_⟩
        · have no : ∃ (xs' : List (List Int)) (a2 b2 : Int), ([.ow w (wl a1 b1), .sh (spv (some ps)), .sh (.int l), .sh (stp k), .sh (.int ps.l), .sh (.int ps.e), .sh (.int c0), .sh (.int d0), .sh (pints d), .ow sm (.lst (xs.map fun x => pints x))] : List Sl) = [.ow w (wl a2 b2), .sh (spv (some ps)), .sh (.int l), .sh (stp k), .sh (.int ps.l), .sh (.int ps.e), .sh (.int c0), .sh (.int d0), .sh (pints d), .ow sm (.lst (xs'.map fun x => pints x))] ∧ xs'.length ≤ 3 ∧ 0 < xs'.length ∧ ∀ x ∈ xs', EntB x (some ps) l (k + 1) := ⟨xs, a1, b1, rfl, by omega, p5, al⟩
          refine ite_b (fun x1 => ?_) (fun _ => no)
          refine ite_b (fun x2 => ite_b (fun x3 => ite_b (fun x4 => ?_) (fun _ => no)) (fun _ => no)) (fun _ => no)
          refine ⟨mulA (by decide) (by decide), by show 3 ≤ sizeLine; decide, fun _ => ⟨by rw [List.length_map, sizeLine_eq]; omega, xs ++ [[208 + 8 * (ps.l - l) + (k : Int), c0, d0]], a1, b1, ?_, by rw [List.length_append, List.length_singleton]; omega, by simp, ?_⟩⟩
          · have e : (208 : Int) + 8 * (ps.l - l) + ((k + 1 : Nat) : Int) - 1 = 208 + 8 * (ps.l - l) + (k : Int) := by omega
            show [_, _, _, _, _, _, _, _, _, Sl.ow sm (.lst (xs.map (fun x => pints x) ++ [.lst [.int (208 + 8 * (ps.l - l) + ((k + 1 : Nat) : Int) - 1), _, _]]))] = _
            rw [e, List.map_append]
            rfl
          · have eb : ps = ⟨ps.l, ps.l, some c0, some d0⟩ := by
              obtain ⟨pl, pe, pc, pd⟩ := ps
              have x1 : pl = pe := x1
              have ec : pc = some c0 := ec
              have ed : pd = some d0 := ed
              rw [ec, ed, x1]
            intro x hx
            rcases List.mem_append.mp hx with hx | hx
            · exact al x hx
            · obtain rfl := List.mem_singleton.mp hx
              have z := entB_line (l := l) (x := ps.l) (c := c0) (d := d0) hk x2 x3 hc0.1 (cd x1.symm) x4 (by rw [← eb]; exact ok)
              rw [← eb] at z
              exact z
        · rintro γ' ⟨xs, a1, b1, rfl, l6, p6, al⟩
          refine ⟨w, a1, b1, _, rfl, by rw [List.length_map]; exact p6, by rw [List.length_map]; omega, fun x a2 b2 hx => ⟨rfl, ?_⟩⟩
          obtain ⟨y, hy, rfl⟩ := List.mem_map.mp hx
          exact q y a2 b2 (al y hy)
end K33

namespace K33
open PySem PySem.Spec PyProof.Rows L2 Lay Pu
def ivP : PV → Int
  | .int i => i
  | _ => 0
def span4P (l e c d : PV) : Bool :=
  if inRP l 1 2147483647 && inRP e (ivP l) 2147483647 then
    if c.isNon && d.isNon then decide (ivP e = ivP l)
    else if inRP c 0 2147483647 && inRP d 0 2147483647 then decide (ivP l < ivP e) || decide (ivP c ≤ ivP d) else false
  else false
def spanP : PV → Bool
  | .non => true
  | .tup [l, e, c, d] => span4P l e c d
  | _ => false
def q_is_span : PSp := fun γ K _ _ => ∃ (x : PV) (n : String), γ = [.sh x] ∧ x.tyN = some n ∧ (∀ xs, x = .tup xs → xs.length = 4 → ∀ y ∈ xs, ∃ m, y.tyN = some m) ∧ K (.bl (spanP x)) [.sh x]
theorem inRP_int {v : PV} {lo hi : Int} (h : inRP v lo hi = true) : ∃ i, v = .int i ∧ lo ≤ i ∧ i ≤ hi := by
  cases v with
  | int i =>
    have h2 : (decide (lo ≤ i) && decide (i ≤ hi)) = true := h
    rw [Bool.and_eq_true, decide_eq_true_eq, decide_eq_true_eq] at h2
    exact ⟨i, rfl, h2.1, h2.2⟩
  | _ => cases h
theorem len4P {xs : List PV} (h : xs.length = 4) : ∃ a b c d, xs = [a, b, c, d] := by
  match xs, h with
  | [a, b, c, d], _ => exact ⟨a, b, c, d, rfl⟩
theorem spanP_len {xs : List PV} (h : xs.length ≠ 4) : spanP (.tup xs) = false := by
  match xs, h with
  | [], _ | [_], _ | [_, _], _ | [_, _, _], _ | _ :: _ :: _ :: _ :: _ :: _, _ => rfl
  | [_, _, _, _], h => exact absurd rfl h
theorem ok_is_span {P : Program} {w : World} {K : PySem.W.Frag} {mg : Str → Option Value} {base : Heap} (W : Wd K mg) : FOk P w K mg base CX0 3 "is_span" ["thing"] (spOf K q_is_span) :=
  fok (F_is_span W) (g_is_span W) (fun _ _ _ _ _ _ us hl => match us, hl with | [_], _ => rfl) fun fd F => by
  refine F.ok sc_is_span (sp_len (n := 1) fun γ Kp Ko Ep h => ?_) (fun cdv A outer s H vs Q E hr h => ?_)
  · obtain ⟨x, n, rfl, _⟩ := h
    rfl
  · obtain ⟨tk_MOST, hg_MOST⟩ := g_MOST W
    refine ⟨_, PSs.nox (jss_cons (js_if (pb_cmp op_isN bin_isN (pp_v (pv 0)) pp_non) (jss_one (js_ret pp_bl)) jss_nil) (jss_cons (js_if (pb_w (jw_or (pb_not (pb_tru (pp_cb (pe_callB call_isiA (by rfl) (g_isinstance W) (by decide +kernel) (ja_cons (pp_v (pv 0)) (ja_cons (pp_gty (pe_bltn (v := .ty "tuple") rfl (g_tuple W) (by decide +kernel) rfl)) ja_nil))) cb_isi))) (jw_or1 (pb_cmp (op_neA hr.units) bin_ne (pp_cb (pe_callB call_len (by rfl) (g_len W) (by decide +kernel) (ja_cons (pp_v (pv 0)) ja_nil)) cb_len) pp_int)))) (jss_one (js_ret pp_bl)) jss_nil) (jss_cons (js_asg (pp_v (pv 0)) (jg_tup rfl (jgs_cons (jg_name (pg_name (i := 1) sc_is_span.nd rfl (Or.inl rfl))) (jgs_cons (jg_name (pg_name (i := 2) sc_is_span.nd rfl (Or.inl rfl))) (jgs_cons (jg_name (pg_name (i := 3) sc_is_span.nd rfl (Or.inl rfl))) (jgs_cons (jg_name (pg_name (i := 4) sc_is_span.nd rfl (Or.inl rfl))) jgs_nil)))))) (jss_cons (js_if (pb_w (jw_or (pb_not (pb_tru (pp_call (pe_fS (ok_is_int_from W) (hr.mono (by decide)) (by rfl) pass0S (ja_cons (pp_v (pv 1)) (ja_cons pp_int (ja_cons (pp_gi (pe_glob (v := .int 2147483647) rfl hg_MOST ⟨_, rfl⟩)) ja_nil))))))) (jw_or1 (pb_not (pb_tru (pp_call (pe_fS (ok_is_int_from W) (hr.mono (by decide)) (by rfl) pass0S (ja_cons (pp_v (pv 2)) (ja_cons (pp_v (pv 1)) (ja_cons (pp_gi (pe_glob (v := .int 2147483647) rfl hg_MOST ⟨_, rfl⟩)) ja_nil)))))))))) (jss_one (js_ret pp_bl)) jss_nil) (jss_cons (js_if (pb_w (jw_and (pb_cmp op_isN bin_isN (pp_v (pv 3)) pp_non) (jw_and1 (pb_cmp op_isN bin_isN (pp_v (pv 4)) pp_non)))) (jss_one (js_ret (pp_cmp (op_eqA hr.units) bin_eq (pp_v (pv 2)) (pp_v (pv 1))))) jss_nil) (jss_cons (js_if (pb_w (jw_or (pb_not (pb_tru (pp_call (pe_fS (ok_is_int_from W) (hr.mono (by decide)) (by rfl) pass0S (ja_cons (pp_v (pv 3)) (ja_cons pp_int (ja_cons (pp_gi (pe_glob (v := .int 2147483647) rfl hg_MOST ⟨_, rfl⟩)) ja_nil))))))) (jw_or1 (pb_not (pb_tru (pp_call (pe_fS (ok_is_int_from W) (hr.mono (by decide)) (by rfl) pass0S (ja_cons (pp_v (pv 4)) (ja_cons pp_int (ja_cons (pp_gi (pe_glob (v := .int 2147483647) rfl hg_MOST ⟨_, rfl⟩)) ja_nil)))))))))) (jss_one (js_ret pp_bl)) jss_nil) (jss_one (js_ret (pp_or (pp_cmp op_gt bin_gt (pp_v (pv 2)) (pp_v (pv 1))) (pp_one (pp_cmp op_ge bin_ge (pp_v (pv 4)) (pp_v (pv 3))))))))))))), body_of h fun γ Kp Ko Ep h => ?_⟩
    obtain ⟨x, n, rfl, hn, ht, k⟩ := h
    by_cases hx : ∃ xs, x = .tup xs
    rotate_left
    · cases x <;> first
        | exact k
        | exact absurd ⟨_, rfl⟩ hx
        | (cases hn; exact ⟨rfl, _, rfl, k⟩)
        | (cases hn; done)
    · obtain ⟨xs, rfl⟩ := hx
      refine ⟨rfl, "tuple", rfl, ?_⟩
      refine ite_n (fun h4 => ?_) (fun h4 => ?_)
      · have n4 : xs.length ≠ 4 := fun z => h4 (by rw [z]; rfl)
        rw [spanP_len n4] at k
        exact k
      have h4' : xs.length = 4 := by omega
      obtain ⟨l, e, c, d, rfl⟩ := len4P h4'
      obtain ⟨nl, tl⟩ := ht _ rfl rfl l (by simp)
      obtain ⟨ne, te⟩ := ht _ rfl rfl e (by simp)
      obtain ⟨nc, tc⟩ := ht _ rfl rfl c (by simp)
      obtain ⟨nd, td⟩ := ht _ rfl rfl d (by simp)
      refine ⟨rfl, l, nl, 1, 2147483647, rfl, tl, ?_⟩
      have k : Kp (.bl (span4P l e c d)) [.sh (.tup [l, e, c, d])] := k
      unfold span4P at k
      cases h1 : inRP l 1 2147483647 with
      | false =>
        rw [h1, Bool.false_and, if_neg Bool.false_ne_true] at k
        exact k
      | true =>
      obtain ⟨li, rfl, l1, l2⟩ := inRP_int h1
      refine ⟨e, ne, li, 2147483647, rfl, te, ?_⟩
      rw [h1, Bool.true_and] at k
      cases h2 : inRP e li 2147483647 with
      | false =>
        rw [show inRP e (ivP (.int li)) 2147483647 = false from h2, if_neg Bool.false_ne_true] at k
        exact k
      | true =>
      obtain ⟨ei, rfl, e1, e2⟩ := inRP_int h2
      rw [show inRP (.int ei) (ivP (.int li)) 2147483647 = true from h2, if_pos rfl] at k
      have low : ∀ (A : c.isNon = true → d.isNon = true → Kp (.bl (decide (ei = li))) [.sh (.tup [.int li, .int ei, c, d])]) (B : (c.isNon && d.isNon) = false → Kp (.bl (if inRP c 0 2147483647 && inRP d 0 2147483647 then decide (li < ei) || decide (ivP c ≤ ivP d) else false)) [.sh (.tup [.int li, .int ei, c, d])]), True := fun _ _ => trivial
      cases hc : c.isNon with
      | true =>
        refine ite_b' c.isNon (fun _ => ?_) (fun z => absurd (hc.symm.trans z) (by decide))
        cases hd : d.isNon with
        | true =>
          refine ite_b' d.isNon (fun _ => ?_) (fun z => absurd (hd.symm.trans z) (by decide))
          rw [hc, hd] at k
          exact k
        | false =>
          refine ite_b' d.isNon (fun z => absurd (hd.symm.trans z) (by decide)) (fun _ => ?_)
          rw [hc, hd] at k
          refine ⟨c, nc, 0, 2147483647, rfl, tc, ?_⟩
          have z : inRP c 0 2147483647 = false := by cases c <;> first | rfl | cases hc
          rw [z]
          rw [z] at k
          exact k
      | false =>
        refine ite_b' c.isNon (fun z => absurd (hc.symm.trans z) (by decide)) (fun _ => ?_)
        rw [hc, Bool.false_and, if_neg Bool.false_ne_true] at k
        refine ⟨c, nc, 0, 2147483647, rfl, tc, ?_⟩
        cases h3 : inRP c 0 2147483647 with
        | false =>
          rw [h3, Bool.false_and, if_neg Bool.false_ne_true] at k
          exact k
        | true =>
        refine ⟨d, nd, 0, 2147483647, rfl, td, ?_⟩
        rw [h3, Bool.true_and] at k
        cases h9 : inRP d 0 2147483647 with
        | false =>
          rw [h9, if_neg Bool.false_ne_true] at k
          exact k
        | true =>
        rw [h9, if_pos rfl] at k
        obtain ⟨ci, rfl, _, _⟩ := inRP_int h3
        obtain ⟨di, rfl, _, _⟩ := inRP_int h9
        have k : Kp (.bl (decide (li < ei) || decide (ci ≤ di))) [.sh (.tup [.int li, .int ei, .int ci, .int di])] := k
        refine ite_b (fun hlt => ?_) (fun hlt => ?_)
        · rw [decide_eq_true hlt, Bool.true_or] at k
          exact k
        · rw [decide_eq_false hlt, Bool.false_or] at k
          exact k
/-- what is read, or the first problem -/
def OutP {α : Type} (r : Res α) (k : α → Prop) (E : EK) (γ : List Sl) : Prop := match r with
  | .ok a => k a
  | .bad j w => E "BadTable" [("why", .str w), ("at", .int (j : Int))] γ
theorem OutP.bind {α β : Type} {r : Res α} {f : α → Res β} {k : β → Prop} {E : EK} {γ : List Sl} (h : OutP (r.bind f) k E γ) : OutP r (fun a => OutP (f a) k E γ) E γ := by
  cases r with
  | ok a => exact h
  | bad j w => exact h
theorem OutP.mk {α : Type} {r : Res α} {k k' : α → Prop} {E E' : EK} {γ γ' : List Sl} (h : OutP r k E γ) (i : ∀ a, r = .ok a → k a → k' a) (e : ∀ j w, E "BadTable" [("why", .str w), ("at", .int ((j : Nat) : Int))] γ → E' "BadTable" [("why", .str w), ("at", .int ((j : Nat) : Int))] γ') : OutP r k' E' γ' := by
  cases r with
  | ok a => exact i a rfl h
  | bad j w => exact e j w h
def q_read_further : PSp := fun γ K _ E => ∃ (b : Array UInt8) (i : Nat), γ = [.sh (.byt b), .sh (.int (i : Int))] ∧ b.size ≤ 16777216 ∧ i ≤ b.size ∧ OutP (further (bi b) i) (fun g => K (.int g) γ) E γ
theorem fur_none {b : Array UInt8} {i : Nat} (h : ¬ i < b.size) : further (bi b) i = .bad i "torn" := by
  unfold further
  rw [List.getElem?_eq_none (by rw [bi_len]; omega)]
theorem fur_some {b : Array UInt8} {i : Nat} (h : i < b.size) : ∃ g, (bi b)[i]? = some g ∧ further (bi b) i = if 127 < g then .bad i "inside" else .ok g := by
  have hl : i < (bi b).length := by rw [bi_len]; exact h
  refine ⟨_, List.getElem?_eq_getElem hl, ?_⟩
  unfold further
  rw [List.getElem?_eq_getElem hl]
theorem ok_read_further {P : Program} {w : World} {K : PySem.W.Frag} {mg : Str → Option Value} {base : Heap} (W : Wd K mg) : FOk P w K mg base (L2.CX P w) 3 "read_further" ["data", "at"] (spOf K q_read_further) :=
  fok (F_read_further W) (g_read_further W) (fun _ _ _ _ _ _ us hl => match us, hl with | [_, _], _ => rfl) fun fd F => by
  refine F.ok sc_read_further (sp_len (n := 2) fun γ Kp Ko Ep h => ?_) (fun cdv A outer s H vs Q E hr h => ?_)
  · obtain ⟨b, i, rfl, _⟩ := h
    rfl
  · refine ⟨_, (jss_cons (js_if (pb_cmp (op_eqA hr.units) bin_eq (pp_v (pv 1)) (pp_cb (pe_callB call_len (by rfl) (g_len W) (by decide +kernel) (ja_cons (pp_v (pv 0)) ja_nil)) cb_len)) (jss_one (js_raise2 rfl (takes_of rfl rfl rfl rfl) (pmk2 (x_BadTable W) (i_BadTable W) (hr.mono (by decide)) (by rfl) mono_tA (ja_cons (pp_v (pv 1)) (ja_cons pp_str ja_nil))))) jss_nil) (jss_cons (js_if (pb_cmp op_gt bin_gt (pp_ixB (pp_v (pv 0)) (pp_v (pv 1))) pp_int) (jss_one (js_raise2 rfl (takes_of rfl rfl rfl rfl) (pmk2 (x_BadTable W) (i_BadTable W) (hr.mono (by decide)) (by rfl) mono_tA (ja_cons (pp_v (pv 1)) (ja_cons pp_str ja_nil))))) jss_nil) (jss_one (js_ret (pp_ixB (pp_v (pv 0)) (pp_v (pv 1))))))), body_of h fun γ Kp Ko Ep h => ?_⟩
    obtain ⟨b, i, rfl, hz, hi, k⟩ := h
    refine ⟨by rw [sizeLine_eq]; exact hz, ?_⟩
    refine ite_b (fun h0 => ?_) (fun h0 => ?_)
    · rw [fur_none (by omega)] at k
      exact k
    · have hlt : i < b.size := by omega
      obtain ⟨g, hg, e⟩ := fur_some hlt
      rw [e] at k
      refine ⟨hz, i, g, rfl, hg, ?_⟩
      refine ite_b (fun h1 => ?_) (fun h1 => ?_)
      · rw [if_pos h1] at k
        exact k
      · rw [if_neg h1] at k
        exact ⟨hz, i, g, rfl, hg, k⟩
def q_read_number : PSp := fun γ K _ E => ∃ (b : Array UInt8) (i : Nat), γ = [.sh (.byt b), .sh (.int (i : Int))] ∧ b.size ≤ 16777216 ∧ i ≤ b.size ∧ OutP (number (bi b) i) (fun p => K (.tup [.int (p.1 : Int), .int (p.2 : Int)]) γ) E γ
theorem shl (g : Int) (k : Nat) : g * 2 ^ (6 * (k : Int)).toNat = g * (((64 ^ k : Nat)) : Int) := by
  have e : (6 * (k : Int)).toNat = 6 * k := by omega
  rw [e, Int.pow_mul, Int.natCast_pow]
  rfl
theorem res_bind_id {α : Type} {r : Res α} {f : α → Res α} (h : ∀ a, f a = .ok a) : r.bind f = r := by
  cases r with
  | ok a => exact h a
  | bad i w => rfl
theorem res_assoc {α β γ : Type} {r : Res α} {f : α → Res β} {g : β → Res γ} : (r.bind f).bind g = r.bind fun a => (f a).bind g := by
  cases r <;> rfl
/-- what is left of a number, put to what was read -/
def numF (n s : Nat) (p : Nat × Nat) : Res (Nat × Nat) := .ok (n + 64 ^ s * p.1, p.2)
theorem numF_step {n s g : Nat} (p : Nat × Nat) : numF n s (g % 64 + 64 * p.1, p.2) = numF (n + g % 64 * 64 ^ s) (s + 1) p := by
  unfold numF
  have e : n + 64 ^ s * (g % 64 + 64 * p.1) = n + g % 64 * 64 ^ s + 64 ^ (s + 1) * p.1 := by
    rw [Nat.mul_add, Nat.pow_succ, Nat.mul_comm (64 ^ s) (g % 64), ← Nat.mul_assoc]
    omega
  show Res.ok (n + 64 ^ s * (g % 64 + 64 * p.1), p.2) = _
  rw [e]
theorem numK_0 {bs : List Int} {i : Nat} {g : Int} (h : further bs i = .ok g) : numK bs 0 i = if 63 < g then .bad i "number" else .ok (g.toNat, i + 1) := by
  unfold numK
  rw [h]
  rfl
theorem numK_s {bs : List Int} {k i : Nat} {g : Int} (h : further bs i = .ok g) : numK bs (k + 1) i = if 63 < g then (numK bs k (i + 1)).bind fun p => .ok (g.toNat % 64 + 64 * p.1, p.2) else .ok (g.toNat, i + 1) := by
  conv => lhs; unfold numK
  rw [h]
  rfl
theorem numK_b {bs : List Int} {k i j : Nat} {w : Str} (h : further bs i = .bad j w) : numK bs k i = .bad j w := by
  cases k <;> (unfold numK; rw [h]; rfl)
theorem ok_read_number {P : Program} {w : World} {K : PySem.W.Frag} {mg : Str → Option Value} {base : Heap} (W : Wd K mg) : FOk P w K mg base (L2.CX P w) 4 "read_number" ["data", "at"] (spOf K q_read_number) :=
  fok (F_read_number W) (g_read_number W) (fun _ _ _ _ _ _ us hl => match us, hl with | [_, _], _ => rfl) fun fd F => by
  refine F.ok sc_read_number (sp_len (n := 2) fun γ Kp Ko Ep h => ?_) (fun cdv A outer s H vs Q E hr h => ?_)
  · obtain ⟨b, i, rfl, _⟩ := h
    rfl
  · obtain ⟨tk_LAST_SHIFT, hg_LAST_SHIFT⟩ := g_LAST_SHIFT W
    refine ⟨_, (jss_cons (js_set (ps_set (i := 2) sc_read_number.nd rfl (Or.inl rfl) pp_int)) (jss_cons (js_set (ps_set (i := 3) sc_read_number.nd rfl (Or.inl rfl) pp_int)) (jss_cons (js_set (ps_set (i := 4) sc_read_number.nd rfl (Or.inl rfl) (pp_call (pe_fS (ok_read_further W) (hr.mono (by decide)) (by rfl) (passES (takes_of rfl rfl rfl rfl)) (ja_cons (pp_v (pv 0)) (ja_cons (pp_v (pv 1)) ja_nil)))))) (jss_cons (js_while (passes_of rfl) (pb_cmp op_gt bin_gt (pp_v (pv 4)) pp_int) (jss_cons (js_if (pb_cmp (op_eqA hr.units) bin_eq (pp_v (pv 3)) (pp_gi (pe_glob (v := .int 42) rfl hg_LAST_SHIFT ⟨_, rfl⟩))) (jss_one (js_raise2 rfl (takes_of rfl rfl rfl rfl) (pmk2 (x_BadTable W) (i_BadTable W) (hr.mono (by decide)) (by rfl) mono_tA (ja_cons (pp_v (pv 1)) (ja_cons pp_str ja_nil))))) jss_nil) (jss_cons (js_aug (ps_aug (i := 2) sc_read_number.nd rfl (Or.inl rfl) (pp_shl (pp_and_ (pp_v (pv 4)) pp_int) (pp_v (pv 3))) ip_add)) (jss_cons (js_aug (ps_aug (i := 3) sc_read_number.nd rfl (Or.inl rfl) pp_int ip_add)) (jss_cons (js_aug (ps_aug (i := 1) sc_read_number.nd rfl (Or.inl rfl) pp_int ip_add)) (jss_one (js_set (ps_set (i := 4) sc_read_number.nd rfl (Or.inl rfl) (pp_call (pe_fS (ok_read_further W) (hr.mono (by decide)) (by rfl) (passES (takes_of rfl rfl rfl rfl)) (ja_cons (pp_v (pv 0)) (ja_cons (pp_v (pv 1)) ja_nil)))))))))))) (jss_one (js_ret (pp_tup (ja_cons (pp_add (pp_v (pv 2)) (pp_shl (pp_v (pv 4)) (pp_v (pv 3)))) (ja_cons (pp_add (pp_v (pv 1)) pp_int) ja_nil))))))))), body_of h fun γ Kp Ko Ep h => ?_⟩
    obtain ⟨b, i, rfl, hz, hi, q⟩ := h
    refine ⟨b, i, rfl, hz, hi, ?_⟩
    cases e0 : further (bi b) i with
    | bad j w =>
      rw [number, numK_b e0] at q
      exact q
    | ok g0 =>
    refine ⟨fun m γ => ∃ (s n a g : Nat), m + s = 7 ∧ γ = [.sh (.byt b), .sh (.int (a : Int)), .sh (.int (n : Int)), .sh (.int (6 * (s : Int))), .sh (.int (g : Int))] ∧ further (bi b) a = .ok (g : Int) ∧ number (bi b) i = (numK (bi b) m a).bind (numF n s), ⟨7, ?_⟩, ?_⟩
    · obtain ⟨h1, h2, h3⟩ := further_ok e0
      have hg := (bi_at h1).2.2.1
      refine ⟨0, 0, i, g0.toNat, rfl, ?_, ?_, ?_⟩
      · show [Sl.sh (.byt b), Sl.sh (.int (i : Int)), Sl.sh (.int 0), Sl.sh (.int 0), Sl.sh (.int g0)] = [Sl.sh (.byt b), Sl.sh (.int (i : Int)), Sl.sh (.int 0), Sl.sh (.int 0), Sl.sh (.int (g0.toNat : Int))]
        rw [show (g0.toNat : Int) = g0 by omega]
      · rw [e0, show (g0.toNat : Int) = g0 by omega]
      · rw [res_bind_id]
        · rfl
        · intro p
          show Res.ok (0 + 64 ^ 0 * p.1, p.2) = Res.ok p
          rw [Nat.pow_zero, Nat.one_mul, Nat.zero_add]
    · rintro m γ ⟨s, n, a, g, hms, rfl, ef, en⟩
      obtain ⟨h1, h2, h3⟩ := further_ok ef
      rw [bi_len] at h3
      refine ite_b (fun hgt => ?_) (fun hgt => ?_)
      · refine ite_b (fun hs => ?_) (fun hs => ?_)
        · have hm : m = 0 := by omega
          subst hm
          rw [en, numK_0 ef, if_pos hgt] at q
          exact q
        · obtain ⟨k, rfl⟩ : ∃ k, m = k + 1 := ⟨m - 1, by omega⟩
          refine ⟨⟨by omega, by omega, ?_⟩, ?_⟩
          · rw [bitAnd_m6]
            omega
          refine ⟨b, a + 1, rfl, hz, h3, ?_⟩
          rw [numK_s ef, if_pos hgt, res_assoc] at en
          cases e1 : further (bi b) (a + 1) with
          | bad j w =>
            rw [en, numK_b e1] at q
            exact q
          | ok g' =>
            have hg' := (bi_at (further_ok e1).1).2.2.1
            refine ⟨k, by omega, s + 1, n + g % 64 * 64 ^ s, a + 1, g'.toNat, by omega, ?_, ?_, ?_⟩
            · have x1 : (n : Int) + Builtin.bitAnd (g : Int) 63 * 2 ^ (6 * (s : Int)).toNat = ((n + g % 64 * 64 ^ s : Nat) : Int) := by
                rw [bitAnd_m6, shl, Int.natCast_add, Int.natCast_mul]
                rfl
              have x2 : 6 * (s : Int) + 6 = 6 * ((s + 1 : Nat) : Int) := by omega
              have x3 : (g'.toNat : Int) = g' := by omega
              show [Sl.sh (.byt b), Sl.sh (.int ((a : Int) + 1)), Sl.sh (.int ((n : Int) + Builtin.bitAnd (g : Int) 63 * 2 ^ (6 * (s : Int)).toNat)), Sl.sh (.int (6 * (s : Int) + 6)), Sl.sh (.int g')] = _
              rw [x1, x2, x3]
              rfl
            · rw [e1, show (g'.toNat : Int) = g' by omega]
            · rw [en]
              congr 1
              funext p
              exact numF_step p
      · have hn : number (bi b) i = .ok (n + 64 ^ s * g, a + 1) := by
          rw [en]
          cases m with
          | zero => rw [numK_0 ef, if_neg hgt]; rfl
          | succ k => rw [numK_s ef, if_neg hgt]; rfl
        rw [hn] at q
        refine ⟨⟨by omega, by omega, by omega⟩, by show 2 ≤ sizeLine; decide, ?_⟩
        have x1 : (n : Int) + (g : Int) * 2 ^ (6 * (s : Int)).toNat = ((n + 64 ^ s * g : Nat) : Int) := by
          rw [shl, Int.natCast_add, Int.natCast_mul, Int.mul_comm]
        rw [x1]
        exact q
def q_read_signed : PSp := fun γ K _ E => ∃ (b : Array UInt8) (i : Nat), γ = [.sh (.byt b), .sh (.int (i : Int))] ∧ b.size ≤ 16777216 ∧ i ≤ b.size ∧ OutP (signed (bi b) i) (fun p => K (.tup [.int p.1, .int (p.2 : Int)]) γ) E γ
theorem ok_read_signed {P : Program} {w : World} {K : PySem.W.Frag} {mg : Str → Option Value} {base : Heap} (W : Wd K mg) : FOk P w K mg base (L2.CX P w) 5 "read_signed" ["data", "at"] (spOf K q_read_signed) :=
  fok (F_read_signed W) (g_read_signed W) (fun _ _ _ _ _ _ us hl => match us, hl with | [_, _], _ => rfl) fun fd F => by
  refine F.ok sc_read_signed (sp_len (n := 2) fun γ Kp Ko Ep h => ?_) (fun cdv A outer s H vs Q E hr h => ?_)
  · obtain ⟨b, i, rfl, _⟩ := h
    rfl
  · refine ⟨_, (jss_cons (js_asg (pp_call (pe_fS (ok_read_number W) (hr.mono (by decide)) (by rfl) (passES (takes_of rfl rfl rfl rfl)) (ja_cons (pp_v (pv 0)) (ja_cons (pp_v (pv 1)) ja_nil)))) (jg_tup rfl (jgs_cons (jg_name (pg_name (i := 2) sc_read_signed.nd rfl (Or.inl rfl))) (jgs_cons (jg_name (pg_name (i := 3) sc_read_signed.nd rfl (Or.inl rfl))) jgs_nil)))) (jss_cons (js_set (ps_set (i := 4) sc_read_signed.nd rfl (Or.inl rfl) (pp_shr (pp_v (pv 2)) pp_int))) (jss_one (js_ret (pp_tup (ja_cons (pp_if (pb_tru (pp_and_ (pp_v (pv 2)) pp_int)) (pp_neg (pp_v (pv 4))) (pp_v (pv 4))) (ja_cons (pp_v (pv 3)) ja_nil))))))), body_of h fun γ Kp Ko Ep h => ?_⟩
    obtain ⟨b, i, rfl, hz, hi, q⟩ := h
    refine ⟨b, i, rfl, hz, hi, q.bind.mk (fun p ep q => ?_) fun j w z => z⟩
    have eh : (p.1 : Int) / 2 ^ (1 : Int).toNat = ((p.1 / 2 : Nat) : Int) := by
      show (p.1 : Int) / 2 = _
      omega
    have ea : Builtin.bitAnd (p.1 : Int) 1 = ((p.1 % 2 : Nat) : Int) := by
      rw [bitAnd_m1]
      omega
    have q : Kp (.tup [.int (sgn p.1), .int (p.2 : Int)]) [.sh (.byt b), .sh (.int (i : Int))] := q
    unfold sgn at q
    refine ⟨rfl, (by decide : (0 : Int) ≤ 1), ?_⟩
    refine ite_b' (Builtin.bitAnd (p.1 : Int) 1 != 0) (fun h => ?_) (fun h => ?_)
    · have h2 : p.1 % 2 = 1 := by
        rw [ea] at h
        have h3 : ((p.1 % 2 : Nat) : Int) ≠ 0 := by simpa using h
        omega
      rw [if_pos h2, ← eh] at q
      exact ⟨by show 2 ≤ sizeLine; decide, q⟩
    · have h2 : ¬ p.1 % 2 = 1 := by
        rw [ea] at h
        have h3 : ((p.1 % 2 : Nat) : Int) = 0 := by simpa using h
        omega
      rw [if_neg h2, ← eh] at q
      exact ⟨by show 2 ≤ sizeLine; decide, q⟩
def q_column : PSp := fun γ K _ _ => ∃ (n : Nat), γ = [.sh (.int (n : Int))] ∧ K (ovP (colOf n)) γ
theorem ok_column {P : Program} {w : World} {K : PySem.W.Frag} {mg : Str → Option Value} {base : Heap} (W : Wd K mg) : FOk P w K mg base CX0 1 "_column" ["number"] (spOf K q_column) :=
  fok (F_column W) (g_column W) (fun _ _ _ _ _ _ us hl => match us, hl with | [_], _ => rfl) fun fd F => by
  refine F.ok sc_column (sp_len (n := 1) fun γ Kp Ko Ep h => ?_) (fun cdv A outer s H vs Q E hr h => ?_)
  · obtain ⟨n, rfl, _⟩ := h
    rfl
  · refine ⟨_, PSs.nox (jss_one (js_ret (pp_if (pb_cmp (op_eqA hr.units) bin_eq (pp_v (pv 0)) pp_int) pp_non (pp_sub (pp_v (pv 0)) pp_int)))), body_of h fun γ Kp Ko Ep h => ?_⟩
    obtain ⟨n, rfl, q⟩ := h
    refine ite_b (fun h0 => ?_) (fun h0 => ?_)
    · have e2 : colOf n = none := if_pos (by omega)
      rw [e2] at q
      exact q
    · have e2 : colOf n = some ((n : Int) - 1) := if_neg fun z => h0 (by rw [z]; rfl)
      rw [e2] at q
      exact q
def q_line_behind : PSp := fun γ K _ _ => ∃ (s : Span) (l : Int), γ = [.sh (spv s), .sh (.int l)] ∧ K (.int (lineAfter s l)) γ
theorem ok_line_behind {P : Program} {w : World} {K : PySem.W.Frag} {mg : Str → Option Value} {base : Heap} (W : Wd K mg) : FOk P w K mg base CX0 1 "line_behind" ["span", "line"] (spOf K q_line_behind) :=
  fok (F_line_behind W) (g_line_behind W) (fun _ _ _ _ _ _ us hl => match us, hl with | [_, _], _ => rfl) fun fd F => by
  refine F.ok sc_line_behind (sp_len (n := 2) fun γ Kp Ko Ep h => ?_) (fun cdv A outer s H vs Q E hr h => ?_)
  · obtain ⟨s, l, rfl, _⟩ := h
    rfl
  · refine ⟨_, PSs.nox (jss_one (js_ret (pp_if (pb_cmp op_isN bin_isN (pp_v (pv 0)) pp_non) (pp_v (pv 1)) (pp_ix (pp_v (pv 0)) pp_int)))), body_of h fun γ Kp Ko Ep h => ?_⟩
    obtain ⟨s, l, rfl, q⟩ := h
    cases s with
    | none => exact q
    | some p => exact ⟨_, rfl, q⟩
def q_name_of : PSp := fun γ K _ _ => ∃ (f : Nat), γ = [.sh (.int (f : Int))] ∧ f < 16 ∧ K (.str (formName f)) γ
theorem high (f : Nat) (h0 : 10 ≤ f) (h1 : f < 16) : atI [PV.str "line", PV.str "line", PV.str "line", PV.str "bare", PV.str "long", PV.str "none"] ((f : Int) - 10) = some (.str (formName f)) := by
  obtain ⟨k, rfl⟩ : ∃ k, f = k + 10 := ⟨f - 10, by omega⟩
  match k with
  | 0 | 1 | 2 | 3 | 4 | 5 => rfl
  | k + 6 => omega
theorem ok_name_of {P : Program} {w : World} {K : PySem.W.Frag} {mg : Str → Option Value} {base : Heap} (W : Wd K mg) : FOk P w K mg base CX0 1 "name_of" ["form"] (spOf K q_name_of) :=
  fok (F_name_of W) (g_name_of W) (fun _ _ _ _ _ _ us hl => match us, hl with | [_], _ => rfl) fun fd F => by
  refine F.ok sc_name_of (sp_len (n := 1) fun γ Kp Ko Ep h => ?_) (fun cdv A outer s H vs Q E hr h => ?_)
  · obtain ⟨f, rfl, _⟩ := h
    rfl
  · obtain ⟨tk_LINE, hg_LINE⟩ := g_LINE W
    refine ⟨_, PSs.nox (jss_one (js_ret (pp_if (pb_cmp op_lt bin_lt (pp_v (pv 0)) (pp_gi (pe_glob (v := .int 10) rfl hg_LINE ⟨_, rfl⟩))) pp_str (pp_ix (pp_gt (pe_glob (v := .ref (He.ga K "HIGH_NAMES")) rfl (g_HIGH_NAMES W) rfl) (fun _ => tupr_of (x_HIGH_NAMES W)) (fun _ => rp_HIGH_NAMES _ _)) (pp_sub (pp_v (pv 0)) (pp_gi (pe_glob (v := .int 10) rfl hg_LINE ⟨_, rfl⟩))))))), body_of h fun γ Kp Ko Ep h => ?_⟩
    obtain ⟨f, rfl, hf, q⟩ := h
    refine ite_b (fun h0 => ?_) (fun h0 => ?_)
    · have e : formName f = "short" := if_pos (by omega)
      rw [e] at q
      exact q
    · exact ⟨_, high f (by omega) hf, q⟩
end K33

namespace K33
open PySem PySem.Spec PyProof.Rows L2 Lay Pu
def q_check_position : PSp := fun γ K _ E => ∃ (s : Span) (i : Nat), γ = [.sh (spv s), .sh (.int (i : Int))] ∧ OutP (chkPos s i) (fun _ => K .non γ) E γ
theorem span4_eq (l e : Int) (c d : Option Int) : span4P (.int l) (.int e) (ovP c) (ovP d) = span4 (.int l) (.int e) (ov c) (ov d) := by
  cases c <;> cases d <;> (unfold span4P span4; rfl)
theorem ovP_ty (o : Option Int) : ∃ m, (ovP o).tyN = some m := by
  cases o <;> exact ⟨_, rfl⟩
theorem ok_check_position {P : Program} {w : World} {K : PySem.W.Frag} {mg : Str → Option Value} {base : Heap} (W : Wd K mg) : FOk P w K mg base (L2.CX P w) 4 "_check_position" ["span", "at"] (spOf K q_check_position) :=
  fok (F_check_position W) (g_check_position W) (fun _ _ _ _ _ _ us hl => match us, hl with | [_, _], _ => rfl) fun fd F => by
  refine F.ok sc_check_position (sp_len (n := 2) fun γ Kp Ko Ep h => ?_) (fun cdv A outer s H vs Q E hr h => ?_)
  · obtain ⟨s, i, rfl, _⟩ := h
    rfl
  · obtain ⟨tk_MOST, hg_MOST⟩ := g_MOST W
    refine ⟨_, (jss_cons (js_if (pb_cmp op_isN bin_isN (pp_v (pv 0)) pp_non) (jss_one js_retN) jss_nil) (jss_cons (js_if (pb_w (jw_or (pb_not (pb_tru (pp_call (pe_fS (ok_is_int_from W) (hr.mono (by decide)) (by rfl) pass0S (ja_cons (pp_ix (pp_v (pv 0)) pp_int) (ja_cons pp_int (ja_cons (pp_gi (pe_glob (v := .int 2147483647) rfl hg_MOST ⟨_, rfl⟩)) ja_nil))))))) (jw_or1 (pb_not (pb_tru (pp_call (pe_fS (ok_is_int_from W) (hr.mono (by decide)) (by rfl) pass0S (ja_cons (pp_ix (pp_v (pv 0)) pp_int) (ja_cons pp_int (ja_cons (pp_gi (pe_glob (v := .int 2147483647) rfl hg_MOST ⟨_, rfl⟩)) ja_nil)))))))))) (jss_one (js_raise2 rfl (takes_of rfl rfl rfl rfl) (pmk2 (x_BadTable W) (i_BadTable W) (hr.mono (by decide)) (by rfl) mono_tA (ja_cons (pp_v (pv 1)) (ja_cons pp_str ja_nil))))) jss_nil) (jss_one (js_if (pb_not (pb_tru (pp_call (pe_fS (ok_is_span W) (hr.mono (by decide)) (by rfl) pass0S (ja_cons (pp_v (pv 0)) ja_nil))))) (jss_one (js_raise2 rfl (takes_of rfl rfl rfl rfl) (pmk2 (x_BadTable W) (i_BadTable W) (hr.mono (by decide)) (by rfl) mono_tA (ja_cons (pp_v (pv 1)) (ja_cons pp_str ja_nil))))) jss_nil)))), body_of h fun γ Kp Ko Ep h => ?_⟩
    obtain ⟨s, i, rfl, q⟩ := h
    cases s with
    | none => exact q
    | some p =>
      unfold chkPos at q
      refine ⟨_, rfl, .int p.l, "int", 1, 2147483647, rfl, rfl, ?_⟩
      cases h1 : inRP (.int p.l) 1 2147483647 with
      | false =>
        have e : (inB p.l 1 2147483647 && inB p.e 1 2147483647) = false := by
          rw [show inB p.l 1 2147483647 = false from h1, Bool.false_and]
        dsimp only at q
        rw [if_pos e] at q
        exact q
      | true =>
      refine ⟨_, rfl, .int p.e, "int", 1, 2147483647, rfl, rfl, ?_⟩
      cases h2 : inRP (.int p.e) 1 2147483647 with
      | false =>
        have e : (inB p.l 1 2147483647 && inB p.e 1 2147483647) = false := by
          rw [show inB p.e 1 2147483647 = false from h2, Bool.and_false]
        dsimp only at q
        rw [if_pos e] at q
        exact q
      | true =>
      have e : ¬ (inB p.l 1 2147483647 && inB p.e 1 2147483647) = false := by
        rw [show inB p.l 1 2147483647 = true from h1, show inB p.e 1 2147483647 = true from h2]
        decide
      dsimp only at q
      rw [if_neg e] at q
      refine ⟨spv (some p), "tuple", rfl, rfl, ?_, ?_⟩
      · intro xs ex _ y hy
        cases ex
        simp only [List.mem_cons, List.not_mem_nil, or_false] at hy
        rcases hy with rfl | rfl | rfl | rfl
        · exact ⟨_, rfl⟩
        · exact ⟨_, rfl⟩
        · exact ovP_ty _
        · exact ovP_ty _
      · have e3 : spanP (spv (some p)) = posB p := span4_eq p.l p.e p.c p.d
        rw [e3]
        cases h3 : posB p with
        | false =>
          rw [if_pos h3] at q
          exact q
        | true =>
          rw [if_neg (by rw [h3]; decide)] at q
          exact q
def posP (p : Span × Nat) : PV := .tup [spv p.1, .int (p.2 : Int)]
def q_read_long : PSp := fun γ K _ E => ∃ (b : Array UInt8) (i : Nat) (l : Int), γ = [.sh (.byt b), .sh (.int (i : Int)), .sh (.int l)] ∧ b.size ≤ 16777216 ∧ i ≤ b.size ∧ OutP (longPos (bi b) i l) (fun p => K (posP p) γ) E γ
theorem ok_read_long {P : Program} {w : World} {K : PySem.W.Frag} {mg : Str → Option Value} {base : Heap} (W : Wd K mg) : FOk P w K mg base (L2.CX P w) 6 "_read_long" ["data", "at", "line"] (spOf K q_read_long) :=
  fok (F_read_long W) (g_read_long W) (fun _ _ _ _ _ _ us hl => match us, hl with | [_, _, _], _ => rfl) fun fd F => by
  refine F.ok sc_read_long (sp_len (n := 3) fun γ Kp Ko Ep h => ?_) (fun cdv A outer s H vs Q E hr h => ?_)
  · obtain ⟨b, i, l, rfl, _⟩ := h
    rfl
  · refine ⟨_, (jss_cons (js_asg (pp_call (pe_fS (ok_read_signed W) (hr.mono (by decide)) (by rfl) (passES (takes_of rfl rfl rfl rfl)) (ja_cons (pp_v (pv 0)) (ja_cons (pp_v (pv 1)) ja_nil)))) (jg_tup rfl (jgs_cons (jg_name (pg_name (i := 3) sc_read_long.nd rfl (Or.inl rfl))) (jgs_cons (jg_name (pg_name (i := 1) sc_read_long.nd rfl (Or.inl rfl))) jgs_nil)))) (jss_cons (js_asg (pp_call (pe_fS (ok_read_number W) (hr.mono (by decide)) (by rfl) (passES (takes_of rfl rfl rfl rfl)) (ja_cons (pp_v (pv 0)) (ja_cons (pp_v (pv 1)) ja_nil)))) (jg_tup rfl (jgs_cons (jg_name (pg_name (i := 4) sc_read_long.nd rfl (Or.inl rfl))) (jgs_cons (jg_name (pg_name (i := 1) sc_read_long.nd rfl (Or.inl rfl))) jgs_nil)))) (jss_cons (js_asg (pp_call (pe_fS (ok_read_number W) (hr.mono (by decide)) (by rfl) (passES (takes_of rfl rfl rfl rfl)) (ja_cons (pp_v (pv 0)) (ja_cons (pp_v (pv 1)) ja_nil)))) (jg_tup rfl (jgs_cons (jg_name (pg_name (i := 5) sc_read_long.nd rfl (Or.inl rfl))) (jgs_cons (jg_name (pg_name (i := 1) sc_read_long.nd rfl (Or.inl rfl))) jgs_nil)))) (jss_cons (js_asg (pp_call (pe_fS (ok_read_number W) (hr.mono (by decide)) (by rfl) (passES (takes_of rfl rfl rfl rfl)) (ja_cons (pp_v (pv 0)) (ja_cons (pp_v (pv 1)) ja_nil)))) (jg_tup rfl (jgs_cons (jg_name (pg_name (i := 6) sc_read_long.nd rfl (Or.inl rfl))) (jgs_cons (jg_name (pg_name (i := 1) sc_read_long.nd rfl (Or.inl rfl))) jgs_nil)))) (jss_cons (js_set (ps_set (i := 7) sc_read_long.nd rfl (Or.inl rfl) (pp_add (pp_v (pv 2)) (pp_v (pv 3))))) (jss_one (js_ret (pp_tup (ja_cons (pp_tup (ja_cons (pp_v (pv 7)) (ja_cons (pp_add (pp_v (pv 7)) (pp_v (pv 4))) (ja_cons (pp_call (pe_fS (ok_column W) (hr.mono (by decide)) (by rfl) pass0S (ja_cons (pp_v (pv 5)) ja_nil))) (ja_cons (pp_call (pe_fS (ok_column W) (hr.mono (by decide)) (by rfl) pass0S (ja_cons (pp_v (pv 6)) ja_nil))) ja_nil))))) (ja_cons (pp_v (pv 1)) ja_nil)))))))))), body_of h fun γ Kp Ko Ep h => ?_⟩
    obtain ⟨b, i, l, rfl, hz, hi, q⟩ := h
    refine ⟨b, i, rfl, hz, hi, q.bind.mk (fun c ec q => ?_) fun j w z => z⟩
    have k1 := signed_lt ec
    rw [bi_len] at k1
    refine ⟨rfl, b, c.2, rfl, hz, k1.2, q.bind.mk (fun h eh q => ?_) fun j w z => z⟩
    have k2 := number_lt eh
    rw [bi_len] at k2
    refine ⟨rfl, b, h.2, rfl, hz, k2.2, q.bind.mk (fun m em q => ?_) fun j w z => z⟩
    have k3 := number_lt em
    rw [bi_len] at k3
    refine ⟨rfl, b, m.2, rfl, hz, k3.2, q.bind.mk (fun n en q => ?_) fun j w z => z⟩
    exact ⟨rfl, m.1, rfl, n.1, rfl, by show 4 ≤ sizeLine; decide, by show 2 ≤ sizeLine; decide, q⟩
def q_read_position : PSp := fun γ K _ E => ∃ (b : Array UInt8) (i f : Nat) (l : Int), γ = [.sh (.byt b), .sh (.int (i : Int)), .sh (.int (f : Int)), .sh (.int l)] ∧ b.size ≤ 16777216 ∧ i ≤ b.size ∧ f < 16 ∧ OutP (position (bi b) i f l) (fun p => K (posP p) γ) E γ
theorem ok_read_position {P : Program} {w : World} {K : PySem.W.Frag} {mg : Str → Option Value} {base : Heap} (W : Wd K mg) : FOk P w K mg base (L2.CX P w) 7 "_read_position" ["data", "at", "form", "line"] (spOf K q_read_position) :=
  fok (F_read_position W) (g_read_position W) (fun _ _ _ _ _ _ us hl => match us, hl with | [_, _, _, _], _ => rfl) fun fd F => by
  refine F.ok sc_read_position (sp_len (n := 4) fun γ Kp Ko Ep h => ?_) (fun cdv A outer s H vs Q E hr h => ?_)
  · obtain ⟨b, i, f, l, rfl, _⟩ := h
    rfl
  · obtain ⟨tk_NONE, hg_NONE⟩ := g_NONE W
    obtain ⟨tk_LONG, hg_LONG⟩ := g_LONG W
    obtain ⟨tk_BARE, hg_BARE⟩ := g_BARE W
    obtain ⟨tk_LINE, hg_LINE⟩ := g_LINE W
    refine ⟨_, (jss_cons (js_if (pb_cmp (op_eqA hr.units) bin_eq (pp_v (pv 2)) (pp_gi (pe_glob (v := .int 15) rfl hg_NONE ⟨_, rfl⟩))) (jss_one (js_ret (pp_tup (ja_cons pp_non (ja_cons (pp_v (pv 1)) ja_nil))))) jss_nil) (jss_cons (js_if (pb_cmp (op_eqA hr.units) bin_eq (pp_v (pv 2)) (pp_gi (pe_glob (v := .int 14) rfl hg_LONG ⟨_, rfl⟩))) (jss_one (js_ret (pp_call (pe_fS (ok_read_long W) (hr.mono (by decide)) (by rfl) (passES (takes_of rfl rfl rfl rfl)) (ja_cons (pp_v (pv 0)) (ja_cons (pp_v (pv 1)) (ja_cons (pp_v (pv 3)) ja_nil))))))) jss_nil) (jss_cons (js_if (pb_cmp (op_eqA hr.units) bin_eq (pp_v (pv 2)) (pp_gi (pe_glob (v := .int 13) rfl hg_BARE ⟨_, rfl⟩))) (jss_cons (js_asg (pp_call (pe_fS (ok_read_signed W) (hr.mono (by decide)) (by rfl) (passES (takes_of rfl rfl rfl rfl)) (ja_cons (pp_v (pv 0)) (ja_cons (pp_v (pv 1)) ja_nil)))) (jg_tup rfl (jgs_cons (jg_name (pg_name (i := 4) sc_read_position.nd rfl (Or.inl rfl))) (jgs_cons (jg_name (pg_name (i := 5) sc_read_position.nd rfl (Or.inl rfl))) jgs_nil)))) (jss_one (js_ret (pp_tup (ja_cons (pp_tup (ja_cons (pp_add (pp_v (pv 3)) (pp_v (pv 4))) (ja_cons (pp_add (pp_v (pv 3)) (pp_v (pv 4))) (ja_cons pp_non (ja_cons pp_non ja_nil))))) (ja_cons (pp_v (pv 5)) ja_nil)))))) jss_nil) (jss_cons (js_set (ps_set (i := 6) sc_read_position.nd rfl (Or.inl rfl) (pp_call (pe_fS (ok_read_further W) (hr.mono (by decide)) (by rfl) (passES (takes_of rfl rfl rfl rfl)) (ja_cons (pp_v (pv 0)) (ja_cons (pp_v (pv 1)) ja_nil)))))) (jss_cons (js_if (pb_cmp op_lt bin_lt (pp_v (pv 2)) (pp_gi (pe_glob (v := .int 10) rfl hg_LINE ⟨_, rfl⟩))) (jss_cons (js_set (ps_set (i := 7) sc_read_position.nd rfl (Or.inl rfl) (pp_add (pp_mul pp_int (pp_v (pv 2))) (pp_shr (pp_v (pv 6)) pp_int)))) (jss_one (js_ret (pp_tup (ja_cons (pp_tup (ja_cons (pp_v (pv 3)) (ja_cons (pp_v (pv 3)) (ja_cons (pp_v (pv 7)) (ja_cons (pp_add (pp_v (pv 7)) (pp_and_ (pp_v (pv 6)) pp_int)) ja_nil))))) (ja_cons (pp_add (pp_v (pv 1)) pp_int) ja_nil)))))) jss_nil) (jss_cons (js_set (ps_set (i := 8) sc_read_position.nd rfl (Or.inl rfl) (pp_call (pe_fS (ok_read_further W) (hr.mono (by decide)) (by rfl) (passES (takes_of rfl rfl rfl rfl)) (ja_cons (pp_v (pv 0)) (ja_cons (pp_add (pp_v (pv 1)) pp_int) ja_nil)))))) (jss_cons (js_set (ps_set (i := 9) sc_read_position.nd rfl (Or.inl rfl) (pp_sub (pp_add (pp_v (pv 3)) (pp_v (pv 2))) (pp_gi (pe_glob (v := .int 10) rfl hg_LINE ⟨_, rfl⟩))))) (jss_one (js_ret (pp_tup (ja_cons (pp_tup (ja_cons (pp_v (pv 9)) (ja_cons (pp_v (pv 9)) (ja_cons (pp_v (pv 6)) (ja_cons (pp_v (pv 8)) ja_nil))))) (ja_cons (pp_add (pp_v (pv 1)) pp_int) ja_nil)))))))))))), body_of h fun γ Kp Ko Ep h => ?_⟩
    obtain ⟨b, i, f, l, rfl, hz, hi, hf, q⟩ := h
    unfold position at q
    refine ite_b (fun h15 => ?_) (fun h15 => ?_)
    · rw [if_pos (by omega)] at q
      exact ⟨by show 2 ≤ sizeLine; decide, q⟩
    rw [if_neg (fun z => h15 (by rw [z]; rfl))] at q
    refine ite_b (fun h14 => ?_) (fun h14 => ?_)
    · rw [if_pos (by omega)] at q
      exact ⟨b, i, l, rfl, hz, hi, q.mk (fun p ep q => q) fun j w z => z⟩
    rw [if_neg (fun z => h14 (by rw [z]; rfl))] at q
    refine ite_b (fun h13 => ?_) (fun h13 => ?_)
    · rw [if_pos (by omega)] at q
      refine ⟨b, i, rfl, hz, hi, q.bind.mk (fun c ec q => ?_) fun j w z => z⟩
      exact ⟨rfl, by show 4 ≤ sizeLine; decide, by show 2 ≤ sizeLine; decide, q⟩
    rw [if_neg (fun z => h13 (by rw [z]; rfl))] at q
    refine ⟨b, i, rfl, hz, hi, q.bind.mk (fun g eg q => ?_) fun j w z => z⟩
    obtain ⟨g1, g2, g3⟩ := further_ok eg
    rw [bi_len] at g3
    refine ite_b (fun h10 => ?_) (fun h10 => ?_)
    · rw [if_pos (by omega)] at q
      have x1 : Builtin.bitAnd g 15 = g % 16 := bitAnd_m4 g
      refine ⟨mulA (by decide) (by decide), (by decide : (0 : Int) ≤ 4), by show 4 ≤ sizeLine; decide, by show 2 ≤ sizeLine; decide, ?_⟩
      rw [x1]
      exact q
    · rw [if_neg (by omega)] at q
      refine ⟨b, i + 1, rfl, hz, by omega, q.bind.mk (fun g' eg' q => ?_) fun j w z => z⟩
      exact ⟨by show 4 ≤ sizeLine; decide, by show 2 ≤ sizeLine; decide, q⟩
def q_read_entry : PSp := fun γ K _ E => ∃ (b : Array UInt8) (i : Nat) (l : Int), γ = [.sh (.byt b), .sh (.int (i : Int)), .sh (.int l)] ∧ b.size ≤ 16777216 ∧ i < b.size ∧ OutP (entry (bi b) i l) (fun p => K (.tup [.int (p.1.steps : Int), .str (formName p.1.form), spv p.1.span, .int (p.2 : Int)]) γ) E γ
theorem ok_read_entry {P : Program} {w : World} {K : PySem.W.Frag} {mg : Str → Option Value} {base : Heap} (W : Wd K mg) : FOk P w K mg base (L2.CX P w) 8 "read_entry" ["data", "at", "line"] (spOf K q_read_entry) :=
  fok (F_read_entry W) (g_read_entry W) (fun _ _ _ _ _ _ us hl => match us, hl with | [_, _, _], _ => rfl) fun fd F => by
  refine F.ok sc_read_entry (sp_len (n := 3) fun γ Kp Ko Ep h => ?_) (fun cdv A outer s H vs Q E hr h => ?_)
  · obtain ⟨b, i, l, rfl, _⟩ := h
    rfl
  · refine ⟨_, (jss_cons (js_set (ps_set (i := 3) sc_read_entry.nd rfl (Or.inl rfl) (pp_ixB (pp_v (pv 0)) (pp_v (pv 1))))) (jss_cons (js_if (pb_cmp op_lt bin_lt (pp_v (pv 3)) pp_int) (jss_one (js_raise2 rfl (takes_of rfl rfl rfl rfl) (pmk2 (x_BadTable W) (i_BadTable W) (hr.mono (by decide)) (by rfl) mono_tA (ja_cons (pp_v (pv 1)) (ja_cons pp_str ja_nil))))) jss_nil) (jss_cons (js_set (ps_set (i := 4) sc_read_entry.nd rfl (Or.inl rfl) (pp_shr (pp_sub (pp_v (pv 3)) pp_int) pp_int))) (jss_cons (js_asg (pp_call (pe_fS (ok_read_position W) (hr.mono (by decide)) (by rfl) (passES (takes_of rfl rfl rfl rfl)) (ja_cons (pp_v (pv 0)) (ja_cons (pp_add (pp_v (pv 1)) pp_int) (ja_cons (pp_v (pv 4)) (ja_cons (pp_v (pv 2)) ja_nil)))))) (jg_tup rfl (jgs_cons (jg_name (pg_name (i := 5) sc_read_entry.nd rfl (Or.inl rfl))) (jgs_cons (jg_name (pg_name (i := 6) sc_read_entry.nd rfl (Or.inl rfl))) jgs_nil)))) (jss_cons (js_expr (pp_call (pe_fS (ok_check_position W) (hr.mono (by decide)) (by rfl) (passES (takes_of rfl rfl rfl rfl)) (ja_cons (pp_v (pv 5)) (ja_cons (pp_v (pv 1)) ja_nil))))) (jss_one (js_ret (pp_tup (ja_cons (pp_add (pp_and_ (pp_v (pv 3)) pp_int) pp_int) (ja_cons (pp_call (pe_fS (ok_name_of W) (hr.mono (by decide)) (by rfl) pass0S (ja_cons (pp_v (pv 4)) ja_nil))) (ja_cons (pp_v (pv 5)) (ja_cons (pp_v (pv 6)) ja_nil)))))))))))), body_of h fun γ Kp Ko Ep h => ?_⟩
    obtain ⟨b, i, l, rfl, hz, hi, q⟩ := h
    obtain ⟨g, hg⟩ : ∃ g, (bi b)[i]? = some g := ⟨_, List.getElem?_eq_getElem (by rw [bi_len]; exact hi)⟩
    obtain ⟨_, _, g0, g1⟩ := bi_at hg
    unfold entry at q
    rw [hg] at q
    dsimp only at q
    refine ⟨hz, i, g, rfl, hg, ?_⟩
    refine ite_b (fun h => ?_) (fun h => ?_)
    · rw [if_pos h] at q
      exact q
    rw [if_neg h] at q
    have ef : (g - 128) / 2 ^ (3 : Int).toNat = (((g.toNat - 128) / 8 : Nat) : Int) := by
      show (g - 128) / 8 = _
      omega
    refine ⟨(by decide : (0 : Int) ≤ 3), b, i + 1, (g.toNat - 128) / 8, l, ?_, hz, hi, by omega, q.bind.mk (fun p ep q => ?_) fun j w z => z⟩
    · show [Sl.sh (.byt b), Sl.sh (.int ((i : Int) + 1)), Sl.sh (.int ((g - 128) / 2 ^ (3 : Int).toNat)), Sl.sh (.int l)] = _
      rw [ef]
      rfl
    refine ⟨rfl, p.1, i, rfl, q.bind.mk (fun _ _ q => ?_) fun j w z => z⟩
    refine ⟨(g.toNat - 128) / 8, ?_, by omega, by show 4 ≤ sizeLine; decide, ?_⟩
    · show [Sl.sh (.int ((g - 128) / 2 ^ (3 : Int).toNat))] = _
      rw [ef]
    have x1 : Builtin.bitAnd g 7 + 1 = ((g.toNat % 8 + 1 : Nat) : Int) := by
      rw [bitAnd_m3]
      omega
    rw [x1]
    exact q
def entP (e : Nat × Nat × Ent) : PV := .tup [.int (e.1 : Int), .int (e.2.1 : Int), .int (e.2.2.steps : Int), .str (formName e.2.2.form), spv e.2.2.span]
def q_read_entries : PSp := fun γ K _ E => ∃ (b : Array UInt8) (l : Int), γ = [.sh (.byt b), .sh (.int l)] ∧ b.size ≤ 16777216 ∧ OutP (Lay.entries (bi b) l) (fun es => K (.lst (es.map entP)) γ) E γ
theorem entK_end {bs : List Int} {k i st : Nat} {l : Int} (h : ¬ i < bs.length) : entriesK bs k i st l = .ok [] := by
  cases k with
  | zero => rfl
  | succ k =>
    unfold entriesK
    rw [if_neg h]
theorem entK_next {bs : List Int} {k i st : Nat} {l : Int} (h : i < bs.length) : entriesK bs (k + 1) i st l = (entry bs i l).bind fun p => (entriesK bs k p.2 (st + p.1.steps) (lineAfter p.1.span l)).bind fun r => .ok ((i, st, p.1) :: r) := by
  conv => lhs; unfold entriesK
  rw [if_pos h]
def entF (acc : List (Nat × Nat × Ent)) (r : List (Nat × Nat × Ent)) : Res (List (Nat × Nat × Ent)) := .ok (acc ++ r)
theorem ok_read_entries {P : Program} {w : World} {K : PySem.W.Frag} {mg : Str → Option Value} {base : Heap} (W : Wd K mg) : FOk P w K mg base (L2.CX P w) 9 "read_entries" ["data", "first_line"] (spOf K q_read_entries) :=
  fok (F_read_entries W) (g_read_entries W) (fun _ _ _ _ _ _ us hl => match us, hl with | [_, _], _ => rfl) fun fd F => by
  refine F.ok sc_read_entries (sp_len (n := 2) fun γ Kp Ko Ep h => ?_) (fun cdv A outer s H vs Q E hr h => ?_)
  · obtain ⟨b, l, rfl, _⟩ := h
    rfl
  · refine ⟨_, (jss_cons (js_setO (ps_set (i := 2) sc_read_entries.nd rfl (Or.inl rfl) (po_lst ja_nil))) (jss_cons (js_set (ps_set (i := 3) sc_read_entries.nd rfl (Or.inl rfl) pp_int)) (jss_cons (js_set (ps_set (i := 4) sc_read_entries.nd rfl (Or.inl rfl) pp_int)) (jss_cons (js_set (ps_set (i := 5) sc_read_entries.nd rfl (Or.inl rfl) (pp_v (pv 1)))) (jss_cons (js_while (passes_of rfl) (pb_cmp op_lt bin_lt (pp_v (pv 3)) (pp_cb (pe_callB call_len (by rfl) (g_len W) (by decide +kernel) (ja_cons (pp_v (pv 0)) ja_nil)) cb_len)) (jss_cons (js_asg (pp_call (pe_fS (ok_read_entry W) (hr.mono (by decide)) (by rfl) (passES (takes_of rfl rfl rfl rfl)) (ja_cons (pp_v (pv 0)) (ja_cons (pp_v (pv 3)) (ja_cons (pp_v (pv 5)) ja_nil))))) (jg_tup rfl (jgs_cons (jg_name (pg_name (i := 6) sc_read_entries.nd rfl (Or.inl rfl))) (jgs_cons (jg_name (pg_name (i := 7) sc_read_entries.nd rfl (Or.inl rfl))) (jgs_cons (jg_name (pg_name (i := 8) sc_read_entries.nd rfl (Or.inl rfl))) (jgs_cons (jg_name (pg_name (i := 9) sc_read_entries.nd rfl (Or.inl rfl))) jgs_nil)))))) (jss_cons (js_app (ps_expr (pe_bm PySem.F.plainAttrs_list PySem.F.slot_list_append PySem.F.type_list_append mt_append (pv 2) (ja_cons (pp_tup (ja_cons (pp_v (pv 3)) (ja_cons (pp_v (pv 4)) (ja_cons (pp_v (pv 6)) (ja_cons (pp_v (pv 7)) (ja_cons (pp_v (pv 8)) ja_nil)))))) ja_nil)))) (jss_cons (js_set (ps_set (i := 3) sc_read_entries.nd rfl (Or.inl rfl) (pp_v (pv 9)))) (jss_cons (js_aug (ps_aug (i := 4) sc_read_entries.nd rfl (Or.inl rfl) (pp_v (pv 6)) ip_add)) (jss_one (js_set (ps_set (i := 5) sc_read_entries.nd rfl (Or.inl rfl) (pp_call (pe_fS (ok_line_behind W) (hr.mono (by decide)) (by rfl) pass0S (ja_cons (pp_v (pv 8)) (ja_cons (pp_v (pv 5)) ja_nil)))))))))))) (jss_one (js_ret (pp_fz (pv 2))))))))), body_of h fun γ Kp Ko Ep h => ?_⟩
    obtain ⟨b, l, rfl, hz, q⟩ := h
    refine ⟨by show 0 ≤ sizeLine; decide, fun p => ?_⟩
    refine ⟨fun m γ => ∃ (i st : Nat) (ln : Int) (acc : List (Nat × Nat × Ent)) (x6 x7 x8 x9 : Sl), b.size ≤ m + i ∧ i ≤ b.size ∧ acc.length ≤ i ∧ γ = [.sh (.byt b), .sh (.int l), .ow p (.lst (acc.map entP)), .sh (.int (i : Int)), .sh (.int (st : Int)), .sh (.int ln), x6, x7, x8, x9] ∧ Lay.entries (bi b) l = (entriesK (bi b) m i st ln).bind (entF acc), ⟨b.size, ?_⟩, ?_⟩
    · refine ⟨0, 0, l, [], .no, .no, .no, .no, by omega, by omega, Nat.le_refl _, rfl, ?_⟩
      unfold Lay.entries
      rw [bi_len, res_bind_id]
      intro a
      rfl
    · rintro m γ ⟨i, st, ln, acc, x6, x7, x8, x9, hm, hi, hacc, rfl, en⟩
      refine ⟨by rw [sizeLine_eq]; exact hz, ?_⟩
      refine ite_b (fun hlt => ?_) (fun hlt => ?_)
      · have hlt2 : i < b.size := by omega
        obtain ⟨k, rfl⟩ : ∃ k, m = k + 1 := ⟨m - 1, by omega⟩
        rw [entK_next (by rw [bi_len]; exact hlt2), res_assoc] at en
        rw [en] at q
        refine ⟨b, i, ln, rfl, hz, hlt2, q.bind.mk (fun pp ep q2 => ?_) fun j w z => z⟩
        have kl := entry_lt ep
        rw [bi_len] at kl
        refine ⟨rfl, by show 5 ≤ sizeLine; decide, ?_, pp.1.span, ln, rfl, ?_⟩
        · rw [List.length_map, sizeLine_eq]
          omega
        refine ⟨k, by omega, pp.2, st + pp.1.steps, lineAfter pp.1.span ln, acc ++ [(i, st, pp.1)], .sh (.int (pp.1.steps : Int)), .sh (.str (formName pp.1.form)), .sh (spv pp.1.span), .sh (.int (pp.2 : Int)), by omega, kl.2, ?_, ?_, ?_⟩
        · rw [List.length_append, List.length_singleton]
          omega
        · rw [List.map_append]
          rfl
        · rw [en, ep]
          show ((entriesK (bi b) k pp.2 (st + pp.1.steps) (lineAfter pp.1.span ln)).bind fun r => Res.ok ((i, st, pp.1) :: r)).bind (entF acc) = _
          rw [res_assoc]
          congr 1
          funext r
          show Res.ok (acc ++ (i, st, pp.1) :: r) = Res.ok (acc ++ [(i, st, pp.1)] ++ r)
          rw [List.append_assoc]
          rfl
      · rw [entK_end (by rw [bi_len]; omega)] at en
        rw [en] at q
        have q : Kp (.lst ((acc ++ []).map entP)) [.sh (.byt b), .sh (.int l)] := q
        rw [List.append_nil] at q
        exact q
end K33

namespace K33
open PySem PySem.Spec PyProof.Rows L2 Lay Pu
def bytesP : PV → Bool
  | .byt _ => true
  | .lst xs => xs.all fun x => inRP x 0 255
  | .tup xs => xs.all fun x => inRP x 0 255
  | _ => false
def itemsP (x : PV) : Prop := ∀ xs, x = .lst xs ∨ x = .tup xs → xs.length < 16777216 ∧ ∀ y ∈ xs, ∃ m, y.tyN = some m
def q_is_byte_data : PSp := fun γ K _ _ => ∃ (x : PV) (n : String), γ = [.sh x] ∧ x.tyN = some n ∧ itemsP x ∧ K (.bl (bytesP x)) γ
theorem take_snoc {α : Type} {xs : List α} {j : Nat} {x : α} (h : xs[j]? = some x) : xs.take (j + 1) = xs.take j ++ [x] := by
  rw [List.take_succ, h]
  rfl
theorem all_map {α : Type} {xs : List α} {f : α → Bool} : (xs.map f).all id = xs.all f := by
  rw [List.all_map]
  rfl
theorem ok_is_byte_data {P : Program} {w : World} {K : PySem.W.Frag} {mg : Str → Option Value} {base : Heap} (W : Wd K mg) : FOk P w K mg base CX0 3 "is_byte_data" ["thing"] (spOf K q_is_byte_data) :=
  fok (F_is_byte_data W) (g_is_byte_data W) (fun _ _ _ _ _ _ us hl => match us, hl with | [_], _ => rfl) fun fd F => by
  refine F.ok sc_is_byte_data (sp_len (n := 1) fun γ Kp Ko Ep h => ?_) (fun cdv A outer s H vs Q E hr h => ?_)
  · obtain ⟨x, n, rfl, _⟩ := h
    rfl
  · refine ⟨_, PSs.nox (jss_cons (js_if (pb_tru (pp_cb (pe_callB call_isiA (by rfl) (g_isinstance W) (by decide +kernel) (ja_cons (pp_v (pv 0)) (ja_cons (pp_gty (pe_bltn (v := .ty "bytes") rfl (g_bytes W) (by decide +kernel) rfl)) ja_nil))) cb_isi)) (jss_one (js_ret pp_bl)) jss_nil) (jss_cons (js_if (pb_not (pb_tru (pp_cb (pe_callB call_isiA (by rfl) (g_isinstance W) (by decide +kernel) (ja_cons (pp_v (pv 0)) (ja_cons (pp_tup (ja_cons (pp_gty (pe_bltn (v := .ty "list") rfl (g_list W) (by decide +kernel) rfl)) (ja_cons (pp_gty (pe_bltn (v := .ty "tuple") rfl (g_tuple W) (by decide +kernel) rfl)) ja_nil))) ja_nil))) cb_isi))) (jss_one (js_ret pp_bl)) jss_nil) (jss_one (js_ret (pp_cb (pe_callB (cr_all rfl) (by rfl) (g_all W) (by decide +kernel) (ja_cons (pp_sh (po_lc (pe_lc (own := [("item", 1)]) rfl sc_is_byte_data.nd (ji_seq (pp_v (pv 0))) (blkOk_by (N := ["thing", "item"]) (sc := defScope s_is_byte_data) (by decide +kernel)) (fun _ _ _ _ _ => (jgv_name (vs := [1]) (pg_name (i := 1) sc_is_byte_data.nd rfl (Or.inl rfl)) (by decide))) (fun _ _ _ _ _ => ts_nil) (fun _ _ _ _ _ => (pp_call (pe_fS (ok_is_int_from W) (hr.mono (by decide)) (by rfl) pass0S (ja_cons (pp_v (pv 1)) (ja_cons pp_int (ja_cons pp_int ja_nil))))))))) ja_nil)) cb_all))))), body_of h fun γ Kp Ko Ep h => ?_⟩
    obtain ⟨x, n, rfl, hn, hit, k⟩ := h
    cases x with
    | lst xs =>
      obtain ⟨hlen, hel⟩ := hit xs (.inl rfl)
      refine ⟨rfl, "list", rfl, ?_⟩
      refine ⟨by show 2 ≤ sizeLine; decide, ["list", "tuple"], "list", rfl, by simp [isiOk], rfl, ?_⟩
      refine ⟨fun i acc γ => acc = (xs.take i).map (fun x => PV.bl (inRP x 0 255)) ∧ γ = [.sh (.lst xs), .no], ⟨by simp, rfl⟩, ?_, ?_⟩
      · rintro i x acc γ hi hx ⟨rfl, rfl⟩
        have hx : xs[i]? = some x := hx
        have hi : i < xs.length := hi
        obtain ⟨m, hm⟩ := hel x (get_mem' hx)
        refine ⟨x, m, 0, 255, rfl, hm, ?_, ?_, rfl⟩
        · rw [List.length_map, List.length_take, sizeLine_eq]
          omega
        · rw [take_snoc hx, List.map_append]
          rfl
      · rintro acc γ ⟨rfl, rfl⟩ _
        refine ⟨xs.map fun x => inRP x 0 255, ?_, ?_⟩
        · show (xs.take xs.length).map _ = _
          rw [List.take_length, List.map_map]
          rfl
        · rw [all_map]
          exact k
    | tup xs =>
      obtain ⟨hlen, hel⟩ := hit xs (.inr rfl)
      refine ⟨rfl, "tuple", rfl, ?_⟩
      refine ⟨by show 2 ≤ sizeLine; decide, ["list", "tuple"], "tuple", rfl, by simp [isiOk], rfl, ?_⟩
      refine ⟨fun i acc γ => acc = (xs.take i).map (fun x => PV.bl (inRP x 0 255)) ∧ γ = [.sh (.tup xs), .no], ⟨by simp, rfl⟩, ?_, ?_⟩
      · rintro i x acc γ hi hx ⟨rfl, rfl⟩
        have hx : xs[i]? = some x := hx
        have hi : i < xs.length := hi
        obtain ⟨m, hm⟩ := hel x (get_mem' hx)
        refine ⟨x, m, 0, 255, rfl, hm, ?_, ?_, rfl⟩
        · rw [List.length_map, List.length_take, sizeLine_eq]
          omega
        · rw [take_snoc hx, List.map_append]
          rfl
      · rintro acc γ ⟨rfl, rfl⟩ _
        refine ⟨xs.map fun x => inRP x 0 255, ?_, ?_⟩
        · show (xs.take xs.length).map _ = _
          rw [List.take_length, List.map_map]
          rfl
        · rw [all_map]
          exact k
    | byt b => exact ⟨rfl, _, rfl, k⟩
    | _ => first
      | (cases hn; exact ⟨rfl, _, rfl, ⟨by show 2 ≤ sizeLine; decide, ["list", "tuple"], _, rfl, by simp [isiOk], rfl, k⟩⟩)
      | cases hn
def q_check_byte_data : PSp := fun γ K _ E => ∃ (x : PV) (n : String), γ = [.sh x] ∧ x.tyN = some n ∧ itemsP x ∧ (bytesP x = true → K .non γ) ∧ (bytesP x = false → E "BadTable" [("why", .str "data"), ("at", .int (-1))] γ)
def q_check_source_line : PSp := fun γ K _ E => ∃ (x : PV) (n : String), γ = [.sh x] ∧ x.tyN = some n ∧ (inRP x 1 2147483647 = true → K .non γ) ∧ (inRP x 1 2147483647 = false → E "BadLine" [("line", x)] γ)
def q_check_step : PSp := fun γ K _ E => ∃ (x : PV) (n : String) (lo hi : Int), γ = [.sh x, .sh (.int lo), .sh (.int hi)] ∧ x.tyN = some n ∧ (inRP x lo hi = true → K .non γ) ∧ (inRP x lo hi = false → E "BadStep" [("step", x)] γ)
theorem ok_check_byte_data {P : Program} {w : World} {K : PySem.W.Frag} {mg : Str → Option Value} {base : Heap} (W : Wd K mg) : FOk P w K mg base (L2.CX P w) 4 "check_byte_data" ["data"] (spOf K q_check_byte_data) :=
  fok (F_check_byte_data W) (g_check_byte_data W) (fun _ _ _ _ _ _ us hl => match us, hl with | [_], _ => rfl) fun fd F => by
  refine F.ok sc_check_byte_data (sp_len (n := 1) fun γ Kp Ko Ep h => ?_) (fun cdv A outer s H vs Q E hr h => ?_)
  · obtain ⟨x, n, rfl, _⟩ := h
    rfl
  · refine ⟨_, (jss_one (js_if (pb_not (pb_tru (pp_call (pe_fS (ok_is_byte_data W) (hr.mono (by decide)) (by rfl) pass0S (ja_cons (pp_v (pv 0)) ja_nil))))) (jss_one (js_raise2 rfl (takes_of rfl rfl rfl rfl) (pmk2 (x_BadTable W) (i_BadTable W) (hr.mono (by decide)) (by rfl) mono_tA (ja_cons (pp_neg pp_int) (ja_cons pp_str ja_nil))))) jss_nil)), body_of h fun γ Kp Ko Ep h => ?_⟩
    obtain ⟨x, n, rfl, hn, hit, k, ke⟩ := h
    refine ⟨x, n, rfl, hn, hit, ?_⟩
    exact ite_n' (bytesP x) (fun h => k h) (fun h => ke h)
theorem ok_check_source_line {P : Program} {w : World} {K : PySem.W.Frag} {mg : Str → Option Value} {base : Heap} (W : Wd K mg) : FOk P w K mg base (L2.CX P w) 3 "check_source_line" ["line"] (spOf K q_check_source_line) :=
  fok (F_check_source_line W) (g_check_source_line W) (fun _ _ _ _ _ _ us hl => match us, hl with | [_], _ => rfl) fun fd F => by
  refine F.ok sc_check_source_line (sp_len (n := 1) fun γ Kp Ko Ep h => ?_) (fun cdv A outer s H vs Q E hr h => ?_)
  · obtain ⟨x, n, rfl, _⟩ := h
    rfl
  · obtain ⟨tk_MOST, hg_MOST⟩ := g_MOST W
    refine ⟨_, (jss_one (js_if (pb_not (pb_tru (pp_call (pe_fS (ok_is_int_from W) (hr.mono (by decide)) (by rfl) pass0S (ja_cons (pp_v (pv 0)) (ja_cons pp_int (ja_cons (pp_gi (pe_glob (v := .int 2147483647) rfl hg_MOST ⟨_, rfl⟩)) ja_nil))))))) (jss_one (js_raise1 rfl (takes_of rfl rfl rfl rfl) (pmk1 (x_BadLine W) (i_BadLine W) (hr.mono (by decide)) (by rfl) mono_tA (ja_cons (pp_v (pv 0)) ja_nil)))) jss_nil)), body_of h fun γ Kp Ko Ep h => ?_⟩
    obtain ⟨x, n, rfl, hn, k, ke⟩ := h
    refine ⟨x, n, 1, 2147483647, rfl, hn, ?_⟩
    exact ite_n' (inRP x 1 2147483647) (fun h => k h) (fun h => ke h)
def q_spans_of : PSp := fun γ K _ _ => ∃ (es : List (Nat × Nat × Ent)), γ = [.sh (.lst (es.map entP))] ∧ (spansOf es).length ≤ 16777216 ∧ K (.lst ((spansOf es).map spv)) γ
theorem spansOf_snoc {es : List (Nat × Nat × Ent)} {j : Nat} {e : Nat × Nat × Ent} (h : es[j]? = some e) : spansOf (es.take (j + 1)) = spansOf (es.take j) ++ List.replicate e.2.2.steps e.2.2.span := by
  unfold spansOf
  rw [take_snoc h, List.flatMap_append]
  simp
theorem spansOf_le {es : List (Nat × Nat × Ent)} (j : Nat) : (spansOf (es.take j)).length ≤ (spansOf es).length := by
  have e : spansOf es = spansOf (es.take j) ++ spansOf (es.drop j) := by
    unfold spansOf
    rw [← List.flatMap_append, List.take_append_drop]
  rw [e, List.length_append]
  omega
theorem rep_flat (x : PV) (n : Nat) : (List.replicate n [x]).flatten = List.replicate n x := by
  induction n with
  | zero => rfl
  | succ n ih =>
    rw [List.replicate_succ, List.flatten_cons, ih, List.replicate_succ]
    rfl
theorem map_get {α β : Type} {f : α → β} {xs : List α} {i : Nat} {y : β} (h : (xs.map f)[i]? = some y) : ∃ x, xs[i]? = some x ∧ y = f x := by
  rw [List.getElem?_map] at h
  cases e : xs[i]? with
  | none => rw [e] at h; cases h
  | some x => rw [e] at h; cases h; exact ⟨x, rfl, rfl⟩
theorem ok_spans_of {P : Program} {w : World} {K : PySem.W.Frag} {mg : Str → Option Value} {base : Heap} (W : Wd K mg) : FOk P w K mg base CX0 1 "_spans_of" ["entries"] (spOf K q_spans_of) :=
  fok (F_spans_of W) (g_spans_of W) (fun _ _ _ _ _ _ us hl => match us, hl with | [_], _ => rfl) fun fd F => by
  refine F.ok sc_spans_of (sp_len (n := 1) fun γ Kp Ko Ep h => ?_) (fun cdv A outer s H vs Q E hr h => ?_)
  · obtain ⟨es, rfl, _⟩ := h
    rfl
  · refine ⟨_, PSs.nox (jss_cons (js_setO (ps_set (i := 1) sc_spans_of.nd rfl (Or.inl rfl) (po_lst ja_nil))) (jss_cons (js_for PassesOwn.never rfl (ji_seq (pp_v (pv 0))) (jg_tup rfl (jgs_cons (jg_name (pg_name (i := 2) sc_spans_of.nd rfl (Or.inl rfl))) (jgs_cons (jg_name (pg_name (i := 2) sc_spans_of.nd rfl (Or.inl rfl))) (jgs_cons (jg_name (pg_name (i := 3) sc_spans_of.nd rfl (Or.inl rfl))) (jgs_cons (jg_name (pg_name (i := 2) sc_spans_of.nd rfl (Or.inl rfl))) (jgs_cons (jg_name (pg_name (i := 4) sc_spans_of.nd rfl (Or.inl rfl))) jgs_nil)))))) (jss_one (js_ext (ps_expr (pe_bm PySem.F.plainAttrs_list PySem.F.slot_list_extend PySem.F.type_list_extend mt_extend (pv 1) (ja_cons (pp_mul (pp_sh (po_lst (ja_cons (pp_v (pv 4)) ja_nil))) (pp_v (pv 3))) ja_nil)))))) (jss_one (js_ret (pp_fz (pv 1)))))), body_of h fun γ Kp Ko Ep h => ?_⟩
    obtain ⟨es, rfl, hlen, k⟩ := h
    refine ⟨by show 0 ≤ sizeLine; decide, fun p => ?_⟩
    refine ⟨fun i γ => ∃ (x2 x3 x4 : Sl), γ = [.sh (.lst (es.map entP)), .ow p (.lst ((spansOf (es.take i)).map spv)), x2, x3, x4], ⟨.no, .no, .no, rfl⟩, ?_, ?_⟩
    · rintro i x γ hi hx ⟨x2, x3, x4, rfl⟩
      obtain ⟨e, ge, rfl⟩ := map_get (show (es.map entP)[i]? = some x from hx)
      have hs1 := spansOf_snoc ge
      have hs2 := spansOf_le (es := es) (i + 1)
      rw [hs1, List.length_append, List.length_replicate] at hs2
      refine ⟨rfl, by show 1 ≤ sizeLine; decide, fun _ => ⟨⟨by omega, by omega⟩, ?_, ?_, ?_⟩⟩
      · rw [sizeLine_eq]
        show 1 * _ ≤ _
        omega
      · show ((spansOf (es.take i)).map spv).length + (List.replicate ((e.2.2.steps : Int)).toNat [spv e.2.2.span]).flatten.length ≤ sizeLine
        rw [rep_flat, List.length_map, List.length_replicate, sizeLine_eq]
        omega
      · refine ⟨.sh (.str (formName e.2.2.form)), .sh (.int (e.2.2.steps : Int)), .sh (spv e.2.2.span), ?_⟩
        · show [_, Sl.ow p (.lst ((spansOf (es.take i)).map spv ++ (List.replicate ((e.2.2.steps : Int)).toNat [spv e.2.2.span]).flatten)), _, _, _] = _
          rw [rep_flat, hs1, List.map_append, List.map_replicate]
          rfl
    · rintro γ ⟨x2, x3, x4, rfl⟩
      have e : es.take (srcOf (es.map entP)).n = es := by
        show es.take (es.map entP).length = es
        rw [List.length_map, List.take_length]
      rw [e]
      exact k
end K33

namespace K33
open PySem PySem.Spec PyProof.Rows L2 Lay Pu
/-- the table of these bytes and this first line, whose entries are es -/
def tabF (b : Array UInt8) (l : Int) (es : List (Nat × Nat × Ent)) : List (Str × PV) := [("data", .byt b), ("first_line", .int l), ("_entries", .lst (es.map entP)), ("_spans", .lst ((spansOf es).map spv)), ("step_count", .int ((spansOf es).length : Int))]
def tabP (b : Array UInt8) (l : Int) (es : List (Nat × Nat × Ent)) : PV := .obj "Table" (tabF b l es)
/-- the bytes that byte data stands for -/
def DataP (x : PV) (b : Array UInt8) : Prop := x = .byt b ∨ ∃ ns : List Int, (x = .lst (ns.map .int) ∨ x = .tup (ns.map .int)) ∧ (∀ n ∈ ns, 0 ≤ n ∧ n < 256) ∧ b = byteArr ns
def q_Table_init : PSp := fun γ K _ E => ∃ (a : Addr) (dv lv : PV) (n m : String), γ = [.ow a (.ins "Table" []), .sh dv, .sh lv] ∧ dv.tyN = some n ∧ itemsP dv ∧ lv.tyN = some m ∧
  (bytesP dv = false → E "BadTable" [("why", .str "data"), ("at", .int (-1))] γ) ∧ (bytesP dv = true → inRP lv 1 2147483647 = false → E "BadLine" [("line", lv)] γ) ∧
  (bytesP dv = true → ∀ l : Int, lv = .int l → inRP lv 1 2147483647 = true → ∃ b, DataP dv b ∧ b.size ≤ 2000000 ∧ OutP (Lay.entries (bi b) l) (fun es => (spansOf es).length ≤ 16777216 ∧ K .non [.ow a (.ins "Table" (tabF b l es)), .sh dv, .sh lv]) E γ)
theorem ok_Table_init {P : Program} {w : World} {K : PySem.W.Frag} {mg : Str → Option Value} {base : Heap} (W : Wd K mg) : MOk P w K mg base (L2.CX P w) 10 "Table" "__init__" ["self", "data", "first_line"] (spOf K q_Table_init) := by
  obtain ⟨fd, F⟩ := F_Table_init W
  refine ⟨fd, ?_, F.bindsN fun _ _ _ _ _ _ us hl => match us, hl with | [_, _, _], _ => rfl⟩
  refine F.ok sc_Table_init (sp_len (n := 3) fun γ Kp Ko Ep h => ?_) (fun cdv A outer s H vs Q E hr h => ?_)
  · obtain ⟨a, dv, lv, n, m, rfl, _⟩ := h
    rfl
  · refine ⟨_, (jss_cons (js_expr (pp_call (pe_fS (ok_check_byte_data W) (hr.mono (by decide)) (by rfl) (passES (takes_of rfl rfl rfl rfl)) (ja_cons (pp_v (pv 1)) ja_nil)))) (jss_cons (js_expr (pp_call (pe_fS (ok_check_source_line W) (hr.mono (by decide)) (by rfl) (passES (takes_of rfl rfl rfl rfl)) (ja_cons (pp_v (pv 2)) ja_nil)))) (jss_mid (js_set (ps_set (i := 3) sc_Table_init.nd rfl (Or.inl rfl) (pp_cb (pe_callTy (call_bytA rfl) (by rfl) (g_bytes W) (by decide +kernel) (ja_cons (pp_v (pv 1)) ja_nil)) cb_bytes))) (jss_cons (js_set (ps_set (i := 4) sc_Table_init.nd rfl (Or.inl rfl) (pp_call (pe_fS (ok_read_entries W) (hr.mono (by decide)) (by rfl) (passES (takes_of rfl rfl rfl rfl)) (ja_cons (pp_v (pv 3)) (ja_cons (pp_v (pv 2)) ja_nil)))))) (jss_cons (js_fldO (c_Table W) (no_data W) (ps_fld (pv 0) (pp_v (pv 3)) rfl)) (jss_cons (js_fldO (c_Table W) (no_first_line W) (ps_fld (pv 0) (pp_v (pv 2)) rfl)) (jss_cons (js_fldO (c_Table W) (no__entries W) (ps_fld (pv 0) (pp_v (pv 4)) rfl)) (jss_cons (js_fldO (c_Table W) (no__spans W) (ps_fld (pv 0) (pp_call (pe_fS (ok_spans_of W) (hr.mono (by decide)) (by rfl) pass0S (ja_cons (pp_v (pv 4)) ja_nil))) rfl)) (jss_one (js_fldO (c_Table W) (no_step_count W) (ps_fld (pv 0) (pp_cb (pe_callB call_len (by rfl) (g_len W) (by decide +kernel) (ja_cons (pp_fldO (c_Table W) (no__spans W) (pe_fld (pv 0) rfl)) ja_nil)) cb_len) rfl))))))))))), body_of h fun γ Kp Ko Ep h => ?_⟩
    obtain ⟨a, dv, lv, n, m, rfl, hn, hit, hm, e1, e2, q⟩ := h
    refine ⟨dv, n, rfl, hn, hit, fun hb => ?_, fun hb => ⟨rfl, e1 hb⟩⟩
    refine ⟨lv, m, rfl, hm, fun hi => ?_, fun hi => ⟨rfl, e2 hb hi⟩⟩
    obtain ⟨l, rfl, _, _⟩ := inRP_int hi
    obtain ⟨b, hd, hz, q⟩ := q hb l rfl hi
    refine ⟨fun γ => γ = [.ow a (.ins "Table" []), .sh dv, .sh (.int l), .sh (.byt b), .no], ?_, ?_⟩
    · rcases hd with rfl | ⟨ns, rfl | rfl, h2, rfl⟩
      · rfl
      · exact ⟨ns, rfl, h2, rfl⟩
      · exact ⟨ns, rfl, h2, rfl⟩
    rintro γ rfl
    refine ⟨b, l, rfl, by omega, q.mk (fun es ee hq => ?_) fun j w z => ⟨rfl, z⟩⟩
    obtain ⟨hlen, hq⟩ := hq
    refine ⟨rfl, by decide, rfl, by show 1 < 1000; decide, rfl, by show 2 < 1000; decide, es, rfl, hlen, rfl, by show 3 < 1000; decide, ?_⟩
    refine ⟨rfl, _, (by kernel_rfl : List.lookup ("_spans" : Str) (Pu.putP "_spans" (.lst ((spansOf es).map spv)) (Pu.putP "_entries" (.lst (es.map entP)) (Pu.putP "first_line" (.int l) (Pu.putP "data" (.byt b) [])))) = some (.lst ((spansOf es).map spv))), rfl, by show 4 < 1000; decide, ?_⟩
    have ef : ∀ k : Int, Pu.putP "step_count" (.int k) (Pu.putP "_spans" (.lst ((spansOf es).map spv)) (Pu.putP "_entries" (.lst (es.map entP)) (Pu.putP "first_line" (.int l) (Pu.putP "data" (.byt b) [])))) = ([("data", .byt b), ("first_line", .int l), ("_entries", .lst (es.map entP)), ("_spans", .lst ((spansOf es).map spv)), ("step_count", .int k)] : List (Str × PV)) := fun k => by kernel_rfl
    show bk _ [Sl.ow a (.ins "Table" (Pu.putP "step_count" (.int (((spansOf es).map spv).length : Int)) _)), _, _, _, _] _
    rw [ef, List.length_map]
    exact ⟨rfl, hq⟩
def q_Table_span_at : PSp := fun γ K _ E => ∃ (b : Array UInt8) (l : Int) (es : List (Nat × Nat × Ent)) (v : PV) (n : String), γ = [.sh (tabP b l es), .sh v] ∧ v.tyN = some n ∧
  (∀ (i : Nat) (s : Span), v = .int (i : Int) → (spansOf es)[i]? = some s → K (spv s) γ) ∧ ((¬ ∃ i : Nat, v = .int (i : Int) ∧ i < (spansOf es).length) → E "BadStep" [("step", v)] γ)
def q_Table_spans : PSp := fun γ _ Ko _ => ∃ (b : Array UInt8) (l : Int) (es : List (Nat × Nat × Ent)), γ = [.sh (tabP b l es)] ∧ ∀ a, Ko a (.lst ((spansOf es).map spv)) γ
def q_Table_entries : PSp := fun γ _ Ko _ => ∃ (b : Array UInt8) (l : Int) (es : List (Nat × Nat × Ent)), γ = [.sh (tabP b l es)] ∧ ∀ a, Ko a (.lst (es.map entP)) γ
theorem tab_count (b : Array UInt8) (l : Int) (es : List (Nat × Nat × Ent)) : List.lookup ("step_count" : Str) (tabF b l es) = some (.int ((spansOf es).length : Int)) := by kernel_rfl
theorem tab_spans (b : Array UInt8) (l : Int) (es : List (Nat × Nat × Ent)) : List.lookup ("_spans" : Str) (tabF b l es) = some (.lst ((spansOf es).map spv)) := by kernel_rfl
theorem tab_entries (b : Array UInt8) (l : Int) (es : List (Nat × Nat × Ent)) : List.lookup ("_entries" : Str) (tabF b l es) = some (.lst (es.map entP)) := by kernel_rfl
theorem tab_data (b : Array UInt8) (l : Int) (es : List (Nat × Nat × Ent)) : List.lookup ("data" : Str) (tabF b l es) = some (.byt b) := by kernel_rfl
theorem tab_line (b : Array UInt8) (l : Int) (es : List (Nat × Nat × Ent)) : List.lookup ("first_line" : Str) (tabF b l es) = some (.int l) := by kernel_rfl
theorem ok_Table_spans {P : Program} {w : World} {K : PySem.W.Frag} {mg : Str → Option Value} {base : Heap} (W : Wd K mg) : MOk P w K mg base CX0 1 "Table" "spans" ["self"] (spOf K q_Table_spans) := by
  obtain ⟨fd, F⟩ := F_Table_spans W
  refine ⟨fd, ?_, F.bindsN fun _ _ _ _ _ _ us hl => match us, hl with | [_], _ => rfl⟩
  refine F.ok sc_Table_spans (sp_len (n := 1) fun γ Kp Ko Ep h => ?_) (fun cdv A outer s H vs Q E hr h => ?_)
  · obtain ⟨b, l, es, rfl, _⟩ := h
    rfl
  · refine ⟨_, PSs.nox (jss_one (js_retO (po_cb (pe_callTy (call_listA rfl) (by rfl) (g_list W) (by decide +kernel) (ja_cons (pp_fld (c_Table W) (no__spans W) (pe_fld (pp_v (pv 0)) rfl)) ja_nil)) cb_list))), body_of h fun γ Kp Ko Ep h => ?_⟩
    obtain ⟨b, l, es, rfl, q⟩ := h
    exact ⟨rfl, _, tab_spans b l es, fun a => q a⟩
theorem ok_Table_entries {P : Program} {w : World} {K : PySem.W.Frag} {mg : Str → Option Value} {base : Heap} (W : Wd K mg) : MOk P w K mg base CX0 1 "Table" "entries" ["self"] (spOf K q_Table_entries) := by
  obtain ⟨fd, F⟩ := F_Table_entries W
  refine ⟨fd, ?_, F.bindsN fun _ _ _ _ _ _ us hl => match us, hl with | [_], _ => rfl⟩
  refine F.ok sc_Table_entries (sp_len (n := 1) fun γ Kp Ko Ep h => ?_) (fun cdv A outer s H vs Q E hr h => ?_)
  · obtain ⟨b, l, es, rfl, _⟩ := h
    rfl
  · refine ⟨_, PSs.nox (jss_one (js_retO (po_cb (pe_callTy (call_listA rfl) (by rfl) (g_list W) (by decide +kernel) (ja_cons (pp_fld (c_Table W) (no__entries W) (pe_fld (pp_v (pv 0)) rfl)) ja_nil)) cb_list))), body_of h fun γ Kp Ko Ep h => ?_⟩
    obtain ⟨b, l, es, rfl, q⟩ := h
    exact ⟨rfl, _, tab_entries b l es, fun a => q a⟩
end K33

namespace K33
open PySem PySem.Spec PyProof.Rows L2 Lay Pu
/-- a row of the law: its first step, its steps, its span, its bytes -/
def rowP (r : Lay.Row) : PV := .tup [.int (r.st : Int), .int (r.steps : Int), spv r.span, pints r.part]
/-- where rows end: the line, the step -/
def endL : Int → List Lay.Row → Int
  | l, [] => l
  | l, r :: rs => endL (lineAfter r.span l) rs
def endS : Nat → List Lay.Row → Nat
  | s, [] => s
  | s, r :: rs => endS (s + r.steps) rs
theorem endL_snoc (r : Lay.Row) : ∀ (l : Int) (rs : List Lay.Row), endL l (rs ++ [r]) = lineAfter r.span (endL l rs)
  | _, [] => rfl
  | l, x :: rs => endL_snoc r (lineAfter x.span l) rs
theorem endS_snoc (r : Lay.Row) : ∀ (s : Nat) (rs : List Lay.Row), endS s (rs ++ [r]) = endS s rs + r.steps
  | _, [] => rfl
  | s, x :: rs => endS_snoc r (s + x.steps) rs
theorem rowsOk_snoc {r : Lay.Row} : ∀ {rs : List Lay.Row} {l : Int} {st : Nat}, RowsOk l st rs → r.st = endS st rs → EntB r.part r.span (endL l rs) r.steps → RowsOk l st (rs ++ [r])
  | [], _, _, _, h1, h2 => ⟨h1, h2, True.intro⟩
  | _ :: rs, _, _, h, h1, h2 => ⟨h.1, h.2.1, rowsOk_snoc h.2.2 h1 h2⟩
def q_l_loose : PSp := fun γ K _ _ => ∃ (w : Addr) (a b fl : Int) (most : Nat), γ = [.ow w (wl a b), .sh (.int fl), .sh (.int (most : Int))] ∧ 1 ≤ fl ∧ fl ≤ 2147483647 ∧ 0 < most ∧ most ≤ 1000 ∧
  ∀ rows a' b', RowsOk fl 0 rows → rows.length < most → (∀ r ∈ rows, 0 < r.steps ∧ r.steps ≤ 8 ∧ SpanOk r.span) → K (.lst (rows.map rowP)) [.ow w (wl a' b'), .sh (.int fl), .sh (.int (most : Int))]
def q_l_form : PSp := fun γ K _ _ => ∃ (f : Int), γ = [.sh (.int f)] ∧ 128 ≤ f ∧ f < 256 ∧ K (.str (formName ((f.toNat - 128) / 8))) γ
theorem names16 (n : Nat) (h : n < 16) : atI ((List.replicate (10 : Int).toNat [PV.str "short"]).flatten ++ (List.replicate (3 : Int).toNat [PV.str "line"]).flatten ++ [PV.str "bare", PV.str "long", PV.str "none"]) (n : Int) = some (.str (formName n)) := by
  match n, h with
  | 0, _ | 1, _ | 2, _ | 3, _ | 4, _ | 5, _ | 6, _ | 7, _ | 8, _ | 9, _ | 10, _ | 11, _ | 12, _ | 13, _ | 14, _ | 15, _ => rfl
  | n + 16, h => omega
end K33

namespace K33
open PySem PySem.Spec PyProof.Rows L2 Lay Pu
theorem tab_no_spans (b : Array UInt8) (l : Int) (es : List (Nat × Nat × Ent)) : List.lookup ("spans" : Str) (tabF b l es) = none := by kernel_rfl
theorem tab_no_entries (b : Array UInt8) (l : Int) (es : List (Nat × Nat × Ent)) : List.lookup ("entries" : Str) (tabF b l es) = none := by kernel_rfl
theorem rowEnts_snoc (r : Lay.Row) : ∀ (i : Nat) (rs : List Lay.Row), rowEnts i (rs ++ [r]) = rowEnts i rs ++ [(i + (rowBytes rs).length, r.st, ⟨r.steps, formOf r.part, r.span⟩)]
  | i, [] => rfl
  | i, x :: rs => by
    show _ :: rowEnts (i + x.part.length) (rs ++ [r]) = _ :: (rowEnts (i + x.part.length) rs ++ _)
    rw [rowEnts_snoc r]
    congr 4
    show i + x.part.length + (rowBytes rs).length = i + (x.part ++ rowBytes rs).length
    rw [List.length_append]
    omega
theorem rowBytes_snoc (r : Lay.Row) (rs : List Lay.Row) : rowBytes (rs ++ [r]) = rowBytes rs ++ r.part := by
  unfold rowBytes
  rw [List.flatMap_append]
  simp
theorem rowSpans_snoc (r : Lay.Row) (rs : List Lay.Row) : rowSpans (rs ++ [r]) = rowSpans rs ++ List.replicate r.steps r.span := by
  unfold rowSpans
  rw [List.flatMap_append]
  simp
theorem rowsOk_get : ∀ {rs : List Lay.Row} {l : Int} {st : Nat}, RowsOk l st rs → ∀ r ∈ rs, ∃ l, EntB r.part r.span l r.steps
  | [], _, _, _, r, hr => by cases hr
  | x :: rs, l, st, h, r, hr => by
    rcases List.mem_cons.mp hr with rfl | hr
    · exact ⟨l, h.2.1⟩
    · exact rowsOk_get h.2.2 r hr
theorem rowBytes_ok : ∀ {rs : List Lay.Row} {l : Int} {st : Nat}, RowsOk l st rs → ∀ n ∈ rowBytes rs, 0 ≤ n ∧ n < 256
  | [], _, _, _, n, hn => by cases hn
  | x :: rs, l, st, h, n, hn => by
    have hn : n ∈ x.part ++ rowBytes rs := hn
    rcases List.mem_append.mp hn with hn | hn
    · obtain ⟨f, t, e, h1, h2, _, h3, _⟩ := h.2.1
      rw [e] at hn
      rcases List.mem_cons.mp hn with rfl | hn
      · omega
      · exact h3 n hn
    · exact rowBytes_ok h.2.2 n hn
theorem rowBytes_len : ∀ {rs : List Lay.Row} {l : Int} {st : Nat}, RowsOk l st rs → (rowBytes rs).length ≤ 33 * rs.length
  | [], _, _, _ => Nat.zero_le _
  | x :: rs, l, st, h => by
    have ih := rowBytes_len h.2.2
    obtain ⟨f, t, e, h1, h2, _, h3, h4, _⟩ := h.2.1
    show (x.part ++ rowBytes rs).length ≤ _
    rw [List.length_append, List.length_cons, e, List.length_cons]
    omega
theorem rowSpans_len : ∀ {rs : List Lay.Row}, (∀ r ∈ rs, r.steps ≤ 8) → (rowSpans rs).length ≤ 8 * rs.length
  | [], _ => Nat.zero_le _
  | x :: rs, h => by
    have ih := rowSpans_len fun r hr => h r (List.mem_cons_of_mem _ hr)
    have h1 := h x (List.mem_cons_self ..)
    show (List.replicate x.steps x.span ++ rowSpans rs).length ≤ _
    rw [List.length_append, List.length_replicate, List.length_cons]
    omega
theorem pl_span (s : Span) : Pl 1 (spv s) := by
  cases s with
  | none => exact .non 1
  | some p =>
    obtain ⟨l, e, c, d⟩ := p
    refine .tup 0 _ fun x hx => ?_
    simp only [List.mem_cons, List.not_mem_nil, or_false] at hx
    rcases hx with rfl | rfl | rfl | rfl
    · exact .int 0 _
    · exact .int 0 _
    · cases c with
      | none => exact .non 0
      | some c => exact .int 0 _
    · cases d with
      | none => exact .non 0
      | some d => exact .int 0 _
theorem form_lay (n : Nat) : PyData.canLay0 (.str (formName n)) = true := by
  unfold formName
  split
  · kernel_rfl
  · split
    · kernel_rfl
    · split
      · kernel_rfl
      · split
        · kernel_rfl
        · kernel_rfl
theorem pl_ent (e : Nat × Nat × Ent) : Pl 2 (entP e) := by
  obtain ⟨i, st, ⟨k, f, s⟩⟩ := e
  refine .tup 1 _ fun x hx => ?_
  simp only [List.mem_cons, List.not_mem_nil, or_false] at hx
  rcases hx with rfl | rfl | rfl | rfl | rfl
  · exact .int 1 _
  · exact .int 1 _
  · exact .int 1 _
  · exact .str 1 _ (form_lay f)
  · exact pl_span s
theorem rowEnts_len : ∀ (i : Nat) (rs : List Lay.Row), (rowEnts i rs).length = rs.length
  | _, [] => rfl
  | i, x :: rs => congrArg (· + 1) (rowEnts_len _ rs)
theorem rowsOk_take : ∀ {rs : List Lay.Row} {l : Int} {st : Nat}, RowsOk l st rs → ∀ i, RowsOk l st (rs.take i)
  | [], _, _, _, i => by rw [List.take_nil]; trivial
  | x :: rs, _, _, h, 0 => trivial
  | x :: rs, _, _, h, i + 1 => ⟨h.1, h.2.1, rowsOk_take h.2.2 i⟩
theorem bytesP_of {ns : List Int} (h : ∀ n ∈ ns, 0 ≤ n ∧ n < 256) : ((ns.map PV.int).all fun x => inRP x 0 255) = true := by
  rw [List.all_eq_true]
  intro x hx
  obtain ⟨n, hn, rfl⟩ := List.mem_map.mp hx
  have := h n hn
  show (decide ((0 : Int) ≤ n) && decide (n ≤ 255)) = true
  rw [decide_eq_true this.1, decide_eq_true (by omega)]
  rfl
theorem data_ok {dv : PV} {b : Array UInt8} (h : DataP dv b) (hz : b.size < 16777216) : ∃ n, dv.tyN = some n ∧ itemsP dv ∧ bytesP dv = true := by
  rcases h with rfl | ⟨ns, h, hb, rfl⟩
  · exact ⟨_, rfl, (fun xs h => by rcases h with h | h <;> cases h), rfl⟩
  · have hl : ns.length < 16777216 := by
      have : (bi (byteArr ns)).length = ns.length := by rw [byteArr_bi hb]
      rw [bi_len] at this
      omega
    have hm : ∀ y ∈ ns.map PV.int, ∃ m, y.tyN = some m := fun y hy => by
      obtain ⟨n, _, rfl⟩ := List.mem_map.mp hy
      exact ⟨_, rfl⟩
    rcases h with rfl | rfl
    · refine ⟨_, rfl, fun xs h => ?_, bytesP_of hb⟩
      rcases h with h | h
      · cases h
        exact ⟨by rw [List.length_map]; exact hl, hm⟩
      · cases h
    · refine ⟨_, rfl, fun xs h => ?_, bytesP_of hb⟩
      rcases h with h | h
      · cases h
      · cases h
        exact ⟨by rw [List.length_map]; exact hl, hm⟩
/-- a table of these rows is made -/
theorem init_rows {w : Addr} {b : Array UInt8} {fl : Int} {rows : List Lay.Row} {dv : PV} {Kp : PV → List Sl → Prop} {Ko : Addr → Cell → List Sl → Prop} {Ep : EK} (hd : DataP dv b) (hb : bi b = rowBytes rows) (ok : RowsOk fl 0 rows) (hl : rows.length ≤ 1000) (hst : ∀ r ∈ rows, r.steps ≤ 8) (f1 : 1 ≤ fl) (f2 : fl ≤ 2147483647)
    (k : Kp .non [.ow w (.ins "Table" (tabF b fl (rowEnts 0 rows))), .sh dv, .sh (.int fl)]) : q_Table_init [.ow w (.ins "Table" []), .sh dv, .sh (.int fl)] Kp Ko Ep := by
  have hz : b.size ≤ 33000 := by
    have := rowBytes_len ok
    rw [← hb, bi_len] at this
    omega
  obtain ⟨n, h1, h2, h3⟩ := data_ok hd (by omega)
  refine ⟨w, dv, .int fl, n, "int", rfl, h1, h2, rfl, fun h => ?_, fun _ h => ?_, fun _ l e _ => ?_⟩
  · rw [h3] at h
    cases h
  · have h : (decide ((1 : Int) ≤ fl) && decide (fl ≤ 2147483647)) = false := h
    rw [decide_eq_true f1, decide_eq_true f2] at h
    cases h
  · cases e
    refine ⟨b, hd, by omega, ?_⟩
    rw [hb, rows_entries ok]
    refine ⟨?_, k⟩
    rw [spansOf_rows]
    have := rowSpans_len hst
    omega
theorem cutP_int {ns : List Int} {lo hi : Option Int} {x : PV} (h : x ∈ cutP (ns.map PV.int) lo hi) : ∃ c, x = .int c := by
  have h : x ∈ ns.map PV.int := List.mem_of_mem_drop (List.mem_of_mem_take h)
  obtain ⟨c, _, rfl⟩ := List.mem_map.mp h
  exact ⟨c, rfl⟩
theorem cutP_to {xs : List PV} {k : Nat} (h : k ≤ xs.length) : cutP xs none (some (k : Int)) = xs.take k := by
  unfold cutP
  rw [HT.sIx_none, HT.sIx_nat, Nat.min_eq_left h]
  rfl
theorem cutP_from {xs : List PV} {k : Nat} (h : k ≤ xs.length) : cutP xs (some (k : Int)) none = xs.drop k := by
  unfold cutP
  rw [HT.sIx_none, HT.sIx_nat, Nat.min_eq_left h]
  exact List.take_of_length_le (by rw [List.length_drop]; exact Nat.le_refl _)
theorem cut_to {α : Type} {f : α → PV} (A B : List α) : cutP ((A ++ B).map f) none (some (A.length : Int)) = A.map f := by
  rw [cutP_to (by rw [List.length_map, List.length_append]; omega), ← List.map_take, List.take_left]
theorem cut_from {α : Type} {f : α → PV} (A B : List α) : cutP ((A ++ B).map f) (some (A.length : Int)) none = B.map f := by
  rw [cutP_from (by rw [List.length_map, List.length_append]; omega), ← List.map_drop, List.drop_left]
theorem neQ_eq {n : Nat} {x y : PV} {k : PV → Prop} (hx : Pl n x) (hn : n ≤ 64) (e : x = y) (h : k (.bl false)) : neQ x y k := by
  subst e
  exact neQ_same hx hn h
theorem drop_row {rs : List Lay.Row} {i : Nat} {r : Lay.Row} (h : rs[i]? = some r) : rs.drop i = r :: rs.drop (i + 1) := by
  obtain ⟨h1, h2⟩ := List.getElem?_eq_some_iff.mp h
  rw [List.drop_eq_getElem_cons h1, h2]
theorem pl_where (j : Int) (w : Str) (h : PyData.canLay0 (.str w) = true) : Pl 1 (.tup [.int j, .str w]) := .tup 0 _ fun x hx => by
  simp only [List.mem_cons, List.not_mem_nil, or_false] at hx
  rcases hx with rfl | rfl
  · exact .int 0 j
  · exact .str 0 w h
/-- a table of these bytes is made, or is not -/
theorem init_gen {w : Addr} {b : Array UInt8} {fl : Int} {dv : PV} {Kp : PV → List Sl → Prop} {Ko : Addr → Cell → List Sl → Prop} {Ep : EK} (hd : DataP dv b) (hz : b.size ≤ 2000000) (f1 : 1 ≤ fl) (f2 : fl ≤ 2147483647)
    (k : OutP (Lay.entries (bi b) fl) (fun es => (spansOf es).length ≤ 16777216 ∧ Kp .non [.ow w (.ins "Table" (tabF b fl es)), .sh dv, .sh (.int fl)]) Ep [.ow w (.ins "Table" []), .sh dv, .sh (.int fl)]) : q_Table_init [.ow w (.ins "Table" []), .sh dv, .sh (.int fl)] Kp Ko Ep := by
  obtain ⟨n, h1, h2, h3⟩ := data_ok hd (by omega)
  refine ⟨w, dv, .int fl, n, "int", rfl, h1, h2, rfl, fun h => ?_, fun _ h => ?_, fun _ l e _ => ?_⟩
  · rw [h3] at h
    cases h
  · have h : (decide ((1 : Int) ≤ fl) && decide (fl ≤ 2147483647)) = false := h
    rw [decide_eq_true f1, decide_eq_true f2] at h
    cases h
  · cases e
    exact ⟨b, hd, hz, k⟩
theorem lineEnd_ok : ∀ {rs : List Lay.Row} {l : Int}, 1 ≤ l → l ≤ 2147483647 → (∀ r ∈ rs, SpanOk r.span) → 1 ≤ lineEnd l rs ∧ lineEnd l rs ≤ 2147483647
  | [], _, h1, h2, _ => ⟨h1, h2⟩
  | r :: rs, l, h1, h2, h => by
    have hr := h r (List.mem_cons_self ..)
    refine lineEnd_ok (rs := rs) ?_ ?_ fun x hx => h x (List.mem_cons_of_mem _ hx)
    · cases hs : r.span with
      | none => exact h1
      | some p =>
        rw [hs] at hr
        have hr : p.ok := hr
        exact hr.l1
    · cases hs : r.span with
      | none => exact h2
      | some p =>
        rw [hs] at hr
        have hr : p.ok := hr
        have y2 := hr.le
        have y3 := hr.eM
        show p.l ≤ _
        omega
theorem lineEnd_snoc (r : Lay.Row) : ∀ (l : Int) (rs : List Lay.Row), lineEnd l (rs ++ [r]) = lineAfter r.span (lineEnd l rs)
  | _, [] => rfl
  | l, x :: rs => lineEnd_snoc r (lineAfter x.span l) rs
end K33

namespace K33
open PySem PySem.Spec PyProof.Rows L2 Lay Pu
def gB (n : Nat) : Array UInt8 := byteArr (groups n)
theorem gB_bi (n : Nat) : bi (gB n) = groups n := byteArr_bi (groups_b n)
def q_write_number : PSp := fun γ K _ _ => ∃ (n : Nat), γ = [.sh (.int (n : Int))] ∧ n < 64 ^ 8 ∧ K (.byt (gB n)) γ
def q_write_signed : PSp := fun γ K _ _ => ∃ (d : Int), γ = [.sh (.int d)] ∧ fold1 d < 64 ^ 8 ∧ K (.byt (gB (fold1 d))) γ
theorem ok_write_number {P : Program} {w : World} {K : PySem.W.Frag} {mg : Str → Option Value} {base : Heap} (W : Wd K mg) : FOk P w K mg base (L2.CX P w) 3 "write_number" ["n"] (spOf K q_write_number) :=
  fok (F_write_number W) (g_write_number W) (fun _ _ _ _ _ _ us hl => match us, hl with | [_], _ => rfl) fun fd F => by
  refine F.ok sc_write_number (sp_len (n := 1) fun γ Kp Ko Ep h => ?_) (fun cdv A outer s H vs Q E hr h => ?_)
  · obtain ⟨n, rfl, _⟩ := h
    rfl
  · refine ⟨_, (jss_cons (js_if (pb_w (jw_or (pb_not (pb_tru (pp_call (pe_fS (ok_is_int W) (hr.mono (by decide)) (by rfl) pass0S (ja_cons (pp_v (pv 0)) ja_nil))))) (jw_or1 (pb_cmp op_lt bin_lt (pp_v (pv 0)) pp_int)))) (jss_one (js_raise1 rfl (takes_of rfl rfl rfl rfl) (pmk1 (x_BadCount W) (i_BadCount W) (hr.mono (by decide)) (by rfl) mono_tA (ja_cons (pp_v (pv 0)) ja_nil)))) jss_nil) (jss_cons (js_setO (ps_set (i := 1) sc_write_number.nd rfl (Or.inl rfl) (po_lst ja_nil))) (jss_cons (js_set (ps_set (i := 2) sc_write_number.nd rfl (Or.inl rfl) (pp_v (pv 0)))) (jss_cons (js_while (passes_of rfl) (pb_cmp op_gt bin_gt (pp_v (pv 2)) pp_int) (jss_cons (js_app (ps_expr (pe_bm PySem.F.plainAttrs_list PySem.F.slot_list_append PySem.F.type_list_append mt_append (pv 1) (ja_cons (pp_add pp_int (pp_and_ (pp_v (pv 2)) pp_int)) ja_nil)))) (jss_one (js_set (ps_set (i := 2) sc_write_number.nd rfl (Or.inl rfl) (pp_shr (pp_v (pv 2)) pp_int)))))) (jss_cons (js_app (ps_expr (pe_bm PySem.F.plainAttrs_list PySem.F.slot_list_append PySem.F.type_list_append mt_append (pv 1) (ja_cons (pp_v (pv 2)) ja_nil)))) (jss_one (js_ret (pp_cb (pe_callTy (call_bytA rfl) (by rfl) (g_bytes W) (by decide +kernel) (ja_cons (pp_fz (pv 1)) ja_nil)) cb_bytes)))))))), body_of h fun γ Kp Ko Ep h => ?_⟩
    obtain ⟨n, rfl, hn, k⟩ := h
    have hlen := groups_len 7 n hn
    refine ⟨.int (n : Int), "int", rfl, rfl, ?_⟩
    refine ⟨by show 0 ≤ sizeLine; decide, fun p => ?_⟩
    refine ⟨fun m γ => ∃ (acc : List Int), γ = [.sh (.int (n : Int)), .ow p (.lst (acc.map .int)), .sh (.int (m : Int))] ∧ acc ++ groups m = groups n, ⟨n, [], rfl, rfl⟩, ?_⟩
    rintro m γ ⟨acc, rfl, eg⟩
    have hsz : acc.length + (groups m).length ≤ 8 := by
      have := congrArg List.length eg
      rw [List.length_append] at this
      omega
    have hgp := groups_pos m
    have hcap : (acc.map PV.int).length < sizeLine := by
      rw [List.length_map, sizeLine_eq]
      omega
    refine ite_b (fun hgt => ?_) (fun hgt => ?_)
    · have hgt : (63 : Int) < (m : Int) := hgt
      refine ⟨hcap, (by decide : (0 : Int) ≤ 6), m / 64, by omega, acc ++ [((64 + m % 64 : Nat) : Int)], ?_, ?_⟩
      · show [_, Sl.ow p (.lst (acc.map PV.int ++ [PV.int (64 + Builtin.bitAnd (m : Int) 63)])), Sl.sh (.int ((m : Int) / 2 ^ ((6 : Int)).toNat))] = _
        rw [bitAnd_m6, pints_snoc]
        have e1 : (64 : Int) + (m : Int) % 64 = ((64 + m % 64 : Nat) : Int) := by omega
        have e2 : (m : Int) / 2 ^ ((6 : Int)).toNat = ((m / 64 : Nat) : Int) := by
          show (m : Int) / 64 = _
          omega
        rw [e1, e2]
      · rw [← eg, groups_more (n := m) (by omega), List.append_assoc]
        rfl
    · have hgt : ¬ (63 : Int) < (m : Int) := hgt
      have e1 : acc ++ [(m : Int)] = groups n := by
        rw [← eg, groups_small (n := m) (by omega)]
      refine ⟨hcap, groups n, ?_, groups_b n, k⟩
      rw [← e1]
      exact pints_snoc acc m
theorem ok_write_signed {P : Program} {w : World} {K : PySem.W.Frag} {mg : Str → Option Value} {base : Heap} (W : Wd K mg) : FOk P w K mg base (L2.CX P w) 4 "write_signed" ["n"] (spOf K q_write_signed) :=
  fok (F_write_signed W) (g_write_signed W) (fun _ _ _ _ _ _ us hl => match us, hl with | [_], _ => rfl) fun fd F => by
  refine F.ok sc_write_signed (sp_len (n := 1) fun γ Kp Ko Ep h => ?_) (fun cdv A outer s H vs Q E hr h => ?_)
  · obtain ⟨d, rfl, _⟩ := h
    rfl
  · refine ⟨_, (jss_cons (js_if (pb_not (pb_tru (pp_call (pe_fS (ok_is_int W) (hr.mono (by decide)) (by rfl) pass0S (ja_cons (pp_v (pv 0)) ja_nil))))) (jss_one (js_raise1 rfl (takes_of rfl rfl rfl rfl) (pmk1 (x_BadCount W) (i_BadCount W) (hr.mono (by decide)) (by rfl) mono_tA (ja_cons (pp_v (pv 0)) ja_nil)))) jss_nil) (jss_one (js_ret (pp_call (pe_fS (ok_write_number W) (hr.mono (by decide)) (by rfl) (passES (takes_of rfl rfl rfl rfl)) (ja_cons (pp_if (pb_cmp op_ge bin_ge (pp_v (pv 0)) pp_int) (pp_mul pp_int (pp_v (pv 0))) (pp_add (pp_mul pp_int (pp_neg (pp_v (pv 0)))) pp_int)) ja_nil)))))), body_of h fun γ Kp Ko Ep h => ?_⟩
    obtain ⟨d, rfl, hn, k⟩ := h
    refine ⟨.int d, "int", rfl, rfl, ?_⟩
    refine ite_b (fun h0 => ?_) (fun h0 => ?_)
    · have h0 : 0 ≤ d := h0
      have e : 2 * d = ((fold1 d : Nat) : Int) := by
        unfold fold1
        rw [if_pos h0]
        omega
      refine ⟨mulA (by decide) (by decide), fold1 d, ?_, hn, k⟩
      show [Sl.sh (.int (2 * d))] = _
      rw [e]
    · have h0 : ¬ 0 ≤ d := h0
      have e : 2 * -d + 1 = ((fold1 d : Nat) : Int) := by
        unfold fold1
        rw [if_neg h0]
        omega
      refine ⟨mulA (by decide) (by decide), fold1 d, ?_, hn, k⟩
      show [Sl.sh (.int (2 * -d + 1))] = _
      rw [e]
end K33

namespace K33
open PySem PySem.Spec PyProof.Rows L2 Lay Pu
theorem byteArr_app (xs ys : List Int) : byteArr xs ++ byteArr ys = byteArr (xs ++ ys) := by
  unfold byteArr
  simp
def q_write_long : PSp := fun γ K _ _ => ∃ (x : Int) (h c d : Nat), γ = [.sh (.int x), .sh (.int (h : Int)), .sh (.int ((c : Int) - 1)), .sh (.int ((d : Int) - 1))] ∧ fold1 x < 64 ^ 7 ∧ h < 64 ^ 7 ∧ c < 64 ^ 7 ∧ d < 64 ^ 7 ∧ K (.byt (byteArr (groups (fold1 x) ++ groups h ++ groups c ++ groups d))) γ
def q_form_and_bytes : PSp := fun γ K _ _ => ∃ (s : Span) (l : Int), γ = [.sh (spv s), .sh (.int l)] ∧ SpanOk s ∧ 1 ≤ l ∧ l ≤ 2147483647 ∧ K (.tup [.int ((formB s l).1 : Int), .byt (byteArr (formB s l).2)]) γ
def q_write_entry : PSp := fun γ K _ _ => ∃ (s : Span) (l : Int) (k : Nat), γ = [.sh (spv s), .sh (.int ((k : Int) + 1)), .sh (.int l)] ∧ SpanOk s ∧ 1 ≤ l ∧ l ≤ 2147483647 ∧ k < 8 ∧ K (.byt (byteArr ((128 + 8 * ((formB s l).1 : Int) + (k : Int)) :: (formB s l).2))) γ
theorem gB_len {n : Nat} (h : n < 64 ^ 7) : (gB n).size ≤ 7 := by
  have e : (gB n).size = (groups n).length := by rw [← gB_bi n, bi_len]
  rw [e]
  exact groups_len 6 n h
theorem ok_write_long {P : Program} {w : World} {K : PySem.W.Frag} {mg : Str → Option Value} {base : Heap} (W : Wd K mg) : FOk P w K mg base (L2.CX P w) 5 "_write_long" ["change", "height", "column", "end_column"] (spOf K q_write_long) :=
  fok (F_write_long W) (g_write_long W) (fun _ _ _ _ _ _ us hl => match us, hl with | [_, _, _, _], _ => rfl) fun fd F => by
  refine F.ok sc_write_long (sp_len (n := 4) fun γ Kp Ko Ep h => ?_) (fun cdv A outer s H vs Q E hr h => ?_)
  · obtain ⟨x, h, c, d, rfl, _⟩ := h
    rfl
  · refine ⟨_, (jss_cons (js_set (ps_set (i := 4) sc_write_long.nd rfl (Or.inl rfl) (pp_add (pp_add (pp_call (pe_fS (ok_write_number W) (hr.mono (by decide)) (by rfl) (passES (takes_of rfl rfl rfl rfl)) (ja_cons (pp_v (pv 1)) ja_nil))) (pp_call (pe_fS (ok_write_number W) (hr.mono (by decide)) (by rfl) (passES (takes_of rfl rfl rfl rfl)) (ja_cons (pp_add (pp_v (pv 2)) pp_int) ja_nil)))) (pp_call (pe_fS (ok_write_number W) (hr.mono (by decide)) (by rfl) (passES (takes_of rfl rfl rfl rfl)) (ja_cons (pp_add (pp_v (pv 3)) pp_int) ja_nil)))))) (jss_one (js_ret (pp_add (pp_call (pe_fS (ok_write_signed W) (hr.mono (by decide)) (by rfl) (passES (takes_of rfl rfl rfl rfl)) (ja_cons (pp_v (pv 0)) ja_nil))) (pp_v (pv 4)))))), body_of h fun γ Kp Ko Ep h => ?_⟩
    obtain ⟨x, h, c, d, rfl, hx, hh, hc, hd, k⟩ := h
    have s1 := gB_len hx
    have s2 := gB_len hh
    have s3 := gB_len hc
    have s4 := gB_len hd
    have e1 : (c : Int) - 1 + 1 = (c : Int) := by omega
    have e2 : (d : Int) - 1 + 1 = (d : Int) := by omega
    refine ⟨h, rfl, lt78 hh, c, congrArg (fun z => [Sl.sh (.int z)]) e1, lt78 hc, by omega, d, congrArg (fun z => [Sl.sh (.int z)]) e2, lt78 hd, by rw [Array.size_append]; omega, ?_⟩
    refine ⟨x, rfl, lt78 hx, by rw [Array.size_append, Array.size_append]; omega, ?_⟩
    have e : gB (fold1 x) ++ (gB h ++ gB c ++ gB d) = byteArr (groups (fold1 x) ++ groups h ++ groups c ++ groups d) := by
      unfold gB
      rw [byteArr_app, byteArr_app, byteArr_app, List.append_assoc, List.append_assoc, List.append_assoc]
    show Kp (.byt (gB (fold1 x) ++ (gB h ++ gB c ++ gB d))) _
    rw [e]
    exact k
end K33

namespace K33
open PySem PySem.Spec PyProof.Rows L2 Lay Pu
theorem ok_form_and_bytes {P : Program} {w : World} {K : PySem.W.Frag} {mg : Str → Option Value} {base : Heap} (W : Wd K mg) : FOk P w K mg base (L2.CX P w) 6 "_form_and_bytes" ["span", "line"] (spOf K q_form_and_bytes) :=
  fok (F_form_and_bytes W) (g_form_and_bytes W) (fun _ _ _ _ _ _ us hl => match us, hl with | [_, _], _ => rfl) fun fd F => by
  refine F.ok sc_form_and_bytes (sp_len (n := 2) fun γ Kp Ko Ep h => ?_) (fun cdv A outer s H vs Q E hr h => ?_)
  · obtain ⟨s, l, rfl, _⟩ := h
    rfl
  · obtain ⟨tk_LONG, hg_LONG⟩ := g_LONG W
    obtain ⟨tk_NONE, hg_NONE⟩ := g_NONE W
    obtain ⟨tk_BARE, hg_BARE⟩ := g_BARE W
    obtain ⟨tk_LINE, hg_LINE⟩ := g_LINE W
    refine ⟨_, (jss_cons (js_if (pb_cmp op_isN bin_isN (pp_v (pv 0)) pp_non) (jss_one (js_ret (pp_tup (ja_cons (pp_gi (pe_glob (v := .int 15) rfl hg_NONE ⟨_, rfl⟩)) (ja_cons (pp_c pe_byt fun _ => .byt _) ja_nil))))) jss_nil) (jss_cons (js_asg (pp_v (pv 0)) (jg_tup rfl (jgs_cons (jg_name (pg_name (i := 2) sc_form_and_bytes.nd rfl (Or.inl rfl))) (jgs_cons (jg_name (pg_name (i := 3) sc_form_and_bytes.nd rfl (Or.inl rfl))) (jgs_cons (jg_name (pg_name (i := 4) sc_form_and_bytes.nd rfl (Or.inl rfl))) (jgs_cons (jg_name (pg_name (i := 5) sc_form_and_bytes.nd rfl (Or.inl rfl))) jgs_nil)))))) (jss_cons (js_set (ps_set (i := 6) sc_form_and_bytes.nd rfl (Or.inl rfl) (pp_sub (pp_v (pv 2)) (pp_v (pv 1))))) (jss_cons (js_if (pb_cmp op_isN bin_isN (pp_v (pv 4)) pp_non) (jss_one (js_ret (pp_tup (ja_cons (pp_gi (pe_glob (v := .int 13) rfl hg_BARE ⟨_, rfl⟩)) (ja_cons (pp_call (pe_fS (ok_write_signed W) (hr.mono (by decide)) (by rfl) (passES (takes_of rfl rfl rfl rfl)) (ja_cons (pp_v (pv 6)) ja_nil))) ja_nil))))) jss_nil) (jss_cons (js_set (ps_set (i := 7) sc_form_and_bytes.nd rfl (Or.inl rfl) (pp_sub (pp_v (pv 5)) (pp_v (pv 4))))) (jss_mid (js_if (pb_w (jw_and (pb_cmp (op_eqA hr.units) bin_eq (pp_v (pv 3)) (pp_v (pv 2))) (jw_and (pb_cmp (op_eqA hr.units) bin_eq (pp_v (pv 6)) pp_int) (jw_and (pb_cmp op_lt bin_lt (pp_v (pv 4)) (pp_mul pp_int (pp_gi (pe_glob (v := .int 10) rfl hg_LINE ⟨_, rfl⟩)))) (jw_and1 (pb_cmp op_lt bin_lt (pp_v (pv 7)) pp_int)))))) (jss_one (js_ret (pp_tup (ja_cons (pp_shr (pp_v (pv 4)) pp_int) (ja_cons (pp_cb (pe_callTy (call_bytA rfl) (by rfl) (g_bytes W) (by decide +kernel) (ja_cons (pp_sh (po_lst (ja_cons (pp_add (pp_mul pp_int (pp_and_ (pp_v (pv 4)) pp_int)) (pp_v (pv 7))) ja_nil))) ja_nil)) cb_bytes) ja_nil))))) jss_nil) (jss_mid (js_if (pb_w (jw_and (pb_cmp (op_eqA hr.units) bin_eq (pp_v (pv 3)) (pp_v (pv 2))) (jw_and (pb_ch op_le op_le bin_le bin_le pp_int (pp_v (pv 6)) pp_int) (jw_and1 (pb_cmp op_lt bin_lt (pp_v (pv 5)) pp_int))))) (jss_one (js_ret (pp_tup (ja_cons (pp_add (pp_gi (pe_glob (v := .int 10) rfl hg_LINE ⟨_, rfl⟩)) (pp_v (pv 6))) (ja_cons (pp_cb (pe_callTy (call_bytA rfl) (by rfl) (g_bytes W) (by decide +kernel) (ja_cons (pp_sh (po_lst (ja_cons (pp_v (pv 4)) (ja_cons (pp_v (pv 5)) ja_nil)))) ja_nil)) cb_bytes) ja_nil))))) jss_nil) (jss_one (js_ret (pp_tup (ja_cons (pp_gi (pe_glob (v := .int 14) rfl hg_LONG ⟨_, rfl⟩)) (ja_cons (pp_call (pe_fS (ok_write_long W) (hr.mono (by decide)) (by rfl) (passES (takes_of rfl rfl rfl rfl)) (ja_cons (pp_v (pv 6)) (ja_cons (pp_sub (pp_v (pv 3)) (pp_v (pv 2))) (ja_cons (pp_v (pv 4)) (ja_cons (pp_v (pv 5)) ja_nil)))))) ja_nil)))))))))))), body_of h fun γ Kp Ko Ep h => ?_⟩
    obtain ⟨s, l, rfl, hs, l1, l2, k⟩ := h
    cases s with
    | none => exact ⟨by show 2 ≤ sizeLine; decide, k⟩
    | some p =>
    obtain ⟨pl, pe, pc, pd⟩ := p
    have pk : Pos.ok ⟨pl, pe, pc, pd⟩ := hs
    have y1 : 1 ≤ pl := pk.l1
    have y2 : pl ≤ pe := pk.le
    have y3 : pe ≤ 2147483647 := pk.eM
    have hd := fold7 (d := pl - l) (by omega) (by omega)
    rcases pk.cd with ⟨h1, h2, h3⟩ | ⟨c, d, h1, h2, h3, h4, h5, h6, h7⟩
    · obtain rfl : pc = none := h1
      obtain rfl : pd = none := h2
      exact ⟨rfl, pl - l, rfl, lt78 hd, by show 2 ≤ sizeLine; decide, k⟩
    · obtain rfl : pc = some c := h1
      obtain rfl : pd = some d := h2
      have h7 : pe = pl → c ≤ d := h7
      refine ⟨rfl, fun γ => γ = [.sh (spv (some ⟨pl, pe, some c, some d⟩)), .sh (.int l), .sh (.int pl), .sh (.int pe), .sh (.int c), .sh (.int d), .sh (.int (pl - l)), .sh (.int (d - c))] ∧ ¬ (pe = pl ∧ pl - l = 0 ∧ c < 80 ∧ d - c < 16), ?_, ?_⟩
      · refine ite_b (fun A1 => ite_b (fun A2 => ⟨mulA (by decide) (by decide), ite_b (fun A3 => ite_b (fun A4 => ?_) (fun A4 => ⟨rfl, fun z => A4 z.2.2.2⟩)) (fun A3 => ⟨rfl, fun z => A3 z.2.2.1⟩)⟩) (fun A2 => ⟨rfl, fun z => A2 z.2.1⟩)) (fun A1 => ⟨rfl, fun z => A1 z.1⟩)
        have A1 : pe = pl := A1
        have A3 : c < 80 := A3
        have A4 : d - c < 16 := A4
        have e : formB (some ⟨pl, pe, some c, some d⟩) l = ((c / 8).toNat, [16 * (c % 8) + (d - c)]) := if_pos ⟨A1, A2, A3, A4⟩
        rw [e] at k
        have hcd := h7 A1
        have x1 : c / 2 ^ ((3 : Int)).toNat = (((c / 8).toNat : Nat) : Int) := by
          show c / 8 = _
          omega
        refine ⟨(by decide : (0 : Int) ≤ 3), mulA (by decide) (by decide), by show 1 ≤ sizeLine; decide, fun _ => ⟨[16 * Builtin.bitAnd c 7 + (d - c)], rfl, fun n hn => ?_, by show 2 ≤ sizeLine; decide, ?_⟩⟩
        · have hn := List.mem_singleton.mp hn
          rw [bitAnd_m3] at hn
          omega
        · show Kp (.tup [.int (c / 2 ^ ((3 : Int)).toNat), .byt (byteArr [16 * Builtin.bitAnd c 7 + (d - c)])]) _
          rw [x1, bitAnd_m3]
          exact k
      rintro γ ⟨rfl, hA⟩
      refine ⟨fun γ => γ = [.sh (spv (some ⟨pl, pe, some c, some d⟩)), .sh (.int l), .sh (.int pl), .sh (.int pe), .sh (.int c), .sh (.int d), .sh (.int (pl - l)), .sh (.int (d - c))] ∧ ¬ (pe = pl ∧ 0 ≤ pl - l ∧ pl - l ≤ 2 ∧ d < 128), ?_, ?_⟩
      · refine ite_b (fun A1 => ite_b (fun A2 => ite_b (fun A3 => ite_b (fun A4 => ?_) (fun A4 => ⟨rfl, fun z => A4 z.2.2.2⟩)) (fun A3 => ⟨rfl, fun z => A3 z.2.2.1⟩)) (fun A2 => ⟨rfl, fun z => A2 z.2.1⟩)) (fun A1 => ⟨rfl, fun z => A1 z.1⟩)
        have A1 : pe = pl := A1
        have A2 : 0 ≤ pl - l := A2
        have A3 : pl - l ≤ 2 := A3
        have A4 : d < 128 := A4
        have e : formB (some ⟨pl, pe, some c, some d⟩) l = (10 + (pl - l).toNat, [c, d]) := (if_neg hA).trans (if_pos ⟨A1, A2, A3, A4⟩)
        rw [e] at k
        have hcd := h7 A1
        have x1 : (10 : Int) + (pl - l) = ((10 + (pl - l).toNat : Nat) : Int) := by omega
        refine ⟨by show 2 ≤ sizeLine; decide, fun _ => ⟨[c, d], rfl, fun n hn => ?_, by show 2 ≤ sizeLine; decide, ?_⟩⟩
        · simp only [List.mem_cons, List.not_mem_nil, or_false] at hn
          rcases hn with rfl | rfl <;> omega
        · show Kp (.tup [.int (10 + (pl - l)), .byt (byteArr [c, d])]) _
          rw [x1]
          exact k
      rintro γ ⟨rfl, hB⟩
      have e : formB (some ⟨pl, pe, some c, some d⟩) l = (14, groups (fold1 (pl - l)) ++ groups (pe - pl).toNat ++ groups (c + 1).toNat ++ groups (d + 1).toNat) := (if_neg hA).trans (if_neg hB)
      rw [e] at k
      have x1 : pe - pl = (((pe - pl).toNat : Nat) : Int) := by omega
      have x2 : c = (((c + 1).toNat : Nat) : Int) - 1 := by omega
      have x3 : d = (((d + 1).toNat : Nat) : Int) - 1 := by omega
      refine ⟨pl - l, (pe - pl).toNat, (c + 1).toNat, (d + 1).toNat, ?_, hd, num7 (by omega), num7 (by omega), num7 (by omega), by show 2 ≤ sizeLine; decide, k⟩
      show [Sl.sh (.int (pl - l)), Sl.sh (.int (pe - pl)), Sl.sh (.int c), Sl.sh (.int d)] = _
      rw [← x1, ← x2, ← x3]
end K33

namespace K33
open PySem PySem.Spec PyProof.Rows L2 Lay Pu
theorem ok_write_entry {P : Program} {w : World} {K : PySem.W.Frag} {mg : Str → Option Value} {base : Heap} (W : Wd K mg) : FOk P w K mg base (L2.CX P w) 7 "_write_entry" ["span", "steps", "line"] (spOf K q_write_entry) :=
  fok (F_write_entry W) (g_write_entry W) (fun _ _ _ _ _ _ us hl => match us, hl with | [_, _, _], _ => rfl) fun fd F => by
  refine F.ok sc_write_entry (sp_len (n := 3) fun γ Kp Ko Ep h => ?_) (fun cdv A outer s H vs Q E hr h => ?_)
  · obtain ⟨s, l, j, rfl, _⟩ := h
    rfl
  · refine ⟨_, (jss_cons (js_asg (pp_call (pe_fS (ok_form_and_bytes W) (hr.mono (by decide)) (by rfl) (passES (takes_of rfl rfl rfl rfl)) (ja_cons (pp_v (pv 0)) (ja_cons (pp_v (pv 2)) ja_nil)))) (jg_tup rfl (jgs_cons (jg_name (pg_name (i := 3) sc_write_entry.nd rfl (Or.inl rfl))) (jgs_cons (jg_name (pg_name (i := 4) sc_write_entry.nd rfl (Or.inl rfl))) jgs_nil)))) (jss_one (js_ret (pp_add (pp_cb (pe_callTy (call_bytA rfl) (by rfl) (g_bytes W) (by decide +kernel) (ja_cons (pp_sh (po_lst (ja_cons (pp_sub (pp_add (pp_add pp_int (pp_mul pp_int (pp_v (pv 3)))) (pp_v (pv 1))) pp_int) ja_nil))) ja_nil)) cb_bytes) (pp_v (pv 4)))))), body_of h fun γ Kp Ko Ep h => ?_⟩
    obtain ⟨s, l, j, rfl, hs, l1, l2, hj, k⟩ := h
    have F := formB_ent hs l1 l2
    refine ⟨s, l, rfl, hs, l1, l2, rfl, ?_⟩
    have hz : (byteArr (formB s l).2).size ≤ 28 := by
      have : (byteArr (formB s l).2).size = (formB s l).2.length := by rw [← bi_len, byteArr_bi F.2.1]
      rw [this]
      exact F.2.2.1
    have e : byteArr [128 + 8 * ((formB s l).1 : Int) + ((j : Int) + 1) - 1] ++ byteArr (formB s l).2 = byteArr ((128 + 8 * ((formB s l).1 : Int) + (j : Int)) :: (formB s l).2) := by
      rw [byteArr_app]
      have x : 128 + 8 * ((formB s l).1 : Int) + ((j : Int) + 1) - 1 = 128 + 8 * ((formB s l).1 : Int) + (j : Int) := by omega
      rw [x]
      rfl
    have f15 := F.1
    refine ⟨mulA (by decide) (by decide), by show 1 ≤ sizeLine; decide, fun _ => ⟨[128 + 8 * ((formB s l).1 : Int) + ((j : Int) + 1) - 1], rfl, fun n hn => ?_, ?_, ?_⟩⟩
    · have hn := List.mem_singleton.mp hn
      omega
    · have h1 : (byteArr [128 + 8 * ((formB s l).1 : Int) + ((j : Int) + 1) - 1]).size = 1 := rfl
      rw [h1]
      omega
    · show Kp (.byt (byteArr [128 + 8 * ((formB s l).1 : Int) + ((j : Int) + 1) - 1] ++ byteArr (formB s l).2)) _
      rw [e]
      exact k
end K33

namespace K33
open PySem PySem.Spec PyProof.Rows L2 Lay Pu
theorem joined_aux : ∀ (l : List (Array UInt8)) (k : Nat) (out : Array UInt8), (l.zipIdx k).foldl (fun out (x : Array UInt8 × Nat) => (if x.2 > 0 then out ++ (#[] : Array UInt8) else out) ++ x.1) out = l.foldl (· ++ ·) out
  | [], _, _ => rfl
  | b :: l, k, out => by
    rw [List.zipIdx_cons, List.foldl_cons, List.foldl_cons, ← joined_aux l (k + 1)]
    congr 2
    show (if k > 0 then out ++ (#[] : Array UInt8) else out) = out
    split
    · exact Array.append_empty
    · rfl
theorem foldl_bytes : ∀ (xs : List (List Int)) (a : List Int), (xs.map byteArr).foldl (· ++ ·) (byteArr a) = byteArr (a ++ xs.flatten)
  | [], a => by rw [List.flatten_nil, List.append_nil]; rfl
  | x :: xs, a => by
    rw [List.map_cons, List.foldl_cons, byteArr_app, foldl_bytes xs (a ++ x), List.flatten_cons, List.append_assoc]
theorem joined_bytes (xs : List (List Int)) : Builtin.Bytes.joined #[] (xs.map byteArr) = byteArr xs.flatten := by
  have h := joined_aux (xs.map byteArr) 0 #[]
  have h2 := foldl_bytes xs []
  exact h.trans h2
theorem byteArr_size (xs : List Int) : (byteArr xs).size = xs.length := by
  unfold byteArr
  rw [List.size_toArray, List.length_map]
theorem sizes_bytes : ∀ (xs : List (List Int)) (a : Nat), (xs.map byteArr).foldl (· + ·.size) a = a + xs.flatten.length
  | [], a => rfl
  | x :: xs, a => by
    rw [List.map_cons, List.foldl_cons, sizes_bytes xs, byteArr_size, List.flatten_cons, List.length_append, Nat.add_assoc]
theorem join_short {xs : List (List Int)} (h : xs.flatten.length ≤ 16777216) : Builtin.Bytes.tooLong ((xs.map byteArr).toArray.foldl (· + ·.size) ((#[] : Array UInt8).size * ((xs.map byteArr).length - 1))) = false := by
  have e : (#[] : Array UInt8).size * ((xs.map byteArr).length - 1) = 0 := Nat.zero_mul _
  rw [e, List.foldl_toArray, sizes_bytes, Nat.zero_add]
  exact decide_eq_false (by rw [sizeLine_eq]; omega)
end K33

namespace K33
open PySem PySem.Spec PyProof.Rows L2 Lay Pu
def q_write_run : PSp := fun γ K _ _ => ∃ (s : Span) (n : Nat) (l : Int), γ = [.sh (spv s), .sh (.int (n : Int)), .sh (.int l)] ∧ SpanOk s ∧ 1 ≤ l ∧ l ≤ 2147483647 ∧ n ≤ 100000 ∧ K (.byt (byteArr (rowBytes (runRows s n n l)))) γ
theorem byts_map (acc : List (List Int)) : acc.map (fun x => PV.byt (byteArr x)) = (acc.map byteArr).map PV.byt := by
  rw [List.map_map]
  rfl
theorem ok_write_run {P : Program} {w : World} {K : PySem.W.Frag} {mg : Str → Option Value} {base : Heap} (W : Wd K mg) : FOk P w K mg base (L2.CX P w) 8 "_write_run" ["span", "steps", "line"] (spOf K q_write_run) :=
  fok (F_write_run W) (g_write_run W) (fun _ _ _ _ _ _ us hl => match us, hl with | [_, _, _], _ => rfl) fun fd F => by
  refine F.ok sc_write_run (sp_len (n := 3) fun γ Kp Ko Ep h => ?_) (fun cdv A outer s H vs Q E hr h => ?_)
  · obtain ⟨s, n, l, rfl, _⟩ := h
    rfl
  · refine ⟨_, (jss_cons (js_setO (ps_set (i := 3) sc_write_run.nd rfl (Or.inl rfl) (po_lst ja_nil))) (jss_cons (js_while (passes_of rfl) (pb_cmp op_gt bin_gt (pp_v (pv 1)) pp_int) (jss_mid (js_set (ps_set (i := 4) sc_write_run.nd rfl (Or.inl rfl) (pp_cb (pe_callB (call_min2 rfl) (by rfl) (g_min W) (by decide +kernel) (ja_cons (pp_v (pv 1)) (ja_cons pp_int ja_nil))) cb_min))) (jss_cons (js_app (ps_expr (pe_bm PySem.F.plainAttrs_list PySem.F.slot_list_append PySem.F.type_list_append mt_append (pv 3) (ja_cons (pp_call (pe_fS (ok_write_entry W) (hr.mono (by decide)) (by rfl) (passES (takes_of rfl rfl rfl rfl)) (ja_cons (pp_v (pv 0)) (ja_cons (pp_v (pv 4)) (ja_cons (pp_v (pv 2)) ja_nil))))) ja_nil)))) (jss_cons (js_set (ps_set (i := 2) sc_write_run.nd rfl (Or.inl rfl) (pp_call (pe_fS (ok_line_behind W) (hr.mono (by decide)) (by rfl) pass0S (ja_cons (pp_v (pv 0)) (ja_cons (pp_v (pv 2)) ja_nil)))))) (jss_one (js_aug (ps_aug (i := 1) sc_write_run.nd rfl (Or.inl rfl) (pp_v (pv 4)) ip_sub))))))) (jss_one (js_ret (pp_bjoin (pe_bmY PySem.W.KBj.slot_join PySem.W.KBj.type_join mt_bjoin pe_byt (pa_cons (pp_fz (pv 3)) pa_nil))))))), body_of h fun γ Kp Ko Ep h => ?_⟩
    obtain ⟨s, n, l, rfl, hs, l1, l2, hn, k⟩ := h
    refine ⟨by show 0 ≤ sizeLine; decide, fun p => ?_⟩
    refine ⟨fun m γ => ∃ (f : Nat) (l' : Int) (acc : List (List Int)) (x4 : Sl), γ = [.sh (spv s), .sh (.int (m : Int)), .sh (.int l'), .ow p (.lst (acc.map fun x => .byt (byteArr x))), x4] ∧ m ≤ f ∧ acc.length + m ≤ n ∧ acc.flatten.length ≤ 29 * acc.length ∧ 1 ≤ l' ∧ l' ≤ 2147483647 ∧
      acc.flatten ++ rowBytes (runRows s f m l') = rowBytes (runRows s n n l), ⟨n, n, l, [], .no, rfl, Nat.le_refl _, by show 0 + n ≤ n; omega, Nat.le_refl _, l1, l2, rfl⟩, ?_⟩
    rintro m γ ⟨f, l', acc, x4, rfl, hmf, hacc, hfl, l1', l2', eb⟩
    refine ite_b (fun h0 => ?_) (fun h0 => ?_)
    · have h0 : (0 : Int) < (m : Int) := h0
      obtain ⟨f, rfl⟩ : ∃ f', f = f' + 1 := ⟨f - 1, by omega⟩
      have F := formB_ent hs l1' l2'
      have em : (if (8 : Int) < (m : Int) then (8 : Int) else (m : Int)) = ((min m 8 - 1 : Nat) : Int) + 1 := by
        split <;> omega
      have ha := after_ok hs l1' l2'
      have er : rowBytes (runRows s (f + 1) m l') = ((128 + 8 * ((formB s l').1 : Int) + ((min m 8 - 1 : Nat) : Int)) :: (formB s l').2) ++ rowBytes (runRows s f (m - min m 8) (lineAfter s l')) := by
        have e1 : runRows s (f + 1) m l' = ⟨0, min m 8, s, (128 + 8 * ((formB s l').1 : Int) + ((min m 8 - 1 : Nat) : Int)) :: (formB s l').2⟩ :: runRows s f (m - min m 8) (lineAfter s l') := if_neg (by omega)
        rw [e1]
        rfl
      refine ⟨fun γ => γ = [.sh (spv s), .sh (.int (m : Int)), .sh (.int l'), .ow p (.lst (acc.map fun x => .byt (byteArr x))), .sh (.int (((min m 8 - 1 : Nat) : Int) + 1))], ?_, ?_⟩
      · show [_, _, _, _, Sl.sh (.int (if (8 : Int) < (m : Int) then (8 : Int) else (m : Int)))] = _
        rw [em]
      rintro γ rfl
      refine ⟨s, l', min m 8 - 1, rfl, hs, l1', l2', by omega, ?_, s, l', rfl, ?_⟩
      · rw [List.length_map, sizeLine_eq]
        omega
      · refine ⟨m - min m 8, by omega, f, lineAfter s l', acc ++ [(128 + 8 * ((formB s l').1 : Int) + ((min m 8 - 1 : Nat) : Int)) :: (formB s l').2], .sh (.int (((min m 8 - 1 : Nat) : Int) + 1)), ?_, by omega, ?_, ?_, ha.1, ha.2, ?_⟩
        · have ez : (m : Int) - (((min m 8 - 1 : Nat) : Int) + 1) = ((m - min m 8 : Nat) : Int) := by omega
          show [_, Sl.sh (.int ((m : Int) - (((min m 8 - 1 : Nat) : Int) + 1))), _, Sl.ow p (.lst (acc.map (fun x => PV.byt (byteArr x)) ++ [PV.byt (byteArr ((128 + 8 * ((formB s l').1 : Int) + ((min m 8 - 1 : Nat) : Int)) :: (formB s l').2))])), _] = _
          rw [ez, List.map_append]
          rfl
        · rw [List.length_append, List.length_singleton]
          omega
        · have h28 := F.2.2.1
          rw [List.flatten_append, List.length_append, List.length_append, List.length_singleton, List.flatten_singleton, List.length_cons]
          omega
        · rw [List.flatten_append, List.flatten_singleton, List.append_assoc, ← er, eb]
    · have h0 : ¬ (0 : Int) < (m : Int) := h0
      obtain rfl : m = 0 := by omega
      have e0 : rowBytes (runRows s f 0 l') = [] := by
        cases f <;> rfl
      rw [e0, List.append_nil] at eb
      refine ⟨acc.map byteArr, byts_map acc, join_short (by omega), ?_, ?_⟩
      · rw [joined_bytes, byteArr_size, sizeLine_eq]
        omega
      · rw [joined_bytes, eb]
        exact k
end K33

namespace K33
open PySem PySem.Spec PyProof.Rows L2 Lay Pu
def rngP (r : Nat × Nat × Span) : PV := .tup [.int (r.1 : Int), .int (r.2.1 : Int), spv r.2.2]
def q_write_runs : PSp := fun γ K _ _ => ∃ (rs : List (Nat × Nat × Span)) (l : Int), γ = [.sh (.lst (rs.map rngP)), .sh (.int l)] ∧ (∀ r ∈ rs, r.1 ≤ r.2.1 ∧ SpanOk r.2.2) ∧ stepsR rs ≤ 100000 ∧ rs.length ≤ 100000 ∧ 1 ≤ l ∧ l ≤ 2147483647 ∧ K (.byt (byteArr (rowBytes (allRows rs l)))) γ
theorem ok_write_runs {P : Program} {w : World} {K : PySem.W.Frag} {mg : Str → Option Value} {base : Heap} (W : Wd K mg) : FOk P w K mg base (L2.CX P w) 9 "write_runs" ["runs", "first_line"] (spOf K q_write_runs) :=
  fok (F_write_runs W) (g_write_runs W) (fun _ _ _ _ _ _ us hl => match us, hl with | [_, _], _ => rfl) fun fd F => by
  refine F.ok sc_write_runs (sp_len (n := 2) fun γ Kp Ko Ep h => ?_) (fun cdv A outer s H vs Q E hr h => ?_)
  · obtain ⟨rs, l, rfl, _⟩ := h
    rfl
  · refine ⟨_, (jss_cons (js_setO (ps_set (i := 2) sc_write_runs.nd rfl (Or.inl rfl) (po_lst ja_nil))) (jss_cons (js_set (ps_set (i := 3) sc_write_runs.nd rfl (Or.inl rfl) (pp_v (pv 1)))) (jss_cons (js_for (passes_of rfl) rfl (ji_seq (pp_v (pv 0))) (jg_tup rfl (jgs_cons (jg_name (pg_name (i := 4) sc_write_runs.nd rfl (Or.inl rfl))) (jgs_cons (jg_name (pg_name (i := 5) sc_write_runs.nd rfl (Or.inl rfl))) (jgs_cons (jg_name (pg_name (i := 6) sc_write_runs.nd rfl (Or.inl rfl))) jgs_nil)))) (jss_cons (js_app (ps_expr (pe_bm PySem.F.plainAttrs_list PySem.F.slot_list_append PySem.F.type_list_append mt_append (pv 2) (ja_cons (pp_call (pe_fS (ok_write_run W) (hr.mono (by decide)) (by rfl) (passES (takes_of rfl rfl rfl rfl)) (ja_cons (pp_v (pv 6)) (ja_cons (pp_sub (pp_v (pv 5)) (pp_v (pv 4))) (ja_cons (pp_v (pv 3)) ja_nil))))) ja_nil)))) (jss_one (js_set (ps_set (i := 3) sc_write_runs.nd rfl (Or.inl rfl) (pp_call (pe_fS (ok_line_behind W) (hr.mono (by decide)) (by rfl) pass0S (ja_cons (pp_v (pv 6)) (ja_cons (pp_v (pv 3)) ja_nil))))))))) (jss_one (js_ret (pp_bjoin (pe_bmY PySem.W.KBj.slot_join PySem.W.KBj.type_join mt_bjoin pe_byt (pa_cons (pp_fz (pv 2)) pa_nil)))))))), body_of h fun γ Kp Ko Ep h => ?_⟩
    obtain ⟨rs, l, rfl, hok, hst, hlen, l1, l2, k⟩ := h
    refine ⟨by show 0 ≤ sizeLine; decide, fun p => ?_⟩
    refine ⟨fun i γ => ∃ (acc : List (List Int)) (x4 x5 x6 : Sl), γ = [.sh (.lst (rs.map rngP)), .sh (.int l), .ow p (.lst (acc.map fun x => .byt (byteArr x))), .sh (.int (endR l (rs.take i))), x4, x5, x6] ∧ acc.length = i ∧ acc.flatten = rowBytes (allRows (rs.take i) l) ∧ acc.flatten.length ≤ 29 * stepsR (rs.take i) ∧
      1 ≤ endR l (rs.take i) ∧ endR l (rs.take i) ≤ 2147483647, ⟨[], .no, .no, .no, rfl, rfl, rfl, Nat.zero_le _, l1, l2⟩, ?_, ?_⟩
    · rintro i x γ hi hx ⟨acc, x4, x5, x6, rfl, hacc, hb, hfl, e1, e2⟩
      obtain ⟨r, gr, rfl⟩ := map_get (show (rs.map rngP)[i]? = some x from hx)
      have hi : i < rs.length := (List.getElem?_eq_some_iff.mp gr).1
      have hr := hok r (get_mem' gr)
      have ht := take_snoc gr
      have t1 := endR_snoc r l (rs.take i)
      have t2 := allRows_snoc r l (rs.take i)
      have t3 := stepsR_snoc r (rs.take i)
      rw [← ht] at t1 t2 t3
      have t4 := stepsR_take rs (i + 1)
      have ha := after_ok hr.2 e1 e2
      have hw := runRows_len hr.2 (r.2.1 - r.1) (r.2.1 - r.1) (endR l (rs.take i)) e1 e2
      have ed : (r.2.1 : Int) - (r.1 : Int) = ((r.2.1 - r.1 : Nat) : Int) := by
        have := hr.1
        omega
      refine ⟨rfl, r.2.2, r.2.1 - r.1, endR l (rs.take i), congrArg (fun z => [Sl.sh (spv r.2.2), Sl.sh (.int z), Sl.sh (.int (endR l (rs.take i)))]) ed, hr.2, e1, e2, by omega, ?_, r.2.2, endR l (rs.take i), rfl, ?_⟩
      · rw [List.length_map, sizeLine_eq]
        omega
      · refine ⟨acc ++ [rowBytes (runRows r.2.2 (r.2.1 - r.1) (r.2.1 - r.1) (endR l (rs.take i)))], .sh (.int (r.1 : Int)), .sh (.int (r.2.1 : Int)), .sh (spv r.2.2), ?_, ?_, ?_, ?_, ?_, ?_⟩
        · rw [t1, List.map_append]
          rfl
        · rw [List.length_append, List.length_singleton, hacc]
        · rw [List.flatten_append, List.flatten_singleton, hb, t2, rowBytes_app]
        · rw [List.flatten_append, List.flatten_singleton, List.length_append, t3]
          omega
        · rw [t1]
          exact ha.1
        · rw [t1]
          exact ha.2
    · rintro γ ⟨acc, x4, x5, x6, rfl, hacc, hb, hfl, e1, e2⟩
      have e : rs.take (srcOf (rs.map rngP)).n = rs := by
        show rs.take (rs.map rngP).length = rs
        rw [List.length_map, List.take_length]
      rw [e] at hb hfl
      refine ⟨acc.map byteArr, byts_map acc, join_short (by omega), ?_, ?_⟩
      · rw [joined_bytes, byteArr_size, sizeLine_eq]
        omega
      · rw [joined_bytes, hb]
        exact k
end K33

namespace K33
open PySem PySem.Spec PyProof.Rows L2 Lay Pu
theorem spv_inj {s t : Span} (h : spv s = spv t) : s = t := by
  cases s with
  | none => cases t with
    | none => rfl
    | some p => cases h
  | some p => cases t with
    | none => cases h
    | some q =>
      obtain ⟨a, b, c, d⟩ := p
      obtain ⟨a2, b2, c2, d2⟩ := q
      have h := PV.tup.inj h
      simp only [List.cons.injEq, PV.int.injEq, and_true] at h
      obtain ⟨rfl, rfl, h3, h4⟩ := h
      have e3 : c = c2 := by
        cases c <;> cases c2 <;> first | rfl | (cases h3; done) | (cases h3; rfl)
      have e4 : d = d2 := by
        cases d <;> cases d2 <;> first | rfl | (cases h4; done) | (cases h4; rfl)
      rw [e3, e4]
theorem take_run {α : Type} {ss : List α} {st : Nat} {s : α} : ∀ {d : Nat}, (∀ j, st ≤ j → j < st + d → ss[j]? = some s) → ss.drop st = List.replicate d s ++ ss.drop (st + d)
  | 0, _ => rfl
  | d + 1, h => by
    have ih := take_run (d := d) fun j h1 h2 => h j h1 (by omega)
    obtain ⟨e1, e2⟩ := List.getElem?_eq_some_iff.mp (h (st + d) (by omega) (by omega))
    rw [ih, List.drop_eq_getElem_cons e1, e2, List.replicate_succ', List.append_assoc]
    rfl
def rngF' {α : Type} (f : α → PV) (r : Nat × Nat × α) : PV := .tup [.int (r.1 : Int), .int (r.2.1 : Int), f r.2.2]
/-- values that are told apart as their pictures are -/
def Apart {α : Type} (f : α → PV) (xs : List α) : Prop := ∀ x ∈ xs, ∀ y ∈ xs, ∀ k : PV → Prop, (x = y → k (.bl false)) → (x ≠ y → k (.bl true)) → neQ (f x) (f y) k
theorem apart_spv (ss : List Span) : Apart spv ss := fun x _ y _ k h1 h2 => neQ_pl (pl_span x) (pl_span y) (by decide) (by decide) (fun e => h1 (spv_inj e)) (fun e => h2 fun z => e (by rw [z]))
def q_ranges_of : PSp := fun γ _ Ko _ => ∃ (α : Type) (i : DecidableEq α) (f : α → PV) (ss : List α) (v : PV), γ = [.sh v] ∧ (v = .lst (ss.map f) ∨ v = .tup (ss.map f)) ∧ Apart f ss ∧ ss.length ≤ 100000 ∧ ∀ a, Ko a (.lst ((rgsF 0 ss).map (rngF' f))) γ
theorem at_map {α : Type} {f : α → PV} {ss : List α} {i : Nat} {s : α} {j : Int} (h : ss[i]? = some s) (hj : j = (i : Int)) : atI (ss.map f) j = some (f s) := by
  subst hj
  exact L2.atI_nat (by rw [List.getElem?_map, h]; rfl)
theorem ok_ranges_of {P : Program} {w : World} {K : PySem.W.Frag} {mg : Str → Option Value} {base : Heap} (W : Wd K mg) : FOk P w K mg base CX0 1 "ranges_of" ["values"] (spOf K q_ranges_of) :=
  fok (F_ranges_of W) (g_ranges_of W) (fun _ _ _ _ _ _ us hl => match us, hl with | [_], _ => rfl) fun fd F => by
  refine F.ok sc_ranges_of (sp_len (n := 1) fun γ Kp Ko Ep h => ?_) (fun cdv A outer s H vs Q E hr h => ?_)
  · obtain ⟨α, dec, f, ss, v, rfl, _⟩ := h
    rfl
  · refine ⟨_, PSs.nox (jss_cons (js_setO (ps_set (i := 1) sc_ranges_of.nd rfl (Or.inl rfl) (po_lst ja_nil))) (jss_cons (js_set (ps_set (i := 2) sc_ranges_of.nd rfl (Or.inl rfl) pp_int)) (jss_cons (js_for PassesOwn.never rfl (ji_enumA (pi_enumA (by rfl) (g_enumerate W) (ja_cons (pp_v (pv 0)) ja_nil))) (jg_tup rfl (jgs_cons (jg_name (pg_name (i := 3) sc_ranges_of.nd rfl (Or.inl rfl))) (jgs_cons (jg_name (pg_name (i := 4) sc_ranges_of.nd rfl (Or.inl rfl))) jgs_nil))) (jss_one (js_if (pb_cmp (op_neA hr.units) bin_neQ (pp_v (pv 4)) (pp_ix (pp_v (pv 0)) (pp_v (pv 2)))) (jss_cons (js_app (ps_expr (pe_bm PySem.F.plainAttrs_list PySem.F.slot_list_append PySem.F.type_list_append mt_append (pv 1) (ja_cons (pp_tup (ja_cons (pp_v (pv 2)) (ja_cons (pp_v (pv 3)) (ja_cons (pp_ix (pp_v (pv 0)) (pp_v (pv 2))) ja_nil)))) ja_nil)))) (jss_one (js_set (ps_set (i := 2) sc_ranges_of.nd rfl (Or.inl rfl) (pp_v (pv 3)))))) jss_nil))) (jss_cons (js_if (pb_cmp op_lt bin_lt (pp_v (pv 2)) (pp_cb (pe_callB call_len (by rfl) (g_len W) (by decide +kernel) (ja_cons (pp_v (pv 0)) ja_nil)) cb_len)) (jss_one (js_app (ps_expr (pe_bm PySem.F.plainAttrs_list PySem.F.slot_list_append PySem.F.type_list_append mt_append (pv 1) (ja_cons (pp_tup (ja_cons (pp_v (pv 2)) (ja_cons (pp_cb (pe_callB call_len (by rfl) (g_len W) (by decide +kernel) (ja_cons (pp_v (pv 0)) ja_nil)) cb_len) (ja_cons (pp_ix (pp_v (pv 0)) (pp_v (pv 2))) ja_nil)))) ja_nil))))) jss_nil) (jss_one (js_retO (pp_mv (pv 1)))))))), body_of h fun γ Kp Ko Ep h => ?_⟩
    obtain ⟨α, dec, f, ss, v, rfl, e0, told, hl, k⟩ := h
    rcases e0 with rfl | rfl
    · refine ⟨by show 0 ≤ sizeLine; decide, fun p => ?_⟩
      refine ⟨fun i γ => ∃ (st : Nat) (acc : List (Nat × Nat × α)) (x3 x4 : Sl), γ = [.sh (.lst (ss.map f)), .ow p (.lst (acc.map (rngF' f))), .sh (.int (st : Int)), x3, x4] ∧ st ≤ i ∧ i ≤ ss.length ∧ (0 < i → st < i) ∧ (∀ s, ss[st]? = some s → ∀ j, st ≤ j → j < i → ss[j]? = some s) ∧
        acc ++ rgsF st (ss.drop st) = rgsF 0 ss ∧ acc.length ≤ st, ⟨0, [], .no, .no, rfl, Nat.le_refl _, Nat.zero_le _, (fun h => h), (fun s h j h1 h2 => by omega), rfl, Nat.le_refl _⟩, ?_, ?_⟩
      · rintro i x γ hi ⟨y, hy, rfl⟩ ⟨st, acc, x3, x4, rfl, hst, hi2, hlt, hrun, hacc, hlen⟩
        obtain ⟨s, gs, rfl⟩ := map_get hy
        have hi : i < ss.length := (List.getElem?_eq_some_iff.mp gs).1
        have g0 : ss[st]? = some (ss[st]'(by omega)) := List.getElem?_eq_getElem (by omega)
        generalize ss[st]'(by omega) = t at g0
        have ht := at_map (f := f) g0 (rfl : (st : Int) = (st : Int))
        refine ⟨rfl, f t, ht, told s (get_mem' gs) t (get_mem' g0) _ (fun e => ?_) (fun hne => ?_)⟩
        · subst e
          refine ⟨st, acc, .sh (.int (i : Int)), .sh (f s), rfl, by omega, hi, fun _ => by omega, fun u gu j h1 h2 => ?_, hacc, hlen⟩
          by_cases hj : j = i
          · subst hj
            rw [← gu, g0]
            exact gs
          · exact hrun u gu j h1 (by omega)
        · have hlt2 : st < i := by
            rcases Nat.lt_or_ge st i with h | h
            · exact h
            · have : st = i := by omega
              subst this
              rw [gs] at g0
              exact absurd (Option.some.inj g0) hne
          have er := take_run (ss := ss) (st := st) (s := t) (d := i - st - 1 + 1) fun j h1 h2 => hrun t g0 j h1 (by omega)
          have ei : st + (i - st - 1 + 1) = i := by omega
          have eh : (ss.drop (st + (i - st - 1 + 1))).head? ≠ some t := by
            rw [ei, List.head?_drop, gs]
            exact fun z => hne (Option.some.inj z)
          rw [er, rgs_run eh, ei] at hacc
          refine ⟨f t, ht, by show 3 ≤ sizeLine; decide, ?_, ?_⟩
          · rw [List.length_map, sizeLine_eq]
            omega
          · refine ⟨i, acc ++ [(st, i, t)], .sh (.int (i : Int)), .sh (f s), ?_, by omega, hi, fun _ => by omega, fun u gu j h1 h2 => ?_, ?_, ?_⟩
            · rw [List.map_append]
              rfl
            · have : j = i := by omega
              subst this
              exact gu
            · rw [List.append_assoc]
              exact hacc
            · rw [List.length_append, List.length_singleton]
              omega
      · rintro γ ⟨st, acc, x3, x4, rfl, hst, hi2, hlt, hrun, hacc, hlen⟩
        have en : (srcE (ss.map f)).n = ss.length := by
          show (ss.map f).length = _
          rw [List.length_map]
        rw [en] at hst hlt hrun
        refine ite_b (fun h => ?_) (fun h => ?_)
        · have h : (st : Int) < ((ss.map f).length : Int) := h
          rw [List.length_map] at h
          have hs : st < ss.length := by omega
          have g0 : ss[st]? = some ss[st] := List.getElem?_eq_getElem hs
          generalize ss[st] = t at g0
          have ht := at_map (f := f) g0 (rfl : (st : Int) = (st : Int))
          have er := take_run (ss := ss) (st := st) (s := t) (d := ss.length - st - 1 + 1) fun j h1 h2 => hrun t g0 j h1 (by omega)
          have ei : st + (ss.length - st - 1 + 1) = ss.length := by omega
          have ez : ss.drop (st + (ss.length - st - 1 + 1)) = [] := by
            rw [ei]
            exact List.drop_of_length_le (Nat.le_refl _)
          rw [er, ez, rgs_run (xs := []) (by show none ≠ some t; exact nofun), ei] at hacc
          have hacc : acc ++ [(st, ss.length, t)] = rgsF 0 ss := hacc
          refine ⟨f t, ht, by show 3 ≤ sizeLine; decide, ?_, ?_⟩
          · rw [List.length_map, sizeLine_eq]
            omega
          · have z := k p
            rw [← hacc, List.map_append] at z
            show Ko p (.lst (acc.map (rngF' f) ++ [.tup [.int (st : Int), .int ((ss.map f).length : Int), f t]])) _
            rw [List.length_map]
            exact z
        · have h : ¬ (st : Int) < ((ss.map f).length : Int) := h
          rw [List.length_map] at h
          have ez : ss.drop st = [] := List.drop_of_length_le (by omega)
          rw [ez] at hacc
          have hacc : acc ++ [] = rgsF 0 ss := hacc
          rw [List.append_nil] at hacc
          rw [hacc]
          exact k p
    · refine ⟨by show 0 ≤ sizeLine; decide, fun p => ?_⟩
      refine ⟨fun i γ => ∃ (st : Nat) (acc : List (Nat × Nat × α)) (x3 x4 : Sl), γ = [.sh (.tup (ss.map f)), .ow p (.lst (acc.map (rngF' f))), .sh (.int (st : Int)), x3, x4] ∧ st ≤ i ∧ i ≤ ss.length ∧ (0 < i → st < i) ∧ (∀ s, ss[st]? = some s → ∀ j, st ≤ j → j < i → ss[j]? = some s) ∧
        acc ++ rgsF st (ss.drop st) = rgsF 0 ss ∧ acc.length ≤ st, ⟨0, [], .no, .no, rfl, Nat.le_refl _, Nat.zero_le _, (fun h => h), (fun s h j h1 h2 => by omega), rfl, Nat.le_refl _⟩, ?_, ?_⟩
      · rintro i x γ hi ⟨y, hy, rfl⟩ ⟨st, acc, x3, x4, rfl, hst, hi2, hlt, hrun, hacc, hlen⟩
        obtain ⟨s, gs, rfl⟩ := map_get hy
        have hi : i < ss.length := (List.getElem?_eq_some_iff.mp gs).1
        have g0 : ss[st]? = some (ss[st]'(by omega)) := List.getElem?_eq_getElem (by omega)
        generalize ss[st]'(by omega) = t at g0
        have ht := at_map (f := f) g0 (rfl : (st : Int) = (st : Int))
        refine ⟨rfl, f t, ht, told s (get_mem' gs) t (get_mem' g0) _ (fun e => ?_) (fun hne => ?_)⟩
        · subst e
          refine ⟨st, acc, .sh (.int (i : Int)), .sh (f s), rfl, by omega, hi, fun _ => by omega, fun u gu j h1 h2 => ?_, hacc, hlen⟩
          by_cases hj : j = i
          · subst hj
            rw [← gu, g0]
            exact gs
          · exact hrun u gu j h1 (by omega)
        · have hlt2 : st < i := by
            rcases Nat.lt_or_ge st i with h | h
            · exact h
            · have : st = i := by omega
              subst this
              rw [gs] at g0
              exact absurd (Option.some.inj g0) hne
          have er := take_run (ss := ss) (st := st) (s := t) (d := i - st - 1 + 1) fun j h1 h2 => hrun t g0 j h1 (by omega)
          have ei : st + (i - st - 1 + 1) = i := by omega
          have eh : (ss.drop (st + (i - st - 1 + 1))).head? ≠ some t := by
            rw [ei, List.head?_drop, gs]
            exact fun z => hne (Option.some.inj z)
          rw [er, rgs_run eh, ei] at hacc
          refine ⟨f t, ht, by show 3 ≤ sizeLine; decide, ?_, ?_⟩
          · rw [List.length_map, sizeLine_eq]
            omega
          · refine ⟨i, acc ++ [(st, i, t)], .sh (.int (i : Int)), .sh (f s), ?_, by omega, hi, fun _ => by omega, fun u gu j h1 h2 => ?_, ?_, ?_⟩
            · rw [List.map_append]
              rfl
            · have : j = i := by omega
              subst this
              exact gu
            · rw [List.append_assoc]
              exact hacc
            · rw [List.length_append, List.length_singleton]
              omega
      · rintro γ ⟨st, acc, x3, x4, rfl, hst, hi2, hlt, hrun, hacc, hlen⟩
        have en : (srcE (ss.map f)).n = ss.length := by
          show (ss.map f).length = _
          rw [List.length_map]
        rw [en] at hst hlt hrun
        refine ite_b (fun h => ?_) (fun h => ?_)
        · have h : (st : Int) < ((ss.map f).length : Int) := h
          rw [List.length_map] at h
          have hs : st < ss.length := by omega
          have g0 : ss[st]? = some ss[st] := List.getElem?_eq_getElem hs
          generalize ss[st] = t at g0
          have ht := at_map (f := f) g0 (rfl : (st : Int) = (st : Int))
          have er := take_run (ss := ss) (st := st) (s := t) (d := ss.length - st - 1 + 1) fun j h1 h2 => hrun t g0 j h1 (by omega)
          have ei : st + (ss.length - st - 1 + 1) = ss.length := by omega
          have ez : ss.drop (st + (ss.length - st - 1 + 1)) = [] := by
            rw [ei]
            exact List.drop_of_length_le (Nat.le_refl _)
          rw [er, ez, rgs_run (xs := []) (by show none ≠ some t; exact nofun), ei] at hacc
          have hacc : acc ++ [(st, ss.length, t)] = rgsF 0 ss := hacc
          refine ⟨f t, ht, by show 3 ≤ sizeLine; decide, ?_, ?_⟩
          · rw [List.length_map, sizeLine_eq]
            omega
          · have z := k p
            rw [← hacc, List.map_append] at z
            show Ko p (.lst (acc.map (rngF' f) ++ [.tup [.int (st : Int), .int ((ss.map f).length : Int), f t]])) _
            rw [List.length_map]
            exact z
        · have h : ¬ (st : Int) < ((ss.map f).length : Int) := h
          rw [List.length_map] at h
          have ez : ss.drop st = [] := List.drop_of_length_le (by omega)
          rw [ez] at hacc
          have hacc : acc ++ [] = rgsF 0 ss := hacc
          rw [List.append_nil] at hacc
          rw [hacc]
          exact k p
end K33

namespace K33
open PySem PySem.Spec PyProof.Rows L2 Lay Pu
theorem span_true {s : Span} (hs : SpanOk s) : spanP (spv s) = true := by
  cases s with
  | none => rfl
  | some p =>
    have h : p.ok := hs
    have e := spanB_ok (H := fun _ => some (.tup p.vs)) (v := .ref 0) (s := some p) ⟨0, rfl, rfl⟩ h
    have e2 : posB p = true := by
      have := spanB_tup (H := fun _ => some (.tup p.vs)) (a := 0) (l := .int p.l) (e := .int p.e) (c := ov p.c) (d := ov p.d) rfl
      rw [this] at e
      exact e
    exact (span4_eq p.l p.e p.c p.d).trans e2
theorem spv_ty (s : Span) : ∃ n, (spv s).tyN = some n := by
  cases s <;> exact ⟨_, rfl⟩
theorem spv_items (s : Span) : ∀ xs, spv s = .tup xs → xs.length = 4 → ∀ y ∈ xs, ∃ m, y.tyN = some m := by
  intro xs e _ y hy
  cases s with
  | none => cases e
  | some p =>
    cases e
    simp only [List.mem_cons, List.not_mem_nil, or_false] at hy
    rcases hy with rfl | rfl | rfl | rfl
    · exact ⟨_, rfl⟩
    · exact ⟨_, rfl⟩
    · exact ovP_ty _
    · exact ovP_ty _
/-- things of which is_span can be asked -/
def SpItem (y : PV) : Prop := (∃ m, y.tyN = some m) ∧ ∀ zs, y = .tup zs → zs.length = 4 → ∀ z ∈ zs, ∃ m, z.tyN = some m
theorem spItem (s : Span) : SpItem (spv s) := ⟨spv_ty s, spv_items s⟩
/-- the i-th is the first that is no span -/
def BadAt (xs : List PV) (i : Nat) : Prop := (∃ y, xs[i]? = some y ∧ spanP y = false) ∧ ∀ (j : Nat) (z : PV), j < i → xs[j]? = some z → spanP z = true
def q_check_spans : PSp := fun γ K _ E => ∃ (x : PV) (n : String), γ = [.sh x] ∧ x.tyN = some n ∧ ((∀ xs, x ≠ .lst xs ∧ x ≠ .tup xs) → E "BadSpan" [("at", .int (-1))] γ) ∧
  ∀ xs, (x = .lst xs ∨ x = .tup xs) → (∀ y ∈ xs, SpItem y) ∧ ((∀ y ∈ xs, spanP y = true) → K .non γ) ∧ ∀ i, BadAt xs i → E "BadSpan" [("at", .int (i : Int))] γ
/-- the table that is written for these spans -/
def wTab (ss : List Span) (l : Int) : PV := tabP (byteArr (rowBytes (wRows ss l))) l (rowEnts 0 (wRows ss l))
def q_Table_of : PSp := fun γ K _ E => ∃ (x y : PV) (n m : String), γ = [.sh x, .sh y] ∧ x.tyN = some n ∧ y.tyN = some m ∧ ((∀ xs, x ≠ .lst xs ∧ x ≠ .tup xs) → E "BadSpan" [("at", .int (-1))] γ) ∧
  ∀ xs, (x = .lst xs ∨ x = .tup xs) → (∀ y ∈ xs, SpItem y) ∧ (∀ i, BadAt xs i → E "BadSpan" [("at", .int (i : Int))] γ) ∧ ((∀ y ∈ xs, spanP y = true) → inRP y 1 2147483647 = false → E "BadLine" [("line", y)] γ) ∧
    ((∀ y ∈ xs, spanP y = true) → ∀ l, y = .int l → 1 ≤ l → l ≤ 2147483647 → ∃ ss : List Span, xs = ss.map spv ∧ (∀ s ∈ ss, SpanOk s) ∧ ss.length ≤ 60000 ∧ K (wTab ss l) γ)
theorem badAt_no {ss : List Span} (h : ∀ s ∈ ss, SpanOk s) {i : Nat} (b : BadAt (ss.map spv) i) : False := by
  obtain ⟨⟨y, hy, hf⟩, _⟩ := b
  obtain ⟨s, gs, rfl⟩ := map_get hy
  rw [span_true (h s (get_mem' gs))] at hf
  cases hf
theorem all_spans {ss : List Span} (h : ∀ s ∈ ss, SpanOk s) : ∀ y ∈ ss.map spv, spanP y = true := fun y hy => by
  obtain ⟨s, hs, rfl⟩ := List.mem_map.mp hy
  exact span_true (h s hs)
theorem map_spv_inj : ∀ {ss tt : List Span}, ss.map spv = tt.map spv → ss = tt
  | [], [], _ => rfl
  | [], _ :: _, h => by cases h
  | _ :: _, [], h => by cases h
  | s :: ss, t :: tt, h => by
    injection h with h1 h2
    rw [spv_inj h1, map_spv_inj h2]
theorem spItems (ss : List Span) : ∀ y ∈ ss.map spv, SpItem y := fun y hy => by
  obtain ⟨s, _, rfl⟩ := List.mem_map.mp hy
  exact spItem s
theorem of_ty {x : PV} {ss : List Span} (hx : x = .lst (ss.map spv) ∨ x = .tup (ss.map spv)) : ∃ n, x.tyN = some n := by
  rcases hx with rfl | rfl <;> exact ⟨_, rfl⟩
theorem of_kind {x : PV} {ss : List Span} (hx : x = .lst (ss.map spv) ∨ x = .tup (ss.map spv)) (h : ∀ xs, x ≠ .lst xs ∧ x ≠ .tup xs) : False := by
  rcases hx with rfl | rfl
  · exact (h _).1 rfl
  · exact (h _).2 rfl
theorem of_list {x : PV} {ss : List Span} (hx : x = .lst (ss.map spv) ∨ x = .tup (ss.map spv)) {xs : List PV} (h : x = .lst xs ∨ x = .tup xs) : xs = ss.map spv := by
  rcases hx with rfl | rfl <;> rcases h with h | h <;> cases h <;> rfl
theorem of_line {l : Int} (h : inRP (.int l) 1 2147483647 = false) (l1 : 1 ≤ l) (l2 : l ≤ 2147483647) : False := by
  have h : (decide ((1 : Int) ≤ l) && decide (l ≤ 2147483647)) = false := h
  rw [decide_eq_true l1, decide_eq_true l2] at h
  cases h
/-- a table of these spans is made -/
theorem of_ok {x : PV} {ss : List Span} {l : Int} {Kp : PV → List Sl → Prop} {Ko : Addr → Cell → List Sl → Prop} {Ep : EK} (hx : x = .lst (ss.map spv) ∨ x = .tup (ss.map spv)) (hok : ∀ s ∈ ss, SpanOk s) (hlen : ss.length ≤ 60000) (l1 : 1 ≤ l) (l2 : l ≤ 2147483647)
    (k : Kp (wTab ss l) [.sh x, .sh (.int l)]) : q_Table_of [.sh x, .sh (.int l)] Kp Ko Ep := by
  have hn : ∃ n, x.tyN = some n := by rcases hx with rfl | rfl <;> exact ⟨_, rfl⟩
  obtain ⟨n, hn⟩ := hn
  refine ⟨x, .int l, n, "int", rfl, hn, rfl, fun h => ?_, fun xs h => ?_⟩
  · rcases hx with rfl | rfl
    · exact absurd rfl (h _).1
    · exact absurd rfl (h _).2
  · have e : xs = ss.map spv := by
      rcases hx with rfl | rfl <;> rcases h with h | h <;> cases h <;> rfl
    subst e
    refine ⟨fun y hy => ?_, fun i b => (badAt_no hok b).elim, fun _ h => ?_, fun _ l' e _ _ => ?_⟩
    · obtain ⟨s, _, rfl⟩ := List.mem_map.mp hy
      exact spItem s
    · have h : (decide ((1 : Int) ≤ l) && decide (l ≤ 2147483647)) = false := h
      rw [decide_eq_true l1, decide_eq_true l2] at h
      cases h
    · cases e
      exact ⟨ss, rfl, hok, hlen, k⟩
def q_shortest : PSp := fun γ K _ _ => ∃ (b : Array UInt8) (l : Int) (es : List (Nat × Nat × Ent)), γ = [.sh (tabP b l es)] ∧ (∀ s ∈ spansOf es, SpanOk s) ∧ (spansOf es).length ≤ 60000 ∧ 1 ≤ l ∧ l ≤ 2147483647 ∧ K (wTab (spansOf es) l) γ
theorem ok_check_spans {P : Program} {w : World} {K : PySem.W.Frag} {mg : Str → Option Value} {base : Heap} (W : Wd K mg) : FOk P w K mg base (L2.CX P w) 4 "check_spans" ["spans"] (spOf K q_check_spans) :=
  fok (F_check_spans W) (g_check_spans W) (fun _ _ _ _ _ _ us hl => match us, hl with | [_], _ => rfl) fun fd F => by
  refine F.ok sc_check_spans (sp_len (n := 1) fun γ Kp Ko Ep h => ?_) (fun cdv A outer s H vs Q E hr h => ?_)
  · obtain ⟨x, n, rfl, _⟩ := h
    rfl
  · refine ⟨_, (jss_cons (js_if (pb_not (pb_tru (pp_cb (pe_callB call_isiA (by rfl) (g_isinstance W) (by decide +kernel) (ja_cons (pp_v (pv 0)) (ja_cons (pp_tup (ja_cons (pp_gty (pe_bltn (v := .ty "list") rfl (g_list W) (by decide +kernel) rfl)) (ja_cons (pp_gty (pe_bltn (v := .ty "tuple") rfl (g_tuple W) (by decide +kernel) rfl)) ja_nil))) ja_nil))) cb_isi))) (jss_one (js_raise1 rfl (takes_of rfl rfl rfl rfl) (pmk1 (x_BadSpan W) (i_BadSpan W) (hr.mono (by decide)) (by rfl) mono_tA (ja_cons (pp_neg pp_int) ja_nil)))) jss_nil) (jss_one (js_for (passes_of rfl) rfl (ji_enumA (pi_enumA (by rfl) (g_enumerate W) (ja_cons (pp_v (pv 0)) ja_nil))) (jg_tup rfl (jgs_cons (jg_name (pg_name (i := 1) sc_check_spans.nd rfl (Or.inl rfl))) (jgs_cons (jg_name (pg_name (i := 2) sc_check_spans.nd rfl (Or.inl rfl))) jgs_nil))) (jss_one (js_if (pb_not (pb_tru (pp_call (pe_fS (ok_is_span W) (hr.mono (by decide)) (by rfl) pass0S (ja_cons (pp_v (pv 2)) ja_nil))))) (jss_one (js_raise1 rfl (takes_of rfl rfl rfl rfl) (pmk1 (x_BadSpan W) (i_BadSpan W) (hr.mono (by decide)) (by rfl) mono_tA (ja_cons (pp_v (pv 1)) ja_nil)))) jss_nil))))), body_of h fun γ Kp Ko Ep h => ?_⟩
    obtain ⟨x, n, rfl, hn, kn, k⟩ := h
    cases x with
    | lst xs =>
      obtain ⟨hit, k, kb⟩ := k xs (.inl rfl)
      refine ⟨by show 2 ≤ sizeLine; decide, ["list", "tuple"], "list", rfl, by simp [isiOk], rfl, ?_⟩
      refine ⟨fun i γ => i ≤ xs.length ∧ (∀ (j : Nat) (z : PV), j < i → xs[j]? = some z → spanP z = true) ∧ ∃ (x1 x2 : Sl), γ = [.sh (.lst xs), x1, x2], ⟨Nat.zero_le _, (fun j z h => nomatch h), _, _, rfl⟩, ?_, ?_⟩
      · rintro i x γ hi ⟨y, hy, rfl⟩ ⟨hi2, hall, x1, x2, rfl⟩
        have hlt : i < xs.length := hi
        obtain ⟨⟨m, hm⟩, hz⟩ := hit y (get_mem' hy)
        refine ⟨rfl, y, m, rfl, hm, hz, ?_⟩
        refine ite_n' (spanP y) (fun hs => ⟨hlt, fun j z hj hz => ?_, _, _, rfl⟩) (fun hs => kb i ⟨⟨y, hy, hs⟩, hall⟩)
        by_cases e : j = i
        · subst e
          rw [hy] at hz
          cases hz
          exact hs
        · exact hall j z (by omega) hz
      · rintro γ ⟨hi2, hall, x1, x2, rfl⟩
        refine k fun y hy => ?_
        obtain ⟨j, hj, rfl⟩ := List.mem_iff_getElem.mp hy
        exact hall j _ hj (List.getElem?_eq_getElem hj)
    | tup xs =>
      obtain ⟨hit, k, kb⟩ := k xs (.inr rfl)
      refine ⟨by show 2 ≤ sizeLine; decide, ["list", "tuple"], "tuple", rfl, by simp [isiOk], rfl, ?_⟩
      refine ⟨fun i γ => i ≤ xs.length ∧ (∀ (j : Nat) (z : PV), j < i → xs[j]? = some z → spanP z = true) ∧ ∃ (x1 x2 : Sl), γ = [.sh (.tup xs), x1, x2], ⟨Nat.zero_le _, (fun j z h => nomatch h), _, _, rfl⟩, ?_, ?_⟩
      · rintro i x γ hi ⟨y, hy, rfl⟩ ⟨hi2, hall, x1, x2, rfl⟩
        have hlt : i < xs.length := hi
        obtain ⟨⟨m, hm⟩, hz⟩ := hit y (get_mem' hy)
        refine ⟨rfl, y, m, rfl, hm, hz, ?_⟩
        refine ite_n' (spanP y) (fun hs => ⟨hlt, fun j z hj hz => ?_, _, _, rfl⟩) (fun hs => kb i ⟨⟨y, hy, hs⟩, hall⟩)
        by_cases e : j = i
        · subst e
          rw [hy] at hz
          cases hz
          exact hs
        · exact hall j z (by omega) hz
      · rintro γ ⟨hi2, hall, x1, x2, rfl⟩
        refine k fun y hy => ?_
        obtain ⟨j, hj, rfl⟩ := List.mem_iff_getElem.mp hy
        exact hall j _ hj (List.getElem?_eq_getElem hj)
    | _ => first
      | (cases hn; exact ⟨by show 2 ≤ sizeLine; decide, ["list", "tuple"], _, rfl, by simp [isiOk], rfl, kn fun xs => ⟨nofun, nofun⟩⟩)
      | (cases hn; done)
theorem ok_Table_of {P : Program} {w : World} {K : PySem.W.Frag} {mg : Str → Option Value} {base : Heap} (W : Wd K mg) : SOk P w K mg base (L2.CX P w) 12 "Table" "of" ["spans", "first_line"] (spOf K q_Table_of) := by
  obtain ⟨fd, F⟩ := F_Table_of W
  refine ⟨fd, ?_, F.bindsN fun _ _ _ _ _ _ us hl => match us, hl with | [_, _], _ => rfl⟩
  refine F.ok sc_Table_of (sp_len (n := 2) fun γ Kp Ko Ep h => ?_) (fun cdv A outer s H vs Q E hr h => ?_)
  · obtain ⟨x, y, n, m, rfl, _⟩ := h
    rfl
  · refine ⟨_, (jss_cons (js_expr (pp_call (pe_fS (ok_check_spans W) (hr.mono (by decide)) (by rfl) (passES (takes_of rfl rfl rfl rfl)) (ja_cons (pp_v (pv 0)) ja_nil)))) (jss_cons (js_expr (pp_call (pe_fS (ok_check_source_line W) (hr.mono (by decide)) (by rfl) (passES (takes_of rfl rfl rfl rfl)) (ja_cons (pp_v (pv 1)) ja_nil)))) (jss_one (js_ret (pp_sh (po_mk (pe_mkS (mk_Table W) (ok_Table_init W) (hr.mono (by decide)) rfl (gc_Table W) (passES (takes_of rfl rfl rfl rfl)) (ja_cons (pp_call (pe_fS (ok_write_runs W) (hr.mono (by decide)) (by rfl) (passES (takes_of rfl rfl rfl rfl)) (ja_cons (pp_call (pe_fS (ok_ranges_of W) (hr.mono (by decide)) (by rfl) pass0S (ja_cons (pp_v (pv 0)) ja_nil))) (ja_cons (pp_v (pv 1)) ja_nil)))) (ja_cons (pp_v (pv 1)) ja_nil))))))))), body_of h fun γ Kp Ko Ep h => ?_⟩
    obtain ⟨x, y, n, m, rfl, hn, hm, kn, k⟩ := h
    refine ⟨x, n, rfl, hn, kn, fun xs hx => ?_⟩
    obtain ⟨hit, kb, kl, ks⟩ := k xs hx
    refine ⟨hit, fun hall => ?_, kb⟩
    refine ⟨y, m, rfl, hm, fun hy => ?_, fun hy => kl hall hy⟩
    obtain ⟨l, rfl, l1, l2⟩ := inRP_int hy
    obtain ⟨ss, rfl, hok, hlen, k⟩ := ks hall l rfl l1 l2
    refine ⟨Span, inferInstance, spv, ss, x, rfl, hx, apart_spv ss, by omega, fun a => ?_⟩
    refine ⟨rgs ss, l, rfl, fun r hr => ⟨Nat.le_of_lt (rgs_mem hr).1, hok _ (rgs_mem hr).2⟩, by rw [rgs_steps]; omega, by have h : (rgs ss).length ≤ ss.length := rgs_len ss 0; omega, l1, l2, fun w => ?_⟩
    have R := wRows_ok hok l1 l2
    have N := wRows_len hok l1 l2
    have hb : rowBytes (allRows (rgs ss) l) = rowBytes (wRows ss l) := (wRows_bytes ss l).symm
    show q_Table_init [_, Sl.sh (.byt (byteArr (rowBytes (allRows (rgs ss) l)))), _] _ _ _
    rw [hb]
    refine init_gen (.inl rfl) (by rw [byteArr_size]; omega) l1 l2 ?_
    rw [byteArr_bi (rowBytes_ok R), rows_entries R]
    refine ⟨?_, k⟩
    rw [spansOf_rows, wRows_spans]
    omega
end K33

namespace K33
open PySem PySem.Spec PyProof.Rows L2 Lay Pu
theorem wTab_dat {ss : List Span} {l : Int} (h : ∀ s ∈ ss, SpanOk s) (l1 : 1 ≤ l) (l2 : l ≤ 2147483647) : bi (byteArr (rowBytes (wRows ss l))) = wB ss l := by
  rw [byteArr_bi (rowBytes_ok (wRows_ok h l1 l2)), wB_rows]
theorem wTab_siz {ss : List Span} {l : Int} (h : ∀ s ∈ ss, SpanOk s) (l1 : 1 ≤ l) (l2 : l ≤ 2147483647) : (byteArr (rowBytes (wRows ss l))).size ≤ 29 * ss.length := by
  rw [byteArr_size]
  exact wRows_len h l1 l2
theorem cutP_take {xs : List PV} (k : Nat) : cutP xs none (some (k : Int)) = xs.take k := by
  rcases Nat.lt_or_ge xs.length k with h | h
  · have e : xs.take k = xs := List.take_of_length_le (by omega)
    unfold cutP
    rw [HT.sIx_none, HT.sIx_nat, Nat.min_eq_right (by omega), e]
    exact List.take_of_length_le (Nat.le_refl _)
  · exact cutP_to h
theorem cutP_pre {α : Type} {f : α → PV} {xs : List α} (k : Nat) : cutP (xs.map f) none (some (k : Int)) = (xs.take k).map f := by
  rw [cutP_take, List.map_take]
theorem cutP_back {xs : List PV} (k : Nat) : cutP xs (some (k : Int)) none = xs.drop k := by
  rcases Nat.lt_or_ge xs.length k with h | h
  · have e : xs.drop k = [] := List.drop_of_length_le (by omega)
    unfold cutP
    rw [HT.sIx_none, HT.sIx_nat, Nat.min_eq_right (by omega), e, List.drop_length]
    exact List.take_nil
  · exact cutP_from h
theorem cutP_post {α : Type} {f : α → PV} {xs : List α} (k : Nat) : cutP (xs.map f) (some (k : Int)) none = (xs.drop k).map f := by
  rw [cutP_back, List.map_drop]
/-- a table: its bytes, first line and entries -/
structure Tb where
  a : List Int
  l : Int
  es : List (Nat × Nat × Ent)
def Tb.v (t : Tb) : PV := tabP (byteArr t.a) t.l t.es
def Tb.ss (t : Tb) : List Span := spansOf t.es
structure Tb.ok (n m : Nat) (t : Tb) : Prop where
  l1 : 1 ≤ t.l
  l2 : t.l ≤ 2147483647
  b : ∀ x ∈ t.a, 0 ≤ x ∧ x < 256
  sp : ∀ s ∈ t.ss, SpanOk s
  n : t.ss.length ≤ n
  m : t.a.length ≤ m
/-- the table that is written -/
def wT (ss : List Span) (l : Int) : Tb := ⟨rowBytes (wRows ss l), l, rowEnts 0 (wRows ss l)⟩
theorem wT_v (ss : List Span) (l : Int) : (wT ss l).v = wTab ss l := rfl
theorem wT_ss (ss : List Span) (l : Int) : (wT ss l).ss = ss := spansOf_rows.trans (wRows_spans ss l)
theorem wT_ok {ss : List Span} {l : Int} {n : Nat} (h : ∀ s ∈ ss, SpanOk s) (hn : ss.length ≤ n) (l1 : 1 ≤ l) (l2 : l ≤ 2147483647) : (wT ss l).ok n (29 * n) where
  l1 := l1
  l2 := l2
  b := rowBytes_ok (wRows_ok h l1 l2)
  sp := by rw [wT_ss]; exact h
  n := by rw [wT_ss]; exact hn
  m := by
    have := wTab_siz h l1 l2
    rw [byteArr_size] at this
    show (rowBytes (wRows ss l)).length ≤ _
    omega
theorem Tb.ok.mono {n m n' m' : Nat} {t : Tb} (h : t.ok n m) (h1 : n ≤ n') (h2 : m ≤ m') : t.ok n' m' := ⟨h.l1, h.l2, h.b, h.sp, Nat.le_trans h.n h1, Nat.le_trans h.m h2⟩
theorem cutP_pre' {α : Type} {f : α → PV} {xs : List α} {k : Int} (h : 0 ≤ k) : cutP (xs.map f) none (some k) = (xs.take k.toNat).map f := by
  obtain ⟨n, rfl⟩ : ∃ n : Nat, k = n := ⟨k.toNat, by omega⟩
  rw [cutP_pre, Int.toNat_natCast]
theorem cutP_suf {α : Type} {f : α → PV} {xs : List α} {k : Int} (h : 0 ≤ k) : cutP (xs.map f) (some k) none = (xs.drop k.toNat).map f := by
  obtain ⟨n, rfl⟩ : ∃ n : Nat, k = n := ⟨k.toNat, by omega⟩
  unfold cutP
  rw [HT.sIx_nat, HT.sIx_none, Int.toNat_natCast]
  show List.take ((xs.map f).length - min n (xs.map f).length) _ = _
  rw [List.take_of_length_le (by rw [List.length_drop]; exact Nat.le_refl _), List.map_drop]
  rcases Nat.le_total n (xs.map f).length with h | h
  · rw [Nat.min_eq_left h]
  · rw [Nat.min_eq_right h, List.drop_of_length_le (Nat.le_refl _), List.drop_of_length_le h]
end K33

namespace K33
open PySem PySem.Spec PyProof.Rows L2 Lay Pu
/-- the first line of a span that goes too far -/
def badS : Span → Option Int
  | none => none
  | some p => if 2147483647 < p.l then some p.l else if 2147483647 < p.e then some p.e else none
def firstBad (ss : List Span) : Option Int := ss.findSome? badS
theorem firstBad_at : ∀ {ss : List Span} {i : Nat} {s : Span} {b : Int}, firstBad (ss.take i) = none → ss[i]? = some s → badS s = some b → firstBad ss = some b
  | [], _, _, _, _, h, _ => by cases h
  | x :: ss, 0, s, b, _, h, hb => by
    cases h
    unfold firstBad
    rw [List.findSome?_cons, hb]
  | x :: ss, i + 1, s, b, h0, h, hb => by
    unfold firstBad at h0 ⊢
    rw [List.take_succ_cons, List.findSome?_cons] at h0
    rw [List.findSome?_cons]
    split at h0
    · cases h0
    · exact firstBad_at h0 h hb
theorem firstBad_snoc {ss : List Span} {i : Nat} {s : Span} (h0 : firstBad (ss.take i) = none) (h : ss[i]? = some s) (hb : badS s = none) : firstBad (ss.take (i + 1)) = none := by
  unfold firstBad at h0 ⊢
  rw [take_snoc h, List.findSome?_append, h0, Option.none_or, List.findSome?_cons, hb]
  rfl
theorem badS_none {s : Span} (h : badS s = none) : ∀ p, s = some p → p.l ≤ 2147483647 ∧ p.e ≤ 2147483647 := fun p e => by
  subst e
  unfold badS at h
  dsimp only at h
  split at h
  · cases h
  · split at h
    · cases h
    · constructor <;> omega
theorem firstBad_all : ∀ {ss : List Span}, firstBad ss = none → ∀ s ∈ ss, badS s = none
  | [], _, s, h => by cases h
  | x :: ss, h0, s, h => by
    unfold firstBad at h0
    rw [List.findSome?_cons] at h0
    split at h0
    · cases h0
    · rename_i e
      rcases List.mem_cons.mp h with rfl | h
      · exact e
      · exact firstBad_all h0 s h

theorem in_ok {x lo hi : Int} (h1 : lo ≤ x) (h2 : x ≤ hi) : inRP (.int x) lo hi = true := by
  show (decide (lo ≤ x) && decide (x ≤ hi)) = true
  rw [decide_eq_true h1, decide_eq_true h2]
  rfl
theorem in_no {x lo hi : Int} {P : Prop} (h1 : lo ≤ x) (h2 : x ≤ hi) (h : inRP (.int x) lo hi = false) : P := by
  rw [in_ok h1 h2] at h
  cases h

def q_check_count : PSp := fun γ K _ E => ∃ (x : PV) (n : String) (lo hi : Int), γ = [.sh x, .sh (.int lo), .sh (.int hi)] ∧ x.tyN = some n ∧ (inRP x lo hi = true → K .non γ) ∧ (inRP x lo hi = false → E "BadCount" [("many", x)] γ)
def q_moved_line : PSp := fun γ K _ E => ∃ (x b g : Int), γ = [.sh (.int x), .sh (.int b), .sh (.int g)] ∧ (mvL x b g ≤ 2147483647 → K (.int (mvL x b g)) γ) ∧ (¬ mvL x b g ≤ 2147483647 → E "BadLine" [("line", .int (mvL x b g))] γ)
def q_moved_span : PSp := fun γ K _ E => ∃ (s : Span) (a b g : Int), γ = [.sh (spv s), .sh (.int a), .sh (.int b), .sh (.int g)] ∧ (badS (mvS s a b g) = none → K (spv (mvS s a b g)) γ) ∧ ∀ z, badS (mvS s a b g) = some z → E "BadLine" [("line", .int z)] γ
def q_moved : PSp := fun γ K _ E => ∃ (t : Array UInt8) (l : Int) (es : List (Nat × Nat × Ent)) (x y z : PV) (n1 n2 n3 : String), γ = [.sh (tabP t l es), .sh x, .sh y, .sh z] ∧ x.tyN = some n1 ∧ y.tyN = some n2 ∧ z.tyN = some n3 ∧ 1 ≤ l ∧ l ≤ 2147483647 ∧ (∀ s ∈ spansOf es, SpanOk s) ∧ (spansOf es).length ≤ 60000 ∧
  (inRP x 1 2147483647 = false → E "BadLine" [("line", x)] γ) ∧ (inRP x 1 2147483647 = true → inRP y 0 2147483647 = false → E "BadCount" [("many", y)] γ) ∧ (inRP x 1 2147483647 = true → inRP y 0 2147483647 = true → inRP z 0 2147483647 = false → E "BadCount" [("many", z)] γ) ∧
  ∀ a r m : Int, x = .int a → y = .int r → z = .int m → 1 ≤ a → a ≤ 2147483647 → 0 ≤ r → r ≤ 2147483647 → 0 ≤ m → m ≤ 2147483647 →
    (firstBad ((spansOf es).map fun s => mvS s a (a + r) (m - r)) = none → K (wTab ((spansOf es).map fun s => mvS s a (a + r) (m - r)) l) γ) ∧ ∀ b, firstBad ((spansOf es).map fun s => mvS s a (a + r) (m - r)) = some b → E "BadLine" [("line", .int b)] γ
theorem in_int {x : PV} {lo hi : Int} (h : inRP x lo hi = true) : ∃ i : Int, x = .int i ∧ lo ≤ i ∧ i ≤ hi := by
  cases x <;> first | (cases h; done) | skip
  rename_i i
  have h : (decide (lo ≤ i) && decide (i ≤ hi)) = true := h
  rw [Bool.and_eq_true] at h
  exact ⟨i, rfl, of_decide_eq_true h.1, of_decide_eq_true h.2⟩
theorem ok_check_count {P : Program} {w : World} {K : PySem.W.Frag} {mg : Str → Option Value} {base : Heap} (W : Wd K mg) : FOk P w K mg base (L2.CX P w) 3 "check_count" ["many", "low", "high"] (spOf K q_check_count) :=
  fok (F_check_count W) (g_check_count W) (fun _ _ _ _ _ _ us hl => match us, hl with | [_, _, _], _ => rfl) fun fd F => by
  refine F.ok sc_check_count (sp_len (n := 3) fun γ Kp Ko Ep h => ?_) (fun cdv A outer s H vs Q E hr h => ?_)
  · obtain ⟨x, n, lo, hi, rfl, _⟩ := h
    rfl
  · refine ⟨_, (jss_one (js_if (pb_not (pb_tru (pp_call (pe_fS (ok_is_int_from W) (hr.mono (by decide)) (by rfl) pass0S (ja_cons (pp_v (pv 0)) (ja_cons (pp_v (pv 1)) (ja_cons (pp_v (pv 2)) ja_nil))))))) (jss_one (js_raise1 rfl (takes_of rfl rfl rfl rfl) (pmk1 (x_BadCount W) (i_BadCount W) (hr.mono (by decide)) (by rfl) mono_tA (ja_cons (pp_v (pv 0)) ja_nil)))) jss_nil)), body_of h fun γ Kp Ko Ep h => ?_⟩
    obtain ⟨x, n, lo, hi, rfl, hn, k, ke⟩ := h
    refine ⟨x, n, lo, hi, rfl, hn, ?_⟩
    exact ite_n' (inRP x lo hi) (fun h => k h) (fun h => ke h)
theorem ok_moved_line {P : Program} {w : World} {K : PySem.W.Frag} {mg : Str → Option Value} {base : Heap} (W : Wd K mg) : FOk P w K mg base (L2.CX P w) 3 "_moved_line" ["line", "behind", "growth"] (spOf K q_moved_line) :=
  fok (F_moved_line W) (g_moved_line W) (fun _ _ _ _ _ _ us hl => match us, hl with | [_, _, _], _ => rfl) fun fd F => by
  refine F.ok sc_moved_line (sp_len (n := 3) fun γ Kp Ko Ep h => ?_) (fun cdv A outer s H vs Q E hr h => ?_)
  · obtain ⟨x, b, g, rfl, _⟩ := h
    rfl
  · obtain ⟨tk_MOST, hg_MOST⟩ := g_MOST W
    refine ⟨_, (jss_mid (js_set (ps_set (i := 3) sc_moved_line.nd rfl (Or.inl rfl) (pp_if (pb_cmp op_ge bin_ge (pp_v (pv 0)) (pp_v (pv 1))) (pp_add (pp_v (pv 0)) (pp_v (pv 2))) (pp_v (pv 0))))) (jss_cons (js_if (pb_cmp op_gt bin_gt (pp_v (pv 3)) (pp_gi (pe_glob (v := .int 2147483647) rfl hg_MOST ⟨_, rfl⟩))) (jss_one (js_raise1 rfl (takes_of rfl rfl rfl rfl) (pmk1 (x_BadLine W) (i_BadLine W) (hr.mono (by decide)) (by rfl) mono_tA (ja_cons (pp_v (pv 3)) ja_nil)))) jss_nil) (jss_one (js_ret (pp_v (pv 3)))))), body_of h fun γ Kp Ko Ep h => ?_⟩
    obtain ⟨x, b, g, rfl, k, ke⟩ := h
    refine ⟨fun γ => γ = [.sh (.int x), .sh (.int b), .sh (.int g), .sh (.int (mvL x b g))], ?_, ?_⟩
    · refine ite_b (fun h => ?_) (fun h => ?_)
      · have e : mvL x b g = x + g := if_pos h
        rw [e]
        rfl
      · have e : mvL x b g = x := if_neg h
        rw [e]
        rfl
    rintro γ rfl
    refine ite_b (fun h => ke (by have h : (2147483647 : Int) < mvL x b g := h; omega)) (fun h => k (by have h : ¬ (2147483647 : Int) < mvL x b g := h; omega))
theorem ok_moved_span {P : Program} {w : World} {K : PySem.W.Frag} {mg : Str → Option Value} {base : Heap} (W : Wd K mg) : FOk P w K mg base (L2.CX P w) 4 "_moved_span" ["span", "start", "behind", "growth"] (spOf K q_moved_span) :=
  fok (F_moved_span W) (g_moved_span W) (fun _ _ _ _ _ _ us hl => match us, hl with | [_, _, _, _], _ => rfl) fun fd F => by
  refine F.ok sc_moved_span (sp_len (n := 4) fun γ Kp Ko Ep h => ?_) (fun cdv A outer s H vs Q E hr h => ?_)
  · obtain ⟨s, a, b, g, rfl, _⟩ := h
    rfl
  · refine ⟨_, (jss_cons (js_if (pb_cmp op_isN bin_isN (pp_v (pv 0)) pp_non) (jss_one (js_ret pp_non)) jss_nil) (jss_cons (js_asg (pp_v (pv 0)) (jg_tup rfl (jgs_cons (jg_name (pg_name (i := 4) sc_moved_span.nd rfl (Or.inl rfl))) (jgs_cons (jg_name (pg_name (i := 5) sc_moved_span.nd rfl (Or.inl rfl))) (jgs_cons (jg_name (pg_name (i := 6) sc_moved_span.nd rfl (Or.inl rfl))) (jgs_cons (jg_name (pg_name (i := 7) sc_moved_span.nd rfl (Or.inl rfl))) jgs_nil)))))) (jss_cons (js_if (pb_cmp op_lt bin_lt (pp_cb (pe_callB (call_max2 rfl) (by rfl) (g_max W) (by decide +kernel) (ja_cons (pp_v (pv 4)) (ja_cons (pp_v (pv 1)) ja_nil))) cb_max) (pp_cb (pe_callB (call_min2 rfl) (by rfl) (g_min W) (by decide +kernel) (ja_cons (pp_add (pp_v (pv 5)) pp_int) (ja_cons (pp_v (pv 2)) ja_nil))) cb_min)) (jss_one (js_ret pp_non)) jss_nil) (jss_one (js_ret (pp_tup (ja_cons (pp_call (pe_fS (ok_moved_line W) (hr.mono (by decide)) (by rfl) (passES (takes_of rfl rfl rfl rfl)) (ja_cons (pp_v (pv 4)) (ja_cons (pp_v (pv 2)) (ja_cons (pp_v (pv 3)) ja_nil))))) (ja_cons (pp_call (pe_fS (ok_moved_line W) (hr.mono (by decide)) (by rfl) (passES (takes_of rfl rfl rfl rfl)) (ja_cons (pp_v (pv 5)) (ja_cons (pp_v (pv 2)) (ja_cons (pp_v (pv 3)) ja_nil))))) (ja_cons (pp_v (pv 6)) (ja_cons (pp_v (pv 7)) ja_nil)))))))))), body_of h fun γ Kp Ko Ep h => ?_⟩
    obtain ⟨s, a, b, g, rfl, k, ke⟩ := h
    cases s with
    | none => exact k rfl
    | some p =>
      refine ⟨rfl, ite_b (fun h => ?_) (fun h => ?_)⟩
      · have h : (if a > p.l then a else p.l) < (if b < p.e + 1 then b else p.e + 1) := h
        have hc : p.l < p.e + 1 ∧ p.l < b ∧ a < p.e + 1 ∧ a < b := by
          split at h <;> split at h <;> omega
        have e : mvS (some p) a b g = none := if_pos hc
        rw [e] at k
        exact k rfl
      · have h : ¬ (if a > p.l then a else p.l) < (if b < p.e + 1 then b else p.e + 1) := h
        have hc : ¬ (p.l < p.e + 1 ∧ p.l < b ∧ a < p.e + 1 ∧ a < b) := by
          split at h <;> split at h <;> omega
        have e : mvS (some p) a b g = some ⟨mvL p.l b g, mvL p.e b g, p.c, p.d⟩ := if_neg hc
        rw [e] at k ke
        have eb : badS (some ⟨mvL p.l b g, mvL p.e b g, p.c, p.d⟩) = if 2147483647 < mvL p.l b g then some (mvL p.l b g) else if 2147483647 < mvL p.e b g then some (mvL p.e b g) else none := rfl
        refine ⟨p.l, b, g, rfl, fun h1 => ⟨p.e, b, g, rfl, fun h2 => ⟨by show 4 ≤ sizeLine; decide, k ?_⟩, fun h2 => ke _ ?_⟩, fun h1 => ke _ ?_⟩
        · rw [eb, if_neg (by omega), if_neg (by omega)]
        · rw [eb, if_neg (by omega), if_pos (by omega)]
        · rw [eb, if_pos (by omega)]
theorem ok_moved {P : Program} {w : World} {K : PySem.W.Frag} {mg : Str → Option Value} {base : Heap} (W : Wd K mg) : FOk P w K mg base (L2.CX P w) 13 "moved" ["table", "line", "removed", "added"] (spOf K q_moved) :=
  fok (F_moved W) (g_moved W) (fun _ _ _ _ _ _ us hl => match us, hl with | [_, _, _, _], _ => rfl) fun fd F => by
  refine F.ok sc_moved (sp_len (n := 4) fun γ Kp Ko Ep h => ?_) (fun cdv A outer s H vs Q E hr h => ?_)
  · obtain ⟨t, l, es, x, y, z, n1, n2, n3, rfl, _⟩ := h
    rfl
  · obtain ⟨tk_MOST, hg_MOST⟩ := g_MOST W
    refine ⟨_, (jss_cons (js_expr (pp_call (pe_fS (ok_check_source_line W) (hr.mono (by decide)) (by rfl) (passES (takes_of rfl rfl rfl rfl)) (ja_cons (pp_v (pv 1)) ja_nil)))) (jss_cons (js_expr (pp_call (pe_fS (ok_check_count W) (hr.mono (by decide)) (by rfl) (passES (takes_of rfl rfl rfl rfl)) (ja_cons (pp_v (pv 2)) (ja_cons pp_int (ja_cons (pp_gi (pe_glob (v := .int 2147483647) rfl hg_MOST ⟨_, rfl⟩)) ja_nil)))))) (jss_cons (js_expr (pp_call (pe_fS (ok_check_count W) (hr.mono (by decide)) (by rfl) (passES (takes_of rfl rfl rfl rfl)) (ja_cons (pp_v (pv 3)) (ja_cons pp_int (ja_cons (pp_gi (pe_glob (v := .int 2147483647) rfl hg_MOST ⟨_, rfl⟩)) ja_nil)))))) (jss_cons (js_set (ps_set (i := 4) sc_moved.nd rfl (Or.inr rfl) (pp_add (pp_v (pv 1)) (pp_v (pv 2))))) (jss_cons (js_setLcE (ps_setLcE (i := 5) (own := [("span", 6)]) rfl rfl (takes_of rfl rfl rfl rfl) rfl sc_moved.nd rfl rfl (sw_true rfl rfl (by rfl) (by rfl)) (ji_seq (pp_meth0 (pe_mS0 (pp_v (pv 0)) (c_Table W) (m_spans W) (ok_Table_spans W) (hr.mono (by decide)) pass0S))) (blkOk_by (N := ["table", "line", "removed", "added", "behind", "spans", "span"]) (sc := defScope s_moved) (by decide +kernel)) (fun _ _ _ _ _ _ => (jgv_name (vs := [6]) (pg_name (i := 6) sc_moved.nd rfl (Or.inl rfl)) (by decide))) (fun _ _ _ _ _ _ _ pz => ts_nil) (fun _ _ _ _ _ _ _ pz => (pp_call (pe_fS (ok_moved_span W) (hr.mono (by decide)) (by rfl) pz (ja_cons (pp_v (pv 6)) (ja_cons (pp_v (pv 1)) (ja_cons (pp_v (pv 4)) (ja_cons (pp_sub (pp_v (pv 3)) (pp_v (pv 2))) ja_nil))))))))) (jss_one (js_ret (pp_call (pe_staF (pe_glob (v := .ref (He.ga K "Table")) rfl (gc_Table W) rfl) (k_Table_of W) (ok_Table_of W) (hr.mono (by decide)) (passES (takes_of rfl rfl rfl rfl)) (ja_cons (pp_v (pv 5)) (ja_cons (pp_fld (c_Table W) (no_first_line W) (pe_fld (pp_v (pv 0)) rfl)) ja_nil))))))))))), body_of h fun γ Kp Ko Ep h => ?_⟩
    obtain ⟨t, l, es, x, y, z, n1, n2, n3, rfl, hx, hy, hz, l1, l2, hss, hlen, kx, ky, kz, k⟩ := h
    refine ⟨x, n1, rfl, hx, fun ix => ?_, kx⟩
    refine ⟨y, n2, 0, 2147483647, rfl, hy, fun iy => ?_, ky ix⟩
    refine ⟨z, n3, 0, 2147483647, rfl, hz, fun iz => ?_, kz ix iy⟩
    obtain ⟨a, rfl, a1, a2⟩ := in_int ix
    obtain ⟨r, rfl, r1, r2⟩ := in_int iy
    obtain ⟨m, rfl, m1, m2⟩ := in_int iz
    obtain ⟨k, kb⟩ := k a r m rfl rfl rfl a1 a2 r1 r2 m1 m2
    refine ⟨rfl, tab_no_spans t l es, t, l, es, rfl, fun _ => ?_⟩
    refine ⟨fun i acc γ => acc = (((spansOf es).map fun s => mvS s a (a + r) (m - r)).take i).map spv ∧ firstBad (((spansOf es).map fun s => mvS s a (a + r) (m - r)).take i) = none ∧ γ = [.sh (tabP t l es), .sh (.int a), .sh (.int r), .sh (.int m), .sh (.int (a + r)), .no, .no], ⟨rfl, rfl, rfl⟩, ?_, ?_⟩
    · rintro i x acc γ hi hx ⟨rfl, hb, rfl⟩
      obtain ⟨s, gs, rfl⟩ := map_get (show ((spansOf es).map spv)[i]? = some x from hx)
      have gm : ((spansOf es).map fun s => mvS s a (a + r) (m - r))[i]? = some (mvS s a (a + r) (m - r)) := by rw [List.getElem?_map, gs]; rfl
      have ht := take_snoc gm
      refine ⟨s, a, a + r, m - r, rfl, fun b0 => ⟨?_, ?_, firstBad_snoc hb gm b0, rfl⟩, fun b0 b1 => kb b0 (firstBad_at hb gm b1)⟩
      · rw [List.length_map, List.length_take, List.length_map, sizeLine_eq]
        omega
      · rw [ht, List.map_append]
        rfl
    rintro acc γ ⟨rfl, hb, rfl⟩ al
    have e : ((spansOf es).map fun s => mvS s a (a + r) (m - r)).take (srcOf ((spansOf es).map spv)).n = (spansOf es).map fun s => mvS s a (a + r) (m - r) := by
      show List.take ((spansOf es).map spv).length _ = _
      rw [List.length_map, ← List.length_map (f := fun s => mvS s a (a + r) (m - r)), List.take_length]
    rw [e] at hb ⊢
    have hok : ∀ s ∈ (spansOf es).map fun s => mvS s a (a + r) (m - r), SpanOk s := fun s hs => by
      have hb := badS_none (firstBad_all hb s hs)
      obtain ⟨s', hs', rfl⟩ := List.mem_map.mp hs
      cases s' with
      | none => trivial
      | some p =>
        by_cases hc : p.l < p.e + 1 ∧ p.l < a + r ∧ a < p.e + 1 ∧ a < a + r
        · have e : mvS (some p) a (a + r) (m - r) = none := if_pos hc
          rw [e]
          trivial
        · have e : mvS (some p) a (a + r) (m - r) = some ⟨mvL p.l (a + r) (m - r), mvL p.e (a + r) (m - r), p.c, p.d⟩ := if_neg hc
          refine mvS_ok (hss _ hs') a1 r1 m1 fun q hq => ?_
          cases hq
          exact (hb _ e).2
    refine ⟨rfl, _, tab_line t l es, ?_⟩
    obtain ⟨nx, hnx⟩ := of_ty (.inl rfl)
    refine ⟨_, .int l, nx, "int", rfl, hnx, rfl, (fun h => (of_kind (.inl rfl) h).elim), fun xs hxs => ?_⟩
    obtain rfl := of_list (.inl rfl) hxs
    refine ⟨spItems _, (fun i b => (badAt_no hok b).elim), (fun _ h => (of_line h l1 l2).elim), fun _ l' e _ _ => ?_⟩
    cases e
    refine ⟨_, rfl, hok, by rw [List.length_map]; exact hlen, ?_⟩
    exact k hb
end K33

namespace K33
open PySem PySem.Spec PyProof.Rows L2 Lay Pu
def q_l_spans : PSp := fun γ K _ _ => ∃ (w : Addr) (a b : Int) (m : Nat), γ = [.ow w (wl a b), .sh (.int (m : Int))] ∧ 0 < m ∧ m ≤ 100 ∧ ∀ (ss : List Span) a' b', (∀ s ∈ ss, SpanOk s) → ss.length ≤ 30 * (m - 1) → K (.lst (ss.map spv)) [.ow w (wl a' b'), .sh (.int (m : Int))]
theorem ok_l_spans {P : Program} {w : World} {K : PySem.W.Frag} {mg : Str → Option Value} {base : Heap} (W : Wd K mg) : FOk P w K mg base CX0 5 "_law_spans" ["_law_well_here", "_law_most"] (spOf K q_l_spans) :=
  fok (F_l_spans W) (g_l_spans W) (fun _ _ _ _ _ _ us hl => match us, hl with | [_, _], _ => rfl) fun fd F => by
  refine F.ok sc_l_spans (sp_len (n := 2) fun γ Kp Ko Ep h => ?_) (fun cdv A outer s H vs Q E hr h => ?_)
  · obtain ⟨w, a, b, m, rfl, _⟩ := h
    rfl
  · refine ⟨_, PSs.nox (jss_cons (js_set (ps_set (i := 2) sc_l_spans.nd rfl (Or.inl rfl) (pp_sh (po_lst ja_nil)))) (jss_cons (js_set (ps_set (i := 3) sc_l_spans.nd rfl (Or.inl rfl) (pp_add pp_int (pp_callW (pe_fS (ok_l_draw W) (hr.mono (by decide)) (by rfl) pass0S (pa_cons (pv 0) (ja_cons pp_int ja_nil))))))) (jss_cons (js_for PassesOwn.never rfl (ji_rg (pi_range1 (by rfl) (g_range W) (ja_cons (pp_callW (pe_fS (ok_l_draw W) (hr.mono (by decide)) (by rfl) pass0S (pa_cons (pv 0) (ja_cons (pp_v (pv 1)) ja_nil)))) ja_nil))) (jg_name (pg_name (i := 4) sc_l_spans.nd rfl (Or.inl rfl))) (jss_cons (js_set (ps_set (i := 5) sc_l_spans.nd rfl (Or.inl rfl) (pp_callW (pe_fS (ok_l_span W) (hr.mono (by decide)) (by rfl) pass0S (pa_cons (pv 0) (ja_cons (pp_v (pv 3)) ja_nil)))))) (jss_mid (js_if (pb_cmp op_notN bin_notN (pp_v (pv 5)) pp_non) (jss_one (js_set (ps_set (i := 3) sc_l_spans.nd rfl (Or.inl rfl) (pp_ix (pp_v (pv 5)) pp_int)))) jss_nil) (jss_one (js_set (ps_set (i := 2) sc_l_spans.nd rfl (Or.inl rfl) (pp_add (pp_v (pv 2)) (pp_mul (pp_sh (po_lst (ja_cons (pp_v (pv 5)) ja_nil))) (pp_callW (pe_fS (ok_l_one W) (hr.mono (by decide)) (by rfl) pass0S (pa_cons (pv 0) (ja_cons (pp_sh (po_lst (ja_cons pp_int (ja_cons pp_int (ja_cons pp_int (ja_cons pp_int (ja_cons pp_int (ja_cons pp_int (ja_cons pp_int (ja_cons pp_int (ja_cons (pp_add pp_int (pp_callW (pe_fS (ok_l_draw W) (hr.mono (by decide)) (by rfl) pass0S (pa_cons (pv 0) (ja_cons pp_int ja_nil))))) ja_nil))))))))))) ja_nil)))))))))))) (jss_one (js_ret (pp_v (pv 2))))))), body_of h fun γ Kp Ko Ep h => ?_⟩
    obtain ⟨w, a, b, m, rfl, m0, mM, k⟩ := h
    refine ⟨by show 0 ≤ sizeLine; decide, fun _ => ⟨w, a, b, 50, rfl, by decide, by decide, fun d a1 b1 d0 d1 => ?_⟩⟩
    refine ⟨w, a1, b1, (m : Int), rfl, by omega, by omega, fun e a2 b2 e0 e1 => ⟨⟨by omega, by omega⟩, ?_⟩⟩
    refine ⟨fun i γ => ∃ (a3 b3 near : Int) (ss : List Span) (x4 x5 : Sl), γ = [.ow w (wl a3 b3), .sh (.int (m : Int)), .sh (.lst (ss.map spv)), .sh (.int near), x4, x5] ∧ (∀ s ∈ ss, SpanOk s) ∧ ss.length ≤ 30 * i, ⟨a2, b2, 1 + d, [], .no, .no, rfl, (fun s h => nomatch h), Nat.zero_le _⟩, ?_, ?_⟩
    · rintro i x γ hi rfl ⟨a3, b3, near, ss, x4, x5, rfl, ok, hl⟩
      have hi : i < e.toNat := hi
      refine ⟨w, a3, b3, near, rfl, fun s a4 b4 so => ?_⟩
      have fin : ∀ (nr : Int), ∃ (near' : Int), nr = near' := fun nr => ⟨_, rfl⟩
      refine ⟨fun γ => ∃ near : Int, γ = [.ow w (wl a4 b4), .sh (.int (m : Int)), .sh (.lst (ss.map spv)), .sh (.int near), .sh (.int (0 + (i : Int))), .sh (spv s)], ?_, ?_⟩
      · cases s with
        | none => exact ⟨near, rfl⟩
        | some p => exact ⟨_, rfl, p.l, rfl⟩
      rintro γ ⟨near, rfl⟩
      refine ⟨by show 1 ≤ sizeLine; decide, fun _ => ⟨w, a4, b4, 30, rfl, by decide, by decide, fun d2 a5 b5 u0 u1 => ⟨by show 9 ≤ sizeLine; decide, fun _ => ?_⟩⟩⟩
      refine ⟨w, a5, b5, _, rfl, (by decide : 0 < 9), (by decide : 9 ≤ 16777216), fun x a6 b6 hx => ?_⟩
      obtain ⟨n, rfl, n0, n1⟩ : ∃ n : Int, x = .int n ∧ 0 ≤ n ∧ n ≤ 30 := by
        simp only [List.mem_cons, List.not_mem_nil, or_false] at hx
        rcases hx with rfl | rfl | rfl | rfl | rfl | rfl | rfl | rfl | rfl
        · exact ⟨_, rfl, by decide, by decide⟩
        · exact ⟨_, rfl, by decide, by decide⟩
        · exact ⟨_, rfl, by decide, by decide⟩
        · exact ⟨_, rfl, by decide, by decide⟩
        · exact ⟨_, rfl, by decide, by decide⟩
        · exact ⟨_, rfl, by decide, by decide⟩
        · exact ⟨_, rfl, by decide, by decide⟩
        · exact ⟨_, rfl, by decide, by decide⟩
        · exact ⟨_, rfl, by omega, by omega⟩
      refine ⟨⟨by omega, by omega⟩, ?_, ?_, a6, b6, near, ss ++ List.replicate n.toNat s, .sh (.int (0 + (i : Int))), .sh (spv s), ?_, fun t ht => ?_, ?_⟩
      · rw [sizeLine_eq]
        show 1 * _ ≤ _
        omega
      · show (ss.map spv).length + (List.replicate n.toNat [spv s]).flatten.length ≤ sizeLine
        rw [rep_flat, List.length_map, List.length_replicate, sizeLine_eq]
        omega
      · show [_, _, Sl.sh (.lst (ss.map spv ++ (List.replicate n.toNat [spv s]).flatten)), _, _, _] = _
        rw [rep_flat, List.map_append, List.map_replicate]
        rfl
      · rcases List.mem_append.mp ht with ht | ht
        · exact ok t ht
        · rw [List.eq_of_mem_replicate ht]
          exact so
      · rw [List.length_append, List.length_replicate]
        omega
    · rintro γ ⟨a3, b3, near, ss, x4, x5, rfl, ok, hl⟩
      have hl : ss.length ≤ 30 * e.toNat := hl
      exact ⟨rfl, k ss _ _ ok (by omega)⟩
def q_l_edit : PSp := fun γ K _ _ => ∃ (w : Addr) (a b : Int) (ss : List Span), γ = [.ow w (wl a b), .sh (.lst (ss.map spv))] ∧ (∀ s ∈ ss, SpanOk s) ∧ ss.length ≤ 30000 ∧
  ∀ l r m a' b', 1 ≤ l → l ≤ 2147483647 → 0 ≤ r → r ≤ 2147483647 → 0 ≤ m → m ≤ 2147483647 → K (.tup [.int l, .int r, .int m]) [.ow w (wl a' b'), .sh (.lst (ss.map spv))]
theorem sizes_in {d e : Int} {x : PV} (h : x ∈ [PV.int 0, .int 0, .int 1, .int 2, .int d, .int (2147483647 - e)]) (d0 : 0 ≤ d) (d1 : d < 90) (e0 : 0 ≤ e) (e1 : e < 3) : ∃ r : Int, x = .int r ∧ 0 ≤ r ∧ r ≤ 2147483647 := by
  simp only [List.mem_cons, List.not_mem_nil, or_false] at h
  rcases h with rfl | rfl | rfl | rfl | rfl | rfl
  · exact ⟨_, rfl, by decide, by decide⟩
  · exact ⟨_, rfl, by decide, by decide⟩
  · exact ⟨_, rfl, by decide, by decide⟩
  · exact ⟨_, rfl, by decide, by decide⟩
  · exact ⟨_, rfl, by omega, by omega⟩
  · exact ⟨_, rfl, by omega, by omega⟩
theorem ok_l_edit {P : Program} {w : World} {K : PySem.W.Frag} {mg : Str → Option Value} {base : Heap} (W : Wd K mg) : FOk P w K mg base CX0 3 "_law_edit" ["_law_well_here", "_law_spans_here"] (spOf K q_l_edit) :=
  fok (F_l_edit W) (g_l_edit W) (fun _ _ _ _ _ _ us hl => match us, hl with | [_, _], _ => rfl) fun fd F => by
  refine F.ok sc_l_edit (sp_len (n := 2) fun γ Kp Ko Ep h => ?_) (fun cdv A outer s H vs Q E hr h => ?_)
  · obtain ⟨w, a, b, ss, rfl, _⟩ := h
    rfl
  · refine ⟨_, PSs.nox (jss_cons (js_set (ps_set (i := 2) sc_l_edit.nd rfl (Or.inl rfl) (pp_sh (po_lst (ja_cons pp_int ja_nil))))) (jss_cons (js_for PassesOwn.never rfl (ji_seq (pp_v (pv 1))) (jg_name (pg_name (i := 3) sc_l_edit.nd rfl (Or.inl rfl))) (jss_one (js_if (pb_cmp op_notN bin_notN (pp_v (pv 3)) pp_non) (jss_one (js_set (ps_set (i := 2) sc_l_edit.nd rfl (Or.inl rfl) (pp_add (pp_v (pv 2)) (pp_sh (po_lst (ja_cons (pp_ix (pp_v (pv 3)) pp_int) (ja_cons (pp_ix (pp_v (pv 3)) pp_int) ja_nil)))))))) jss_nil))) (jss_cons (js_set (ps_set (i := 4) sc_l_edit.nd rfl (Or.inl rfl) (pp_cb (pe_callB (call_min2 rfl) (by rfl) (g_min W) (by decide +kernel) (ja_cons pp_int (ja_cons (pp_cb (pe_callB (call_max2 rfl) (by rfl) (g_max W) (by decide +kernel) (ja_cons pp_int (ja_cons (pp_sub (pp_add (pp_callW (pe_fS (ok_l_one W) (hr.mono (by decide)) (by rfl) pass0S (pa_cons (pv 0) (ja_cons (pp_v (pv 2)) ja_nil)))) (pp_callW (pe_fS (ok_l_draw W) (hr.mono (by decide)) (by rfl) pass0S (pa_cons (pv 0) (ja_cons pp_int ja_nil))))) pp_int) ja_nil))) cb_max) ja_nil))) cb_min))) (jss_cons (js_set (ps_set (i := 5) sc_l_edit.nd rfl (Or.inl rfl) (pp_sh (po_lst (ja_cons pp_int (ja_cons pp_int (ja_cons pp_int (ja_cons pp_int (ja_cons (pp_callW (pe_fS (ok_l_draw W) (hr.mono (by decide)) (by rfl) pass0S (pa_cons (pv 0) (ja_cons pp_int ja_nil)))) (ja_cons (pp_sub pp_int (pp_callW (pe_fS (ok_l_draw W) (hr.mono (by decide)) (by rfl) pass0S (pa_cons (pv 0) (ja_cons pp_int ja_nil))))) ja_nil)))))))))) (jss_one (js_ret (pp_tup (ja_cons (pp_v (pv 4)) (ja_cons (pp_callW (pe_fS (ok_l_one W) (hr.mono (by decide)) (by rfl) pass0S (pa_cons (pv 0) (ja_cons (pp_v (pv 5)) ja_nil)))) (ja_cons (pp_callW (pe_fS (ok_l_one W) (hr.mono (by decide)) (by rfl) pass0S (pa_cons (pv 0) (ja_cons (pp_v (pv 5)) ja_nil)))) ja_nil)))))))))), body_of h fun γ Kp Ko Ep h => ?_⟩
    obtain ⟨w, a, b, ss, rfl, ok, hl, k⟩ := h
    refine ⟨by show 1 ≤ sizeLine; decide, fun _ => ?_⟩
    refine ⟨fun i γ => ∃ (ls : List Int) (x3 x4 x5 : Sl), γ = [.ow w (wl a b), .sh (.lst (ss.map spv)), .sh (pints ls), x3, x4, x5] ∧ (∀ x ∈ ls, 1 ≤ x ∧ x ≤ 2147483647) ∧ ls.length ≤ 1 + 2 * i ∧ 0 < ls.length, ⟨[1], _, _, _, rfl, (fun x hx => by rw [List.mem_singleton.mp hx]; omega), Nat.le_refl _, Nat.one_pos⟩, ?_, ?_⟩
    · rintro i x γ hi hx ⟨ls, x3, x4, x5, rfl, hls, hn, h0⟩
      obtain ⟨s, gs, rfl⟩ := map_get (show (ss.map spv)[i]? = some x from hx)
      have hi := (List.getElem?_eq_some_iff.mp gs).1
      cases s with
      | none => exact ⟨ls, _, _, _, rfl, hls, by omega, h0⟩
      | some p =>
        have po : p.ok := ok _ (get_mem' gs)
        refine ⟨_, L2.atI_nat (j := 0) rfl, _, L2.atI_nat (j := 1) rfl, by show 2 ≤ sizeLine; decide, fun _ => ⟨?_, ls ++ [p.l, p.e], .sh (spv (some p)), x4, x5, ?_, fun y hy => ?_, ?_, ?_⟩⟩
        · show (ls.map PV.int).length + 2 ≤ sizeLine
          rw [List.length_map, sizeLine_eq]
          omega
        · show [_, _, Sl.sh (.lst (ls.map PV.int ++ [.int p.l, .int p.e])), _, _, _] = _
          unfold pints
          rw [List.map_append]
          rfl
        · rcases List.mem_append.mp hy with hy | hy
          · exact hls y hy
          · have l1 := po.l1
            have le := po.le
            have eM := po.eM
            simp only [List.mem_cons, List.not_mem_nil, or_false] at hy
            rcases hy with rfl | rfl <;> constructor <;> omega
        · rw [List.length_append]
          show _ + 2 ≤ _
          omega
        · rw [List.length_append]
          omega
    rintro γ ⟨ls, x3, x4, x5, rfl, hls, hn, h0⟩
    have hn : ls.length ≤ 1 + 2 * ss.length := by
      have e : (srcOf (ss.map spv)).n = ss.length := List.length_map _
      rw [e] at hn
      exact hn
    refine ⟨w, a, b, ls.map PV.int, rfl, by rw [List.length_map]; exact h0, by rw [List.length_map]; omega, fun x a1 b1 hx => ?_⟩
    obtain ⟨y, hy, rfl⟩ := List.mem_map.mp hx
    have hy := hls y hy
    refine ⟨w, a1, b1, 5, rfl, by decide, by decide, fun d a2 b2 d0 d1 => ?_⟩
    refine ⟨w, a2, b2, 90, rfl, by decide, by decide, fun d2 a3 b3 e0 e1 => ⟨w, a3, b3, 3, rfl, by decide, by decide, fun d3 a4 b4 f0 f1 => ⟨by show 6 ≤ sizeLine; decide, fun _ => ?_⟩⟩⟩
    refine ⟨w, a4, b4, _, rfl, (by decide : 0 < 6), (by decide : 6 ≤ 16777216), fun r a5 b5 hr => ?_⟩
    obtain ⟨r, rfl, r0, r1⟩ := sizes_in hr e0 e1 f0 f1
    refine ⟨w, a5, b5, _, rfl, (by decide : 0 < 6), (by decide : 6 ≤ 16777216), fun m a6 b6 hm => ?_⟩
    obtain ⟨m, rfl, m0, m1⟩ := sizes_in hm e0 e1 f0 f1
    have hE : 1 ≤ (if (if y + d - 2 > 1 then y + d - 2 else 1) < 2147483647 then (if y + d - 2 > 1 then y + d - 2 else 1) else 2147483647) ∧ (if (if y + d - 2 > 1 then y + d - 2 else 1) < 2147483647 then (if y + d - 2 > 1 then y + d - 2 else 1) else 2147483647) ≤ (2147483647 : Int) := by
      split <;> split <;> omega
    exact ⟨by show 3 ≤ sizeLine; decide, rfl, k _ r m a6 b6 hE.1 hE.2 r0 r1 m0 m1⟩
end K33

namespace K33
open PySem PySem.Spec PyProof.Rows L2 Lay Pu
def q_l_written : PSp := fun γ K _ _ => ∃ (w : Addr) (a b fl : Int) (ss : List Span), γ = [.ow w (wl a b), .sh (.lst (ss.map spv)), .sh (.int fl)] ∧ (∀ s ∈ ss, SpanOk s) ∧ ss.length ≤ 3000 ∧ 1 ≤ fl ∧ fl ≤ 2147483647 ∧
  ∀ rows a' b', RowsOk fl 0 rows → rowSpans rows = ss → rows.length ≤ ss.length → (∀ r ∈ rows, r.steps ≤ 8) → K (pints (rowBytes rows)) [.ow w (wl a' b'), .sh (.lst (ss.map spv)), .sh (.int fl)]
theorem take_run2 {ss : List Span} {st : Nat} {s : Span} : ∀ {d : Nat}, (∀ j, st ≤ j → j < st + d → ss[j]? = some s) → ss.take (st + d) = ss.take st ++ List.replicate d s
  | 0, _ => by rw [List.replicate_zero, List.append_nil]; rfl
  | d + 1, h => by
    have ih := take_run2 (d := d) fun j h1 h2 => h j h1 (by omega)
    have e := take_snoc (h (st + d) (by omega) (by omega))
    show ss.take (st + d + 1) = _
    rw [e, ih, List.append_assoc, List.replicate_succ']
theorem ok_l_written {P : Program} {w : World} {K : PySem.W.Frag} {mg : Str → Option Value} {base : Heap} (W : Wd K mg) : FOk P w K mg base CX0 5 "_law_written" ["_law_well_here", "_law_spans_here", "_law_first_line"] (spOf K q_l_written) :=
  fok (F_l_written W) (g_l_written W) (fun _ _ _ _ _ _ us hl => match us, hl with | [_, _, _], _ => rfl) fun fd F => by
  refine F.ok sc_l_written (sp_len (n := 3) fun γ Kp Ko Ep h => ?_) (fun cdv A outer s H vs Q E hr h => ?_)
  · obtain ⟨w, a, b, fl, ss, rfl, _⟩ := h
    rfl
  · refine ⟨_, PSs.nox (jss_cons (js_set (ps_set (i := 3) sc_l_written.nd rfl (Or.inl rfl) (pp_sh (po_lst ja_nil)))) (jss_cons (js_set (ps_set (i := 4) sc_l_written.nd rfl (Or.inl rfl) (pp_v (pv 2)))) (jss_cons (js_set (ps_set (i := 5) sc_l_written.nd rfl (Or.inl rfl) pp_int)) (jss_cons (js_while PassesOwn.never (pb_cmp op_lt bin_lt (pp_v (pv 5)) (pp_cb (pe_callB call_len (by rfl) (g_len W) (by decide +kernel) (ja_cons (pp_v (pv 1)) ja_nil)) cb_len)) (jss_cons (js_set (ps_set (i := 6) sc_l_written.nd rfl (Or.inl rfl) (pp_ix (pp_v (pv 1)) (pp_v (pv 5))))) (jss_cons (js_set (ps_set (i := 7) sc_l_written.nd rfl (Or.inl rfl) pp_int)) (jss_cons (js_set (ps_set (i := 8) sc_l_written.nd rfl (Or.inl rfl) (pp_add pp_int (pp_callW (pe_fS (ok_l_draw W) (hr.mono (by decide)) (by rfl) pass0S (pa_cons (pv 0) (ja_cons pp_int ja_nil))))))) (jss_mid (js_while PassesOwn.never (pb_w (jw_and (pb_cmp op_lt bin_lt (pp_v (pv 7)) (pp_v (pv 8))) (jw_and (pb_cmp op_lt bin_lt (pp_add (pp_v (pv 5)) (pp_v (pv 7))) (pp_cb (pe_callB call_len (by rfl) (g_len W) (by decide +kernel) (ja_cons (pp_v (pv 1)) ja_nil)) cb_len)) (jw_and1 (pb_cmp (op_eqA hr.units) bin_eqQ (pp_ix (pp_v (pv 1)) (pp_add (pp_v (pv 5)) (pp_v (pv 7)))) (pp_v (pv 6))))))) (jss_one (js_set (ps_set (i := 7) sc_l_written.nd rfl (Or.inl rfl) (pp_add (pp_v (pv 7)) pp_int))))) (jss_cons (js_set (ps_set (i := 3) sc_l_written.nd rfl (Or.inl rfl) (pp_add (pp_v (pv 3)) (pp_callW (pe_fS (ok_l_loose_entry W) (hr.mono (by decide)) (by rfl) pass0S (pa_cons (pv 0) (ja_cons (pp_v (pv 6)) (ja_cons (pp_v (pv 4)) (ja_cons (pp_v (pv 7)) ja_nil))))))))) (jss_cons (js_set (ps_set (i := 5) sc_l_written.nd rfl (Or.inl rfl) (pp_add (pp_v (pv 5)) (pp_v (pv 7))))) (jss_one (js_if (pb_cmp op_notN bin_notN (pp_v (pv 6)) pp_non) (jss_one (js_set (ps_set (i := 4) sc_l_written.nd rfl (Or.inl rfl) (pp_ix (pp_v (pv 6)) pp_int)))) jss_nil))))))))) (jss_one (js_ret (pp_v (pv 3)))))))), body_of h fun γ Kp Ko Ep h => ?_⟩
    obtain ⟨w, a, b, fl, ss, rfl, ok, hl, f1, f2, k⟩ := h
    refine ⟨by show 0 ≤ sizeLine; decide, fun _ => ?_⟩
    refine ⟨fun m γ => ∃ (a1 b1 : Int) (i : Nat) (rows : List Lay.Row) (x7 x8 x9 : Sl), γ = [.ow w (wl a1 b1), .sh (.lst (ss.map spv)), .sh (.int fl), .sh (pints (rowBytes rows)), .sh (.int (endL fl rows)), .sh (.int (i : Int)), x7, x8, x9] ∧ ss.length ≤ m + i ∧ i ≤ ss.length ∧
      RowsOk fl 0 rows ∧ rowSpans rows = ss.take i ∧ rows.length ≤ i ∧ endS 0 rows = i ∧ 1 ≤ endL fl rows ∧ endL fl rows ≤ 2147483647 ∧ (∀ r ∈ rows, r.steps ≤ 8), ⟨ss.length, a, b, 0, [], .no, .no, .no, rfl, by omega, by omega, True.intro, rfl, Nat.le_refl _, rfl, f1, f2, fun r h => nomatch h⟩, ?_⟩
    rintro m γ ⟨a1, b1, i, rows, x7, x8, x9, rfl, hm, hi, rok, hsp, hrl, hst, l1, l2, h8⟩
    refine ite_b (fun hlt => ?_) (fun hlt => ?_)
    · have hlt : (i : Int) < ((ss.map spv).length : Int) := hlt
      rw [List.length_map] at hlt
      have hlt : i < ss.length := by omega
      have g0 : ss[i]? = some ss[i] := List.getElem?_eq_getElem hlt
      generalize ss[i] = s at g0
      have hat := at_map (f := spv) g0 (rfl : (i : Int) = (i : Int))
      have so := ok s (get_mem' g0)
      refine ⟨spv s, hat, w, a1, b1, 8, rfl, by decide, by decide, fun d a2 b2 d0 d1 => ?_⟩
      refine ⟨fun γ => ∃ (k : Nat), γ = [.ow w (wl a2 b2), .sh (.lst (ss.map spv)), .sh (.int fl), .sh (pints (rowBytes rows)), .sh (.int (endL fl rows)), .sh (.int (i : Int)), .sh (spv s), .sh (.int ((k : Int) + 1)), .sh (.int (1 + d))] ∧ k < 8 ∧ i + k < ss.length ∧ ∀ j, i ≤ j → j < i + (k + 1) → ss[j]? = some s, ?_, ?_⟩
      · refine ⟨fun n γ => ∃ (k : Nat), γ = [.ow w (wl a2 b2), .sh (.lst (ss.map spv)), .sh (.int fl), .sh (pints (rowBytes rows)), .sh (.int (endL fl rows)), .sh (.int (i : Int)), .sh (spv s), .sh (.int ((k : Int) + 1)), .sh (.int (1 + d))] ∧ k < 8 ∧ 8 ≤ n + k ∧ i + k < ss.length ∧ ∀ j, i ≤ j → j < i + (k + 1) → ss[j]? = some s, ⟨8, 0, rfl, by decide, by omega, by omega, fun j h1 h2 => by
            have : j = i := by omega
            subst this
            exact g0⟩, ?_⟩
        rintro n γ ⟨kk, rfl, hk, hn, hik, hrun⟩
        have out : ∃ (k : Nat), [.ow w (wl a2 b2), .sh (.lst (ss.map spv)), .sh (.int fl), .sh (pints (rowBytes rows)), .sh (.int (endL fl rows)), .sh (.int (i : Int)), Sl.sh (spv s), .sh (.int ((kk : Int) + 1)), .sh (.int (1 + d))] = [.ow w (wl a2 b2), .sh (.lst (ss.map spv)), .sh (.int fl), .sh (pints (rowBytes rows)), .sh (.int (endL fl rows)), .sh (.int (i : Int)), .sh (spv s), .sh (.int ((k : Int) + 1)), .sh (.int (1 + d))] ∧ k < 8 ∧ i + k < ss.length ∧ ∀ j, i ≤ j → j < i + (k + 1) → ss[j]? = some s := ⟨kk, rfl, hk, hik, hrun⟩
        refine ite_b (fun h1 => ?_) (fun h1 => out)
        have h1 : (kk : Int) + 1 < 1 + d := h1
        refine ite_b (fun h2 => ?_) (fun h2 => out)
        have h2 : (i : Int) + ((kk : Int) + 1) < ((ss.map spv).length : Int) := h2
        rw [List.length_map] at h2
        have hi2 : i + (kk + 1) < ss.length := by omega
        have g1 : ss[i + (kk + 1)]? = some (ss[i + (kk + 1)]'hi2) := List.getElem?_eq_getElem hi2
        generalize ss[i + (kk + 1)]'hi2 = t at g1
        have hat1 := at_map (f := spv) (j := (i : Int) + ((kk : Int) + 1)) g1 (by omega)
        refine ⟨spv t, hat1, eqQ_pl (pl_span t) (pl_span s) (by decide) (by decide) (fun e => ?_) (fun _ => out)⟩
        have e := spv_inj e
        subst e
        refine ⟨n - 1, by omega, kk + 1, ?_, by omega, by omega, by omega, fun j h2 h3 => ?_⟩
        · have : ((kk : Int) + 1 + 1) = (((kk + 1 : Nat) : Int) + 1) := by omega
          show [_, _, _, _, _, _, _, Sl.sh (.int ((kk : Int) + 1 + 1)), _] = _
          rw [this]
        · by_cases hj : j = i + (kk + 1)
          · subst hj
            exact g1
          · exact hrun j h2 (by omega)
      rintro γ ⟨kk, rfl, hk, hik, hrun⟩
      refine ⟨w, a2, b2, s, endL fl rows, kk, ?_, so, l1, l2, hk, fun part a3 b3 he => ⟨?_, ?_⟩⟩
      · show [_, _, _, Sl.sh (.int ((kk : Int) + 1))] = [_, _, _, Sl.sh (.int ((kk + 1 : Nat) : Int))]
        have : ((kk : Int) + 1) = ((kk + 1 : Nat) : Int) := by omega
        rw [this]
      · obtain ⟨f, t, ep, _, _, _, _, h4, _⟩ := he
        have hb := rowBytes_len rok
        show ((rowBytes rows).map PV.int).length + (part.map PV.int).length ≤ sizeLine
        rw [List.length_map, List.length_map, ep, List.length_cons, sizeLine_eq]
        omega
      have el := endL_snoc ⟨endS 0 rows, kk + 1, s, part⟩ fl rows
      have es := endS_snoc ⟨endS 0 rows, kk + 1, s, part⟩ 0 rows
      have hln := after_ok so l1 l2
      have eb := rowBytes_snoc ⟨endS 0 rows, kk + 1, s, part⟩ rows
      have esp := rowSpans_snoc ⟨endS 0 rows, kk + 1, s, part⟩ rows
      have tr := take_run2 (ss := ss) (st := i) (s := s) (d := kk + 1) hrun
      have fin : ∀ lv : Int, lv = lineAfter s (endL fl rows) → ∃ m', m' < m ∧ ∃ (a1 b1 : Int) (i' : Nat) (rows' : List Lay.Row) (y7 y8 y9 : Sl), [Sl.ow w (wl a3 b3), .sh (.lst (ss.map spv)), .sh (.int fl), .sh (.lst ((rowBytes rows).map PV.int ++ part.map PV.int)), .sh (.int lv), .sh (.int ((i : Int) + ((kk : Int) + 1))), .sh (spv s), .sh (.int ((kk : Int) + 1)), .sh (.int (1 + d))] = [.ow w (wl a1 b1), .sh (.lst (ss.map spv)), .sh (.int fl), .sh (pints (rowBytes rows')), .sh (.int (endL fl rows')), .sh (.int (i' : Int)), y7, y8, y9] ∧ ss.length ≤ m' + i' ∧ i' ≤ ss.length ∧
          RowsOk fl 0 rows' ∧ rowSpans rows' = ss.take i' ∧ rows'.length ≤ i' ∧ endS 0 rows' = i' ∧ 1 ≤ endL fl rows' ∧ endL fl rows' ≤ 2147483647 ∧ (∀ r ∈ rows', r.steps ≤ 8) := by
        rintro lv rfl
        refine ⟨m - (kk + 1), by omega, a3, b3, i + (kk + 1), rows ++ [⟨endS 0 rows, kk + 1, s, part⟩], .sh (spv s), .sh (.int ((kk : Int) + 1)), .sh (.int (1 + d)), ?_, by omega, by omega, rowsOk_snoc rok rfl he, ?_, ?_, ?_, ?_, ?_, fun r hr => ?_⟩
        · rw [el, eb, pints_app]
          have : (i : Int) + ((kk : Int) + 1) = ((i + (kk + 1) : Nat) : Int) := by omega
          rw [this]
        · rw [esp, tr, hsp]
        · rw [List.length_append, List.length_singleton]
          omega
        · rw [es, hst]
        · rw [el]
          exact hln.1
        · rw [el]
          exact hln.2
        · rcases List.mem_append.mp hr with hr | hr
          · exact h8 r hr
          · obtain rfl := List.mem_singleton.mp hr
            exact hk
      cases s with
      | none => exact fin _ rfl
      | some p => exact ⟨.int p.l, L2.atI_nat (j := 0) rfl, fin _ rfl⟩
    · have hlt : ¬ (i : Int) < ((ss.map spv).length : Int) := hlt
      rw [List.length_map] at hlt
      have : i = ss.length := by omega
      subst this
      rw [List.take_length] at hsp
      exact ⟨rfl, k rows _ _ rok hsp hrl h8⟩
end K33

namespace K33
open PySem PySem.Spec PyProof.Rows L2 Lay Pu
def mvA (A : List Span) (a r m : Int) : List Span := A.map fun s => mvS s a (a + r) (m - r)
theorem mvA_len (A : List Span) (a r m : Int) : (mvA A a r m).length = A.length := List.length_map _
theorem mv_ok {A : List Span} {a r m : Int} (h : ∀ s ∈ A, SpanOk s) (a1 : 1 ≤ a) (r1 : 0 ≤ r) (m1 : 0 ≤ m) (hb : firstBad (mvA A a r m) = none) : ∀ s ∈ mvA A a r m, SpanOk s := fun s hs => by
  have hb := badS_none (firstBad_all hb s hs)
  obtain ⟨s', hs', rfl⟩ := List.mem_map.mp hs
  cases s' with
  | none => trivial
  | some p =>
    by_cases hc : p.l < p.e + 1 ∧ p.l < a + r ∧ a < p.e + 1 ∧ a < a + r
    · have e : mvS (some p) a (a + r) (m - r) = none := if_pos hc
      rw [e]
      trivial
    · have e : mvS (some p) a (a + r) (m - r) = some ⟨mvL p.l (a + r) (m - r), mvL p.e (a + r) (m - r), p.c, p.d⟩ := if_neg hc
      refine mvS_ok (h _ hs') a1 r1 m1 fun q hq => ?_
      cases hq
      exact (hb _ e).2
/-- what a table of these spans tells -/
def tellP (B : List Span) (l : Int) : PV := .tup [.lst ((spansOf (rowEnts 0 (wRows B l))).map spv), .lst ((bi (byteArr (rowBytes (wRows B l)))).map .int), .int l]
def dueP (B : List Span) (l : Int) : PV := .tup [.lst (B.map spv), .lst ((bi (byteArr (rowBytes (wRows B l)))).map .int), .int l]
theorem tell_due (B : List Span) (l : Int) : tellP B l = dueP B l := by
  unfold tellP
  rw [spansOf_rows, wRows_spans]
  rfl
theorem pl_due (B : List Span) (l : Int) : Pl 3 (dueP B l) := .tup 2 _ fun x hx => by
  simp only [List.mem_cons, List.not_mem_nil, or_false] at hx
  rcases hx with rfl | rfl | rfl
  · exact Pl.map _ pl_span
  · exact .lst 1 _ fun x hx => by
      obtain ⟨i, _, rfl⟩ := List.mem_map.mp hx
      exact .int 1 i
  · exact .int 2 l
abbrev lineP (x : PV) : PV := .tup [.str "line", x]
abbrev countP (x : PV) : PV := .tup [.str "count", x]

def q_l_moved : PSp := fun γ K _ _ => ∃ (s : Span) (a r m : Int), γ = [.sh (spv s), .sh (.int a), .sh (.int r), .sh (.int m)] ∧ SpanOk s ∧ 0 ≤ r ∧ K (spv (mvS s a (a + r) (m - r))) γ
theorem ok_l_moved {P : Program} {w : World} {K : PySem.W.Frag} {mg : Str → Option Value} {base : Heap} (W : Wd K mg) : FOk P w K mg base CX0 1 "_law_moved" ["_law_span_here", "_law_line_here", "_law_removed", "_law_added"] (spOf K q_l_moved) :=
  fok (F_l_moved W) (g_l_moved W) (fun _ _ _ _ _ _ us hl => match us, hl with | [_, _, _, _], _ => rfl) fun fd F => by
  refine F.ok sc_l_moved (sp_len (n := 4) fun γ Kp Ko Ep h => ?_) (fun cdv A outer s H vs Q E hr h => ?_)
  · obtain ⟨s, a, r, m, rfl, _⟩ := h
    rfl
  · refine ⟨_, PSs.nox (jss_cons (js_if (pb_cmp op_isN bin_isN (pp_v (pv 0)) pp_non) (jss_one (js_ret pp_non)) jss_nil) (jss_cons (js_setLc (i := 4) (own := [("_law_k", 6)]) rfl sc_l_moved.nd rfl rfl (sw_true rfl rfl (by rfl) (by rfl)) (ji_seq (pp_sh (po_lst (ja_cons (pp_v (pv 1)) (ja_cons (pp_ix (pp_v (pv 0)) pp_int) ja_nil))))) (blkOk_by (N := ["_law_span_here", "_law_line_here", "_law_removed", "_law_added", "_law_gone", "_law_lines", "_law_k", "_law_one_here"]) (sc := defScope s_l_moved) (by decide +kernel)) (fun _ _ _ _ _ => (jgv_name (vs := [6]) (pg_name (i := 6) sc_l_moved.nd rfl (Or.inl rfl)) (by decide))) (fun _ _ _ _ _ => (ts_one (pb_w (jw_and (pb_ch op_le op_le bin_le bin_le (pp_ix (pp_v (pv 0)) pp_int) (pp_v (pv 6)) (pp_ix (pp_v (pv 0)) pp_int)) (jw_and1 (pb_ch op_le op_lt bin_le bin_lt (pp_v (pv 1)) (pp_v (pv 6)) (pp_add (pp_v (pv 1)) (pp_v (pv 2))))))))) (fun _ _ _ _ _ => (pp_v (pv 6)))) (jss_cons (js_if (pb_cmp (op_neA hr.units) bin_neQ (pp_v (pv 4)) (pp_sh (po_lst ja_nil))) (jss_one (js_ret pp_non)) jss_nil) (jss_cons (js_setLc (i := 5) (own := [("_law_one_here", 7)]) rfl sc_l_moved.nd rfl rfl (sw_true rfl rfl (by rfl) (by rfl)) (ji_seq (pp_sl (pp_v (pv 0)) jp_none (jp_some pp_int))) (blkOk_by (N := ["_law_span_here", "_law_line_here", "_law_removed", "_law_added", "_law_gone", "_law_lines", "_law_k", "_law_one_here"]) (sc := defScope s_l_moved) (by decide +kernel)) (fun _ _ _ _ _ => (jgv_name (vs := [7]) (pg_name (i := 7) sc_l_moved.nd rfl (Or.inl rfl)) (by decide))) (fun _ _ _ _ _ => ts_nil) (fun _ _ _ _ _ => (pp_if (pb_cmp op_ge bin_ge (pp_v (pv 7)) (pp_add (pp_v (pv 1)) (pp_v (pv 2)))) (pp_sub (pp_add (pp_v (pv 7)) (pp_v (pv 3))) (pp_v (pv 2))) (pp_v (pv 7))))) (jss_one (js_ret (pp_tup (ja_cons (pp_ix (pp_v (pv 5)) pp_int) (ja_cons (pp_ix (pp_v (pv 5)) pp_int) (ja_cons (pp_ix (pp_v (pv 0)) pp_int) (ja_cons (pp_ix (pp_v (pv 0)) pp_int) ja_nil))))))))))), body_of h fun γ Kp Ko Ep h => ?_⟩
    obtain ⟨s, a, r, m, rfl, so, r0, k⟩ := h
    cases s with
    | none => exact k
    | some p =>
      have hle : p.l ≤ p.e := (show p.ok from so).le
      refine ⟨_, L2.atI_nat (j := 0) rfl, by show 2 ≤ sizeLine; decide, fun _ => ?_⟩
      refine ⟨fun i acc γ => acc = (([a, p.l].take i).filter fun k => decide (p.l ≤ k ∧ k ≤ p.e ∧ a ≤ k ∧ k < a + r)).map PV.int ∧ γ = [.sh (spv (some p)), .sh (.int a), .sh (.int r), .sh (.int m), .no, .no, .no, .no], ⟨rfl, rfl⟩, ?_, ?_⟩
      · rintro i x acc γ hi hx ⟨rfl, rfl⟩
        obtain ⟨y, gy, rfl⟩ := map_get (show ([a, p.l].map PV.int)[i]? = some x from hx)
        have lt : (List.map PV.int (List.filter (fun k => decide (p.l ≤ k ∧ k ≤ p.e ∧ a ≤ k ∧ k < a + r)) (List.take i [a, p.l]))).length < sizeLine := by
          have h1 : (List.take i [a, p.l]).length ≤ 2 := by rw [List.length_take]; exact Nat.min_le_right _ _
          have h2 := List.length_filter_le (fun k => decide (p.l ≤ k ∧ k ≤ p.e ∧ a ≤ k ∧ k < a + r)) (List.take i [a, p.l])
          rw [List.length_map, sizeLine_eq]
          omega
        have no : ¬ (p.l ≤ y ∧ y ≤ p.e ∧ a ≤ y ∧ y < a + r) → List.map PV.int (List.filter (fun k => decide (p.l ≤ k ∧ k ≤ p.e ∧ a ≤ k ∧ k < a + r)) (List.take i [a, p.l])) = List.map PV.int (List.filter (fun k => decide (p.l ≤ k ∧ k ≤ p.e ∧ a ≤ k ∧ k < a + r)) (List.take (i + 1) [a, p.l])) := fun h => by
          rw [take_snoc gy, List.filter_append, List.filter_cons_of_neg (by rw [decide_eq_true_eq]; exact h), List.filter_nil, List.append_nil]
        refine ⟨_, L2.atI_nat (j := 0) rfl, ite_b (fun h1 => ⟨_, L2.atI_nat (j := 1) rfl, ite_b (fun h2 => ite_b (fun h3 => ite_b (fun h4 => ⟨lt, ?_, rfl⟩) (fun h4 => ⟨no fun z => h4 z.2.2.2, rfl⟩)) (fun h3 => ⟨no fun z => h3 z.2.2.1, rfl⟩)) (fun h2 => ⟨no fun z => h2 z.2.1, rfl⟩)⟩) (fun h1 => ⟨no fun z => h1 z.1, rfl⟩)⟩
        rw [take_snoc gy, List.filter_append, List.filter_cons_of_pos (by rw [decide_eq_true_eq]; exact ⟨h1, h2, h3, h4⟩), List.map_append]
        rfl
      rintro acc γ ⟨rfl, rfl⟩ al
      have rest : ¬ (p.l < p.e + 1 ∧ p.l < a + r ∧ a < p.e + 1 ∧ a < a + r) → Kp (.tup [.int (mvL p.l (a + r) (m - r)), .int (mvL p.e (a + r) (m - r)), ovP p.c, ovP p.d]) [.sh (spv (some p)), .sh (.int a), .sh (.int r), .sh (.int m)] := fun hc => by
        have e : mvS (some p) a (a + r) (m - r) = some ⟨mvL p.l (a + r) (m - r), mvL p.e (a + r) (m - r), p.c, p.d⟩ := if_neg hc
        rw [e] at k
        exact k
      refine ⟨by show 0 ≤ sizeLine; decide, fun _ => ?_⟩
      have full : List.take (srcOf [PV.int a, .int p.l]).n [a, p.l] = [a, p.l] := rfl
      rw [full]
      by_cases hc : p.l < p.e + 1 ∧ p.l < a + r ∧ a < p.e + 1 ∧ a < a + r
      · have e : mvS (some p) a (a + r) (m - r) = none := if_pos hc
        rw [e] at k
        have ne : List.filter (fun k => decide (p.l ≤ k ∧ k ≤ p.e ∧ a ≤ k ∧ k < a + r)) [a, p.l] ≠ [] := fun z => by
          have z := List.filter_eq_nil_iff.mp z
          have z1 := z a (by simp)
          have z2 := z p.l (by simp)
          rw [decide_eq_true_eq] at z1 z2
          omega
        refine neQ_pl (n := 1) (m := 1) (Pl.pints _) (.lst 0 [] fun z hz => nomatch hz) (by decide) (by decide) (fun z => ?_) (fun _ => k)
        have z : List.map PV.int (List.filter (fun k => decide (p.l ≤ k ∧ k ≤ p.e ∧ a ≤ k ∧ k < a + r)) [a, p.l]) = [] := PV.lst.inj z
        exact absurd (List.map_eq_nil_iff.mp z) ne
      · have nil : List.filter (fun k => decide (p.l ≤ k ∧ k ≤ p.e ∧ a ≤ k ∧ k < a + r)) [a, p.l] = [] := by
          rw [List.filter_eq_nil_iff]
          intro z hz
          rw [decide_eq_true_eq]
          simp only [List.mem_cons, List.not_mem_nil, or_false] at hz
          rcases hz with rfl | rfl <;> omega
        have rest := rest hc
        rw [nil]
        refine neQ_same (n := 1) (.lst 0 [] fun z hz => nomatch hz) (by decide) ?_
        refine ⟨by show ¬ (HT.sIx 4 0 none = 0 ∧ HT.sIx 4 4 (some 2) = 4); decide, ?_⟩
        refine ⟨fun i acc γ => acc = ([p.l, p.e].take i).map (fun x => PV.int (mvL x (a + r) (m - r))) ∧ γ = [.sh (spv (some p)), .sh (.int a), .sh (.int r), .sh (.int m), .sh (.lst []), .no, .no, .no], ⟨rfl, rfl⟩, ?_, ?_⟩
        · rintro i x acc γ hi hx ⟨rfl, rfl⟩
          obtain ⟨y, gy, rfl⟩ := map_get (show ([p.l, p.e].map PV.int)[i]? = some x from hx)
          have lt : (List.map (fun x => PV.int (mvL x (a + r) (m - r))) (List.take i [p.l, p.e])).length < sizeLine := by
            have : (List.take i [p.l, p.e]).length ≤ 2 := by rw [List.length_take]; exact Nat.min_le_right _ _
            rw [List.length_map, sizeLine_eq]
            omega
          refine ite_b (fun h => ⟨lt, ?_, rfl⟩) (fun h => ⟨lt, ?_, rfl⟩)
          · have h : a + r ≤ y := h
            have e : mvL y (a + r) (m - r) = y + m - r := by
              unfold mvL
              split <;> omega
            rw [take_snoc gy, List.map_append]
            show _ = _ ++ [PV.int (mvL y (a + r) (m - r))]
            rw [e]
          · have h : ¬ a + r ≤ y := h
            have e : mvL y (a + r) (m - r) = y := by
              unfold mvL
              split <;> omega
            rw [take_snoc gy, List.map_append]
            show _ = _ ++ [PV.int (mvL y (a + r) (m - r))]
            rw [e]
        rintro acc γ ⟨rfl, rfl⟩ al
        exact ⟨_, L2.atI_nat (j := 0) rfl, _, L2.atI_nat (j := 1) rfl, _, L2.atI_nat (j := 2) rfl, _, L2.atI_nat (j := 3) rfl, by show 4 ≤ sizeLine; decide, rest⟩
end K33

namespace K33
open PySem PySem.Spec PyProof.Rows L2 Lay Pu
def q_l_said : PSp := fun γ K _ _ => ∃ (t : Tb) (A : List Span) (x y z : PV) (n1 n2 n3 : String), γ = [.sh t.v, .sh x, .sh y, .sh z] ∧ t.ss = A ∧ x.tyN = some n1 ∧ y.tyN = some n2 ∧ z.tyN = some n3 ∧ 1 ≤ t.l ∧ t.l ≤ 2147483647 ∧ (∀ s ∈ A, SpanOk s) ∧ A.length ≤ 60000 ∧
  (inRP x 1 2147483647 = false → K (lineP x) γ) ∧ (inRP x 1 2147483647 = true → inRP y 0 2147483647 = false → K (countP y) γ) ∧ (inRP x 1 2147483647 = true → inRP y 0 2147483647 = true → inRP z 0 2147483647 = false → K (countP z) γ) ∧
  ∀ a r m : Int, x = .int a → y = .int r → z = .int m → 1 ≤ a → a ≤ 2147483647 → 0 ≤ r → r ≤ 2147483647 → 0 ≤ m → m ≤ 2147483647 →
    (firstBad (mvA A a r m) = none → K (tellP (mvA A a r m) t.l) γ) ∧ ∀ b, firstBad (mvA A a r m) = some b → K (lineP (.int b)) γ
theorem ok_l_said {P : Program} {w : World} {K : PySem.W.Frag} {mg : Str → Option Value} {base : Heap} (W : Wd K mg) : FOk P w K mg base CX0 14 "_law_said" ["_law_table", "_law_line_here", "_law_removed", "_law_added"] (spOf K q_l_said) :=
  fok (F_l_said W) (g_l_said W) (fun _ _ _ _ _ _ us hl => match us, hl with | [_, _, _, _], _ => rfl) fun fd F => by
  refine F.ok sc_l_said (sp_len (n := 4) fun γ Kp Ko Ep h => ?_) (fun cdv A outer s H vs Q E hr h => ?_)
  · obtain ⟨t, A, x, y, z, n1, n2, n3, rfl, _⟩ := h
    rfl
  · refine ⟨_, PSs.nox (jss_cons (js_tryP rfl rfl sc_l_said.nd takes0 (fun W2 pn xe tk po => (jss_one (js_set (ps_set (i := 4) sc_l_said.nd rfl (Or.inl rfl) (pp_call (pe_fS (ok_moved W) (hr.mono (by decide)) (by rfl) (passES tk) (ja_cons (pp_v (pv 0)) (ja_cons (pp_v (pv 1)) (ja_cons (pp_v (pv 2)) (ja_cons (pp_v (pv 3)) ja_nil)))))))))) (.named (i := 5) (c := "BadLine") rfl rfl ⟨rfl, by decide, .inl (x_BadLine W).g⟩ (fun a oe cls d pn hz hf => (jss_one (js_ret (pp_tup (ja_cons pp_str (ja_cons (pp_xfA (x_BadLine W).xf ((x_BadLine W).no "line" (by simp)) hz hf (pp_v (pv 5))) ja_nil)))))) (.named (i := 5) (c := "BadCount") rfl rfl ⟨rfl, by decide, .inl (x_BadCount W).g⟩ (fun a oe cls d pn hz hf => (jss_one (js_ret (pp_tup (ja_cons pp_str (ja_cons (pp_xfA (x_BadCount W).xf ((x_BadCount W).no "many" (by simp)) hz hf (pp_v (pv 5))) ja_nil)))))) .nil))) (jss_one (js_ret (pp_tup (ja_cons (pp_meth0 (pe_mS0 (pp_v (pv 4)) (c_Table W) (m_spans W) (ok_Table_spans W) (hr.mono (by decide)) pass0S)) (ja_cons (pp_sh (po_cb (pe_callTy (call_listA rfl) (by rfl) (g_list W) (by decide +kernel) (ja_cons (pp_fld (c_Table W) (no_data W) (pe_fld (pp_v (pv 4)) rfl)) ja_nil)) cb_list)) (ja_cons (pp_fld (c_Table W) (no_first_line W) (pe_fld (pp_v (pv 4)) rfl)) ja_nil))))))), body_of0 h fun γ Kp Ko Ep h => ?_⟩
    obtain ⟨t, A, x, y, z, n1, n2, n3, rfl, e, hx, hy, hz, l1, l2, hss, hlen, kx, ky, kz, k⟩ := h
    have e : spansOf t.es = A := e
    subst e
    refine ⟨_, t.l, t.es, x, y, z, n1, n2, n3, rfl, hx, hy, hz, l1, l2, hss, hlen, fun ix => ⟨true, (x_BadLine W).self, fun _ a d => ⟨rfl, rfl, rfl, _, rfl, by show 2 ≤ sizeLine; decide, kx ix⟩, fun z => nomatch z⟩, fun ix iy => ⟨false, xm_BadCount_BadLine W, (fun z => nomatch z), fun _ => ⟨true, (x_BadCount W).self, fun _ a d => ⟨rfl, rfl, rfl, _, rfl, by show 2 ≤ sizeLine; decide, ky ix iy⟩, fun z => nomatch z⟩⟩, fun ix iy iz => ⟨false, xm_BadCount_BadLine W, (fun z => nomatch z), fun _ => ⟨true, (x_BadCount W).self, fun _ a d => ⟨rfl, rfl, rfl, _, rfl, by show 2 ≤ sizeLine; decide, kz ix iy iz⟩, fun z => nomatch z⟩⟩, fun a r m e1 e2 e3 a1 a2 r1 r2 m1 m2 => ?_⟩
    obtain ⟨k, kb⟩ := k a r m e1 e2 e3 a1 a2 r1 r2 m1 m2
    refine ⟨fun hb => ?_, fun b hb => ⟨true, (x_BadLine W).self, fun _ a d => ⟨rfl, rfl, rfl, _, rfl, by show 2 ≤ sizeLine; decide, kb b hb⟩, fun z => nomatch z⟩⟩
    have hok := mv_ok hss a1 r1 m1 hb
    have hz2 : (byteArr (rowBytes (wRows (mvA (spansOf t.es) a r m) t.l))).size ≤ sizeLine := by
      have := wTab_siz hok l1 l2
      have h2 := mvA_len (spansOf t.es) a r m
      rw [sizeLine_eq]
      omega
    exact ⟨rfl, tab_no_spans _ t.l _, _, t.l, _, rfl, fun _ => ⟨rfl, _, tab_data _ t.l _, hz2, fun _ => ⟨rfl, _, tab_line _ t.l _, by show 3 ≤ sizeLine; decide, k hb⟩⟩⟩
end K33

namespace K33
open PySem PySem.Spec PyProof.Rows L2 Lay Pu
def q_l_due : PSp := fun γ K _ _ => ∃ (A : List Span) (fl a r m : Int), γ = [.sh (.lst (A.map spv)), .sh (.int fl), .sh (.int a), .sh (.int r), .sh (.int m)] ∧ (∀ s ∈ A, SpanOk s) ∧ A.length ≤ 60000 ∧ 1 ≤ fl ∧ fl ≤ 2147483647 ∧ 1 ≤ a ∧ 0 ≤ r ∧ 0 ≤ m ∧
  (firstBad (mvA A a r m) = none → K (dueP (mvA A a r m) fl) γ) ∧ ∀ b, firstBad (mvA A a r m) = some b → K (lineP (.int b)) γ
theorem ok_l_due {P : Program} {w : World} {K : PySem.W.Frag} {mg : Str → Option Value} {base : Heap} (W : Wd K mg) : FOk P w K mg base CX0 13 "_law_due" ["_law_spans_here", "_law_first_line", "_law_line_here", "_law_removed", "_law_added"] (spOf K q_l_due) :=
  fok (F_l_due W) (g_l_due W) (fun _ _ _ _ _ _ us hl => match us, hl with | [_, _, _, _, _], _ => rfl) fun fd F => by
  refine F.ok sc_l_due (sp_len (n := 5) fun γ Kp Ko Ep h => ?_) (fun cdv A outer s H vs Q E hr h => ?_)
  · obtain ⟨A, fl, a, r, m, rfl, _⟩ := h
    rfl
  · refine ⟨_, PSs.nox (jss_cons (js_setLc (i := 6) (own := [("_law_span_here", 5)]) rfl sc_l_due.nd rfl rfl (sw_true rfl rfl (by rfl) (by rfl)) (ji_seq (pp_v (pv 0))) (blkOk_by (N := ["_law_spans_here", "_law_first_line", "_law_line_here", "_law_removed", "_law_added", "_law_span_here", "_law_found", "_law_one_here"]) (sc := defScope s_l_due) (by decide +kernel)) (fun _ _ _ _ _ => (jgv_name (vs := [5]) (pg_name (i := 5) sc_l_due.nd rfl (Or.inl rfl)) (by decide))) (fun _ _ _ _ _ => ts_nil) (fun _ _ _ _ _ => (pp_call (pe_fS (ok_l_moved W) (hr.mono (by decide)) (by rfl) pass0S (ja_cons (pp_v (pv 5)) (ja_cons (pp_v (pv 2)) (ja_cons (pp_v (pv 3)) (ja_cons (pp_v (pv 4)) ja_nil)))))))) (jss_cons (js_for PassesOwn.never rfl (ji_seq (pp_v (pv 6))) (jg_name (pg_name (i := 5) sc_l_due.nd rfl (Or.inl rfl))) (jss_one (js_if (pb_cmp op_notN bin_notN (pp_v (pv 5)) pp_non) (jss_one (js_for PassesOwn.never rfl (ji_seq (pp_sl (pp_v (pv 5)) jp_none (jp_some pp_int))) (jg_name (pg_name (i := 7) sc_l_due.nd rfl (Or.inl rfl))) (jss_one (js_if (pb_cmp op_gt bin_gt (pp_v (pv 7)) pp_int) (jss_one (js_ret (pp_tup (ja_cons pp_str (ja_cons (pp_v (pv 7)) ja_nil))))) jss_nil)))) jss_nil))) (jss_one (js_ret (pp_tup (ja_cons (pp_v (pv 6)) (ja_cons (pp_sh (po_cb (pe_callTy (call_listA rfl) (by rfl) (g_list W) (by decide +kernel) (ja_cons (pp_fld (c_Table W) (no_data W) (pe_fld (pp_quiet (pp_call (pe_staF (pe_glob (v := .ref (He.ga K "Table")) rfl (gc_Table W) rfl) (k_Table_of W) (ok_Table_of W) (hr.mono (by decide)) passLS (ja_cons (pp_v (pv 6)) (ja_cons (pp_v (pv 1)) ja_nil))))) rfl)) ja_nil)) cb_list)) (ja_cons (pp_v (pv 1)) ja_nil)))))))), body_of h fun γ Kp Ko Ep h => ?_⟩
    obtain ⟨A, fl, a, r, m, rfl, ok, hl, f1, f2, a1, r1, m1, k, kb⟩ := h
    refine ⟨fun i acc γ => acc = ((mvA A a r m).take i).map spv ∧ γ = [.sh (.lst (A.map spv)), .sh (.int fl), .sh (.int a), .sh (.int r), .sh (.int m), .no, .no, .no], ⟨rfl, rfl⟩, ?_, ?_⟩
    · rintro i x acc γ hi hx ⟨rfl, rfl⟩
      obtain ⟨s, gs, rfl⟩ := map_get (show (A.map spv)[i]? = some x from hx)
      have gm : (mvA A a r m)[i]? = some (mvS s a (a + r) (m - r)) := by unfold mvA; rw [List.getElem?_map, gs]; rfl
      refine ⟨s, a, r, m, rfl, ok s (get_mem' gs), r1, ?_, ?_, rfl⟩
      · have := mvA_len A a r m
        rw [List.length_map, List.length_take, sizeLine_eq]
        omega
      · rw [take_snoc gm, List.map_append]
        rfl
    rintro acc γ ⟨rfl, rfl⟩ al
    have e : (mvA A a r m).take (srcOf (A.map spv)).n = mvA A a r m := by
      show List.take (A.map spv).length _ = _
      rw [List.length_map, ← mvA_len A a r m, List.take_length]
    rw [e]
    have len := mvA_len A a r m
    have okB : firstBad (mvA A a r m) = none → ∀ s ∈ mvA A a r m, SpanOk s := mv_ok ok a1 r1 m1
    generalize mvA A a r m = B at k kb len okB ⊢
    refine ⟨fun i γ => firstBad (B.take i) = none ∧ ∃ (x5 x7 : Sl), γ = [.sh (.lst (A.map spv)), .sh (.int fl), .sh (.int a), .sh (.int r), .sh (.int m), x5, .sh (.lst (B.map spv)), x7], ⟨rfl, _, _, rfl⟩, ?_, ?_⟩
    · rintro i x γ hi hx ⟨h0, x5, x7, rfl⟩
      obtain ⟨s, gs, rfl⟩ := map_get (show (B.map spv)[i]? = some x from hx)
      cases s with
      | none => exact ⟨firstBad_snoc h0 gs rfl, _, _, rfl⟩
      | some p =>
        refine ⟨by show ¬ (HT.sIx 4 0 none = 0 ∧ HT.sIx 4 4 (some 2) = 4); decide, ?_⟩
        refine ⟨fun j γ => (0 < j → p.l ≤ 2147483647) ∧ (1 < j → p.e ≤ 2147483647) ∧ ∃ (x7 : Sl), γ = [.sh (.lst (A.map spv)), .sh (.int fl), .sh (.int a), .sh (.int r), .sh (.int m), .sh (spv (some p)), .sh (.lst (B.map spv)), x7], ⟨(fun z => nomatch z), (fun z => nomatch z), _, rfl⟩, ?_, ?_⟩
        · rintro j y γ hj hy ⟨j0, j1, x7, rfl⟩
          have hj : j < 2 := hj
          have bd : badS (some p) = if 2147483647 < p.l then some p.l else if 2147483647 < p.e then some p.e else none := rfl
          match j, hj with
          | 0, _ =>
            cases (show some (PV.int p.l) = some y from hy)
            refine ite_b (fun h => ?_) (fun h => ?_)
            · have h : (2147483647 : Int) < p.l := h
              exact ⟨by show 2 ≤ sizeLine; decide, kb _ (firstBad_at h0 gs (by rw [bd, if_pos h]))⟩
            · have h : ¬ (2147483647 : Int) < p.l := h
              exact ⟨fun _ => by omega, (fun z => nomatch z), _, rfl⟩
          | 1, _ =>
            cases (show some (PV.int p.e) = some y from hy)
            have j0 := j0 (by decide)
            refine ite_b (fun h => ?_) (fun h => ?_)
            · have h : (2147483647 : Int) < p.e := h
              exact ⟨by show 2 ≤ sizeLine; decide, kb _ (firstBad_at h0 gs (by rw [bd, if_neg (by omega), if_pos h]))⟩
            · have h : ¬ (2147483647 : Int) < p.e := h
              exact ⟨fun _ => j0, fun _ => by omega, _, rfl⟩
        · rintro γ ⟨j0, j1, x7, rfl⟩
          have j0 : p.l ≤ 2147483647 := j0 (by show 0 < 2; decide)
          have j1 : p.e ≤ 2147483647 := j1 (by show 1 < 2; decide)
          refine ⟨firstBad_snoc h0 gs ?_, _, _, rfl⟩
          show (if 2147483647 < p.l then some p.l else if 2147483647 < p.e then some p.e else none) = none
          rw [if_neg (by omega), if_neg (by omega)]
    · rintro γ ⟨h0, x5, x7, rfl⟩
      have e2 : B.take (srcOf (B.map spv)).n = B := by
        show List.take (B.map spv).length _ = _
        rw [List.length_map, List.take_length]
      rw [e2] at h0
      have okB := okB h0
      have hz2 : (byteArr (rowBytes (wRows B fl))).size ≤ sizeLine := by
        have := wTab_siz okB f1 f2
        rw [sizeLine_eq]
        omega
      obtain ⟨nx, hnx⟩ := of_ty (.inl rfl)
      refine ⟨_, .int fl, nx, "int", rfl, hnx, rfl, (fun h => (of_kind (.inl rfl) h).elim), fun xs hxs => ?_⟩
      obtain rfl := of_list (.inl rfl) hxs
      refine ⟨spItems _, (fun i b => (badAt_no okB b).elim), (fun _ h => (of_line h f1 f2).elim), fun _ l' e _ _ => ?_⟩
      cases e
      refine ⟨_, rfl, okB, by omega, ?_⟩
      exact ⟨rfl, _, tab_data _ fl _, hz2, fun _ => ⟨by show 3 ≤ sizeLine; decide, k h0⟩⟩
end K33

namespace K33
open PySem PySem.Spec PyProof.Rows L2 Lay Pu
def edP (e : Int × Int × Int) : PV := .tup [.int e.1, .int e.2.1, .int e.2.2]
def EdOk (e : Int × Int × Int) : Prop := 1 ≤ e.1 ∧ e.1 ≤ 2147483647 ∧ 0 ≤ e.2.1 ∧ e.2.1 ≤ 2147483647 ∧ 0 ≤ e.2.2 ∧ e.2.2 ≤ 2147483647
def q_l_idle : PSp := fun γ K _ _ => ∃ (w : Addr) (a b : Int) (ss : List Span), γ = [.ow w (wl a b), .sh (.lst (ss.map spv))] ∧ (∀ s ∈ ss, SpanOk s) ∧ ss.length ≤ 30000 ∧
  ∀ (es : List (Int × Int × Int)) a' b', (∀ e ∈ es, EdOk e) → es.length ≤ 4 → K (.lst (es.map edP)) [.ow w (wl a' b'), .sh (.lst (ss.map spv))]
theorem ok_l_idle {P : Program} {w : World} {K : PySem.W.Frag} {mg : Str → Option Value} {base : Heap} (W : Wd K mg) : FOk P w K mg base CX0 2 "_law_idle" ["_law_well_here", "_law_spans_here"] (spOf K q_l_idle) :=
  fok (F_l_idle W) (g_l_idle W) (fun _ _ _ _ _ _ us hl => match us, hl with | [_, _], _ => rfl) fun fd F => by
  refine F.ok sc_l_idle (sp_len (n := 2) fun γ Kp Ko Ep h => ?_) (fun cdv A outer s H vs Q E hr h => ?_)
  · obtain ⟨w, a, b, ss, rfl, _⟩ := h
    rfl
  · refine ⟨_, PSs.nox (jss_cons (js_set (ps_set (i := 2) sc_l_idle.nd rfl (Or.inl rfl) (pp_cb (pe_callB (cr_max rfl) (by rfl) (g_max W) (by decide +kernel) (ja_cons (pp_add (pp_sh (po_lst (ja_cons pp_int ja_nil))) (pp_sh (po_lc (pe_lc (own := [("_law_span_here", 4)]) rfl sc_l_idle.nd (ji_seq (pp_v (pv 1))) (blkOk_by (N := ["_law_well_here", "_law_spans_here", "_law_last", "_law_found", "_law_span_here"]) (sc := defScope s_l_idle) (by decide +kernel)) (fun _ _ _ _ _ => (jgv_name (vs := [4]) (pg_name (i := 4) sc_l_idle.nd rfl (Or.inl rfl)) (by decide))) (fun _ _ _ _ _ => (ts_one (pb_cmp op_notN bin_notN (pp_v (pv 4)) pp_non))) (fun _ _ _ _ _ => (pp_ix (pp_v (pv 4)) pp_int)))))) ja_nil)) cb_maxL))) (jss_cons (js_set (ps_set (i := 3) sc_l_idle.nd rfl (Or.inl rfl) (pp_sh (po_lst (ja_cons (pp_tup (ja_cons (pp_add pp_int (pp_callW (pe_fS (ok_l_draw W) (hr.mono (by decide)) (by rfl) pass0S (pa_cons (pv 0) (ja_cons pp_int ja_nil))))) (ja_cons pp_int (ja_cons pp_int ja_nil)))) (ja_cons (pp_tup (ja_cons pp_int (ja_cons pp_int (ja_cons pp_int ja_nil)))) ja_nil)))))) (jss_cons (js_if (pb_cmp op_lt bin_lt (pp_v (pv 2)) pp_int) (jss_one (js_set (ps_set (i := 3) sc_l_idle.nd rfl (Or.inl rfl) (pp_add (pp_v (pv 3)) (pp_sh (po_lst (ja_cons (pp_tup (ja_cons (pp_add (pp_v (pv 2)) pp_int) (ja_cons (pp_callW (pe_fS (ok_l_draw W) (hr.mono (by decide)) (by rfl) pass0S (pa_cons (pv 0) (ja_cons pp_int ja_nil)))) (ja_cons (pp_callW (pe_fS (ok_l_draw W) (hr.mono (by decide)) (by rfl) pass0S (pa_cons (pv 0) (ja_cons pp_int ja_nil)))) ja_nil)))) (ja_cons (pp_tup (ja_cons pp_int (ja_cons pp_int (ja_cons pp_int ja_nil)))) ja_nil)))))))) jss_nil) (jss_one (js_ret (pp_v (pv 3))))))), body_of h fun γ Kp Ko Ep h => ?_⟩
    obtain ⟨w, a, b, ss, rfl, ok, hl, k⟩ := h
    refine ⟨by show 1 ≤ sizeLine; decide, fun _ => ?_⟩
    refine ⟨fun i acc γ => ∃ (ns : List Int), acc = ns.map PV.int ∧ ns.length ≤ i ∧ (∀ n ∈ ns, 1 ≤ n ∧ n ≤ 2147483647) ∧ γ = [.ow w (wl a b), .sh (.lst (ss.map spv)), .no, .no, .no], ⟨[], rfl, Nat.le_refl _, (fun n h => nomatch h), rfl⟩, ?_, ?_⟩
    · rintro i x acc γ hi hx ⟨ns, rfl, hn, hb, rfl⟩
      obtain ⟨s, gs, rfl⟩ := map_get (show (ss.map spv)[i]? = some x from hx)
      have hi : i < ss.length := (List.getElem?_eq_some_iff.mp gs).1
      cases s with
      | none => exact ⟨ns, rfl, by omega, hb, rfl⟩
      | some p =>
        have so : p.ok := ok _ (get_mem' gs)
        have y1 := so.l1
        have y2 := so.le
        have y3 := so.eM
        refine ⟨_, L2.atI_nat (j := 1) rfl, ?_, ns ++ [p.e], ?_, ?_, fun n h => ?_, rfl⟩
        · rw [List.length_map, sizeLine_eq]
          omega
        · rw [List.map_append]
          rfl
        · rw [List.length_append, List.length_singleton]
          omega
        · rcases List.mem_append.mp h with h | h
          · exact hb n h
          · rw [List.mem_singleton.mp h]
            exact ⟨by omega, y3⟩
    rintro acc γ ⟨ns, rfl, hn, hb, rfl⟩ al
    have hn : ns.length ≤ ss.length := by
      have : (srcOf (ss.map spv)).n = ss.length := by
        show (ss.map spv).length = _
        rw [List.length_map]
      omega
    refine ⟨?_, 1 :: ns, rfl, Nat.succ_pos _, fun m hm _ => ?_⟩
    · show 1 + (ns.map PV.int).length ≤ sizeLine
      rw [List.length_map, sizeLine_eq]
      omega
    have hmb : 1 ≤ m ∧ m ≤ 2147483647 := by
      rcases List.mem_cons.mp hm with rfl | hm
      · exact ⟨by decide, by decide⟩
      · exact hb m hm
    have two : EdOk (2147483647, 0, 0) := ⟨by decide, by decide, by decide, by decide, by decide, by decide⟩
    refine ⟨w, a, b, 99, rfl, by decide, by decide, fun d a1 b1 d0 d1 => ⟨by show 3 ≤ sizeLine; decide, by show 3 ≤ sizeLine; decide, by show 2 ≤ sizeLine; decide, fun _ => ?_⟩⟩
    have one : EdOk (1 + d, 0, 0) := ⟨by show 1 ≤ 1 + d; omega, by show 1 + d ≤ _; omega, by show (0 : Int) ≤ 0; decide, by show (0 : Int) ≤ 2147483647; decide, by show (0 : Int) ≤ 0; decide, by show (0 : Int) ≤ 2147483647; decide⟩
    refine ite_b (fun h => ?_) (fun h => ?_)
    · have h : m < 2147483647 := h
      refine ⟨w, a1, b1, 4, rfl, by decide, by decide, fun e a2 b2 e0 e1 => ⟨w, a2, b2, 4, rfl, by decide, by decide, fun f a3 b3 f0 f1 => ⟨by show 3 ≤ sizeLine; decide, by show 3 ≤ sizeLine; decide, by show 2 ≤ sizeLine; decide, fun _ => ⟨by show 4 ≤ sizeLine; decide, rfl, ?_⟩⟩⟩⟩
      refine k [(1 + d, 0, 0), (2147483647, 0, 0), (m + 1, e, f), (2147483647, 1, 1)] _ _ (fun x hx => ?_) (by show 4 ≤ 4; decide)
      simp only [List.mem_cons, List.not_mem_nil, or_false] at hx
      rcases hx with rfl | rfl | rfl | rfl
      · exact one
      · exact two
      · exact ⟨by show 1 ≤ m + 1; omega, by show m + 1 ≤ _; omega, e0, by show e ≤ _; omega, f0, by show f ≤ _; omega⟩
      · exact ⟨by decide, by decide, by decide, by decide, by decide, by decide⟩
    · refine ⟨rfl, ?_⟩
      refine k [(1 + d, 0, 0), (2147483647, 0, 0)] _ _ (fun x hx => ?_) (by show 2 ≤ 4; decide)
      simp only [List.mem_cons, List.not_mem_nil, or_false] at hx
      rcases hx with rfl | rfl
      · exact one
      · exact two
end K33

namespace K33
open PySem PySem.Spec PyProof.Rows L2 Lay Pu
theorem Tb.rows {l : Int} {ss : List Span} {R : List Lay.Row} (h : RowsOk l 0 R) (sp : rowSpans R = ss) (l1 : 1 ≤ l) (l2 : l ≤ 2147483647) (hss : ∀ s ∈ ss, SpanOk s) (hl : ss.length ≤ 3000) (hr : R.length ≤ ss.length) :
    (⟨rowBytes R, l, rowEnts 0 R⟩ : Tb).ss = ss ∧ (⟨rowBytes R, l, rowEnts 0 R⟩ : Tb).ok ss.length 100000 := by
  have e : (⟨rowBytes R, l, rowEnts 0 R⟩ : Tb).ss = ss := by
    show spansOf (rowEnts 0 R) = ss
    rw [spansOf_rows, sp]
  refine ⟨e, l1, l2, rowBytes_ok h, by rw [e]; exact hss, by rw [e]; exact Nat.le_refl _, ?_⟩
  have := rowBytes_len h
  show (rowBytes R).length ≤ _
  omega
/-- Table(data, line) of rows -/
theorem init_tb {w : Addr} {l : Int} {ss : List Span} {R : List Lay.Row} {dv : PV} {Kp : PV → List Sl → Prop} {Ko : Addr → Cell → List Sl → Prop} {Ep : EK} (h : RowsOk l 0 R) (hd : dv = pints (rowBytes R)) (sp : rowSpans R = ss) (l1 : 1 ≤ l) (l2 : l ≤ 2147483647) (hl : ss.length ≤ 3000) (hr : R.length ≤ ss.length)
    (k : Kp .non [.ow w (.ins "Table" (tabF (byteArr (rowBytes R)) l (rowEnts 0 R))), .sh dv, .sh (.int l)]) : q_Table_init [.ow w (.ins "Table" []), .sh dv, .sh (.int l)] Kp Ko Ep := by
  have hb := rowBytes_len h
  refine init_gen (.inr ⟨rowBytes R, .inl hd, rowBytes_ok h, rfl⟩) (by rw [byteArr_size]; omega) l1 l2 ?_
  rw [byteArr_bi (rowBytes_ok h), rows_entries h]
  refine ⟨?_, k⟩
  rw [spansOf_rows, sp]
  omega

theorem pl_line (b : Int) : Pl 3 (lineP (.int b)) := .tup 2 _ fun x hx => by
  simp only [List.mem_cons, List.not_mem_nil, or_false] at hx
  rcases hx with rfl | rfl
  · exact .str 2 _ (by kernel_rfl)
  · exact .int 2 b
theorem pl_tell (B : List Span) (l : Int) : Pl 3 (tellP B l) := by
  rw [tell_due]
  exact pl_due B l
theorem in_bad {x : PV} {i lo hi : Int} (e : x = .int i) (h : inRP x lo hi = false) (h1 : lo ≤ i) (h2 : i ≤ hi) : False := by
  subst e
  have h : (decide (lo ≤ i) && decide (i ≤ hi)) = false := h
  rw [decide_eq_true h1, decide_eq_true h2] at h
  cases h
/-- no line, no number of lines: what the law draws -/
def OddV (x : PV) : Prop := PlD 2 x ∧ ∃ n, x.tyN = some n
theorem odd_pl {s : Str} {x : PV} (h : OddV x) : PlD 3 (.tup [.str s, x]) := .tup 2 _ fun y hy => by
  simp only [List.mem_cons, List.not_mem_nil, or_false] at hy
  rcases hy with rfl | rfl
  · exact .str 2 _
  · exact h.1
theorem none_odd {x : PV} (h : x ∈ [PV.int 0, .int (-1), .int 2147483648, .non, .bl true, .str "1", .lst []]) : OddV x ∧ inRP x 1 2147483647 = false := by
  simp only [List.mem_cons, List.not_mem_nil, or_false] at h
  rcases h with rfl | rfl | rfl | rfl | rfl | rfl | rfl
  · exact ⟨⟨.int 2 _, _, rfl⟩, by decide⟩
  · exact ⟨⟨.int 2 _, _, rfl⟩, by decide⟩
  · exact ⟨⟨.int 2 _, _, rfl⟩, by decide⟩
  · exact ⟨⟨.non 2, _, rfl⟩, rfl⟩
  · exact ⟨⟨.bl 2 _, _, rfl⟩, rfl⟩
  · exact ⟨⟨.str 2 _, _, rfl⟩, rfl⟩
  · exact ⟨⟨.lst 1 [] (fun z hz => nomatch hz), _, rfl⟩, rfl⟩
theorem odd_odd {x : PV} (h : x ∈ [PV.int (-1), .int 2147483648, .non, .bl true, .str "1", .dic []]) : OddV x ∧ inRP x 0 2147483647 = false := by
  simp only [List.mem_cons, List.not_mem_nil, or_false] at h
  rcases h with rfl | rfl | rfl | rfl | rfl | rfl
  · exact ⟨⟨.int 2 _, _, rfl⟩, by decide⟩
  · exact ⟨⟨.int 2 _, _, rfl⟩, by decide⟩
  · exact ⟨⟨.non 2, _, rfl⟩, rfl⟩
  · exact ⟨⟨.bl 2 _, _, rfl⟩, rfl⟩
  · exact ⟨⟨.str 2 _, _, rfl⟩, rfl⟩
  · exact ⟨⟨.dic 2, _, rfl⟩, rfl⟩
theorem fn_law {P : Program} {w : World} {K : PySem.W.Frag} {mg : Str → Option Value} {base : Heap} (W : Wd K mg) {fd : FuncData} (F : FunD K "law" "law" (defArgs s_law) (defBody s_law) (defScope s_law) [] [] (He.ga K "law") fd) : FnOk P w K mg base CX0 15 (He.ga K "law") fd ["_law_script"] (spOf K q_law) := by
  refine F.ok sc_law (sp_len (n := 1) fun γ Kp Ko Ep h => ?_) (fun cdv A outer s H vs Q E hr h => ?_)
  · obtain ⟨ns, rfl, _⟩ := h
    rfl
  · refine ⟨_, PSs.nox (jss_cons (js_for PassesOwn.never rfl (ji_seq (pp_add (pp_sl (pp_v (pv 0)) jp_none (jp_some pp_int)) (pp_sh (po_lst (ja_cons pp_int ja_nil))))) (jg_name (pg_name (i := 1) sc_law.nd rfl (Or.inl rfl))) (jss_cons (js_setO (ps_set (i := 2) sc_law.nd rfl (Or.inr rfl) (po_call (pe_fS (ok_l_well W) (hr.mono (by decide)) (by rfl) pass0S (ja_cons (pp_v (pv 1)) ja_nil))))) (jss_cons (js_set (ps_set (i := 3) sc_law.nd rfl (Or.inl rfl) (pp_callW (pe_fS (ok_l_line W) (hr.mono (by decide)) (by rfl) pass0S (pa_cons (pv 2) (ja_cons (pp_add pp_int (pp_callW (pe_fS (ok_l_draw W) (hr.mono (by decide)) (by rfl) pass0S (pa_cons (pv 2) (ja_cons pp_int ja_nil))))) ja_nil)))))) (jss_cons (js_set (ps_set (i := 4) sc_law.nd rfl (Or.inr rfl) (pp_callW (pe_fS (ok_l_spans W) (hr.mono (by decide)) (by rfl) pass0S (pa_cons (pv 2) (ja_cons pp_int ja_nil)))))) (jss_cons (js_set (ps_set (i := 5) sc_law.nd rfl (Or.inl rfl) (pp_quiet (pp_call (pe_staF (pe_glob (v := .ref (He.ga K "Table")) rfl (gc_Table W) rfl) (k_Table_of W) (ok_Table_of W) (hr.mono (by decide)) passLS (ja_cons (pp_v (pv 4)) (ja_cons (pp_v (pv 3)) ja_nil))))))) (jss_mid (js_if (pb_cmp (op_eqA hr.units) bin_eqQ (pp_callW (pe_fS (ok_l_draw W) (hr.mono (by decide)) (by rfl) pass0S (pa_cons (pv 2) (ja_cons pp_int ja_nil)))) pp_int) (jss_one (js_set (ps_set (i := 5) sc_law.nd rfl (Or.inl rfl) (pp_sh (po_quiet (po_mk (pe_mkS (mk_Table W) (ok_Table_init W) (hr.mono (by decide)) rfl (gc_Table W) passLS (ja_cons (pp_callW (pe_fS (ok_l_written W) (hr.mono (by decide)) (by rfl) pass0S (pa_cons (pv 2) (ja_cons (pp_v (pv 4)) (ja_cons (pp_v (pv 3)) ja_nil))))) (ja_cons (pp_v (pv 3)) ja_nil))))))))) jss_nil) (jss_cons (js_for PassesOwn.never rfl (ji_seq (pp_add (pp_sh (po_lc (pe_lc (own := [("_law_k", 11)]) rfl sc_law.nd (ji_rg (pi_range1 (by rfl) (g_range W) (ja_cons pp_int ja_nil))) (blkOk_by (N := ["_law_script", "_law_cell", "_law_well_here", "_law_first_line", "_law_spans_here", "_law_table", "_law_line_here", "_law_removed", "_law_added", "_law_none", "_law_odd", "_law_k"]) (sc := defScope s_law) (by decide +kernel)) (fun _ _ _ _ _ => (jgv_name (vs := [11]) (pg_name (i := 11) sc_law.nd rfl (Or.inl rfl)) (by decide))) (fun _ _ _ _ _ => ts_nil) (fun _ _ _ _ _ => (pp_callW (pe_fS (ok_l_edit W) (hr.mono (by decide)) (by rfl) pass0S (pa_cons (pv 2) (ja_cons (pp_v (pv 4)) ja_nil)))))))) (pp_callW (pe_fS (ok_l_idle W) (hr.mono (by decide)) (by rfl) pass0S (pa_cons (pv 2) (ja_cons (pp_v (pv 4)) ja_nil)))))) (jg_tup rfl (jgs_cons (jg_name (pg_name (i := 6) sc_law.nd rfl (Or.inl rfl))) (jgs_cons (jg_name (pg_name (i := 7) sc_law.nd rfl (Or.inl rfl))) (jgs_cons (jg_name (pg_name (i := 8) sc_law.nd rfl (Or.inl rfl))) jgs_nil)))) (jss_one (js_if (pb_cmp (op_neA hr.units) bin_neQ (pp_call (pe_fS (ok_l_said W) (hr.mono (by decide)) (by rfl) pass0S (ja_cons (pp_v (pv 5)) (ja_cons (pp_v (pv 6)) (ja_cons (pp_v (pv 7)) (ja_cons (pp_v (pv 8)) ja_nil)))))) (pp_call (pe_fS (ok_l_due W) (hr.mono (by decide)) (by rfl) pass0S (ja_cons (pp_v (pv 4)) (ja_cons (pp_v (pv 3)) (ja_cons (pp_v (pv 6)) (ja_cons (pp_v (pv 7)) (ja_cons (pp_v (pv 8)) ja_nil)))))))) (jss_one (js_ret pp_bl)) jss_nil))) (jss_cons (js_set (ps_set (i := 9) sc_law.nd rfl (Or.inl rfl) (pp_callW (pe_fS (ok_l_one W) (hr.mono (by decide)) (by rfl) pass0S (pa_cons (pv 2) (ja_cons (pp_sh (po_lst (ja_cons pp_int (ja_cons (pp_neg pp_int) (ja_cons pp_int (ja_cons pp_non (ja_cons pp_bl (ja_cons pp_str (ja_cons (pp_sh (po_lst ja_nil)) ja_nil))))))))) ja_nil)))))) (jss_cons (js_set (ps_set (i := 10) sc_law.nd rfl (Or.inl rfl) (pp_callW (pe_fS (ok_l_one W) (hr.mono (by decide)) (by rfl) pass0S (pa_cons (pv 2) (ja_cons (pp_sh (po_lst (ja_cons (pp_neg pp_int) (ja_cons pp_int (ja_cons pp_non (ja_cons pp_bl (ja_cons pp_str (ja_cons (pp_dic pe_dnewK) ja_nil)))))))) ja_nil)))))) (jss_cons (js_if (pb_w (jw_or (pb_cmp (op_neSm hr.units) bin_sm (pp_call (pe_fS (ok_l_said W) (hr.mono (by decide)) (by rfl) pass0S (ja_cons (pp_v (pv 5)) (ja_cons (pp_v (pv 9)) (ja_cons (pp_v (pv 10)) (ja_cons (pp_v (pv 10)) ja_nil)))))) (pp_tup (ja_cons pp_str (ja_cons (pp_v (pv 9)) ja_nil)))) (jw_or1 (pb_cmp (op_neSm hr.units) bin_sm (pp_call (pe_fS (ok_l_said W) (hr.mono (by decide)) (by rfl) pass0S (ja_cons (pp_v (pv 5)) (ja_cons pp_int (ja_cons (pp_v (pv 10)) (ja_cons (pp_v (pv 9)) ja_nil)))))) (pp_tup (ja_cons pp_str (ja_cons (pp_v (pv 10)) ja_nil))))))) (jss_one (js_ret pp_bl)) jss_nil) (jss_one (js_if (pb_w (jw_or (pb_cmp (op_neSm hr.units) bin_sm (pp_call (pe_fS (ok_l_said W) (hr.mono (by decide)) (by rfl) pass0S (ja_cons (pp_v (pv 5)) (ja_cons pp_int (ja_cons pp_int (ja_cons (pp_v (pv 10)) ja_nil)))))) (pp_tup (ja_cons pp_str (ja_cons (pp_v (pv 10)) ja_nil)))) (jw_or1 (pb_cmp (op_neA hr.units) bin_neQ (pp_meth0 (pe_mS0 (pp_v (pv 5)) (c_Table W) (m_spans W) (ok_Table_spans W) (hr.mono (by decide)) pass0S)) (pp_v (pv 4)))))) (jss_one (js_ret pp_bl)) jss_nil)))))))))))) (jss_one (js_ret pp_bl))), body_of h fun γ Kp Ko Ep h => ?_⟩
    obtain ⟨ns, rfl, hn, k⟩ := h
    refine ⟨by show 1 ≤ sizeLine; decide, fun _ => ⟨?_, fun i γ => ∃ (x1 x2 x3 x4 x5 x6 x7 x8 x9 x10 x11 : Sl), γ = [.sh (.ro (ns.map .int)), x1, x2, x3, x4, x5, x6, x7, x8, x9, x10, x11], ⟨.no, .no, .no, .no, .no, .no, .no, .no, .no, .no, .no, rfl⟩, ?_, ?_⟩⟩
    · have h5 : (cutP (ns.map PV.int) none (some 6)).length ≤ 63 := by
        unfold cutP
        rw [List.length_take, List.length_drop, List.length_map]
        omega
      show (cutP (ns.map PV.int) none (some 6)).length + 1 ≤ sizeLine
      rw [sizeLine_eq]
      omega
    · rintro i x γ hi hx ⟨x1, x2, x3, x4, x5, x6, x7, x8, x9, x10, x11, rfl⟩
      obtain ⟨c, rfl⟩ : ∃ c, x = .int c := by
        have hx : (cutP (ns.map PV.int) none (some 6) ++ [PV.int 0])[i]? = some x := hx
        rcases List.mem_append.mp (get_mem' hx) with h | h
        · exact cutP_int h
        · exact ⟨0, List.mem_singleton.mp h⟩
      refine ⟨c, rfl, fun w => ?_⟩
      refine ⟨w, c, 0, 40, rfl, by decide, by decide, fun d a1 b1 d0 d1 => ⟨w, a1, b1, 1 + d, rfl, fun fl a2 b2 f1 f2 => ?_⟩⟩
      refine ⟨w, a2, b2, 12, rfl, by decide, by decide, fun A a3 b3 okA lA => ?_⟩
      have lA : A.length ≤ 330 := lA
      obtain ⟨nx, hnx⟩ := of_ty (.inl rfl)
      refine ⟨_, .int fl, nx, "int", rfl, hnx, rfl, (fun h => (of_kind (.inl rfl) h).elim), fun xs hxs => ?_⟩
      obtain rfl := of_list (.inl rfl) hxs
      refine ⟨spItems _, (fun i b => (badAt_no okA b).elim), (fun _ h => (of_line h f1 f2).elim), fun _ l' e _ _ => ?_⟩
      cases e
      refine ⟨_, rfl, okA, by omega, ?_⟩
      refine ⟨fun γ => ∃ (t : Tb) (a b : Int), γ = [.sh (.ro (ns.map .int)), .sh (.int c), .ow w (wl a b), .sh (.int fl), .sh (.lst (A.map spv)), .sh t.v, x6, x7, x8, x9, x10, x11] ∧ t.ss = A ∧ t.l = fl, ?_, ?_⟩
      · refine ⟨w, a3, b3, 2, rfl, by decide, by decide, fun e a4 b4 _ _ => eqQ_pl (.int 0 _) (.int 0 _) (by decide) (by decide) (fun _ => ?_) (fun _ => ?_)⟩
        · refine ⟨w, a4, b4, fl, A, rfl, okA, by omega, f1, f2, fun R a5 b5 k1 s1 n1 h8 w2 => init_tb k1 rfl s1 f1 f2 (by omega) n1 ?_⟩
          have h := Tb.rows k1 s1 f1 f2 okA (by omega) n1
          exact ⟨⟨rowBytes R, fl, rowEnts 0 R⟩, a5, b5, rfl, h.1, rfl⟩
        · exact ⟨wT A fl, a4, b4, rfl, wT_ss A fl, rfl⟩
      rintro γ ⟨t, a4, b4, rfl, et, rfl⟩
      have et2 : spansOf t.es = A := et
      refine ⟨⟨by decide, by decide⟩, fun i acc γ => ∃ (es : List (Int × Int × Int)) (a b : Int), acc = es.map edP ∧ γ = [.sh (.ro (ns.map .int)), .sh (.int c), .ow w (wl a b), .sh (.int t.l), .sh (.lst (A.map spv)), .sh t.v, x6, x7, x8, x9, x10, .no] ∧ (∀ e ∈ es, EdOk e) ∧ es.length ≤ i, ⟨[], a4, b4, rfl, rfl, (fun e h => nomatch h), Nat.le_refl _⟩, ?_, ?_⟩
      · rintro i x acc γ hi rfl ⟨es, a5, b5, rfl, rfl, hes, hel⟩
        have hi : i < 3 := hi
        refine ⟨w, a5, b5, A, rfl, okA, by omega, fun l r m a6 b6 l1 l2 r1 r2 m1 m2 => ⟨?_, es ++ [(l, r, m)], a6, b6, by rw [List.map_append]; rfl, rfl, fun e he => ?_, ?_⟩⟩
        · rw [List.length_map, sizeLine_eq]
          omega
        · rcases List.mem_append.mp he with he | he
          · exact hes e he
          · rw [List.mem_singleton.mp he]
            exact ⟨l1, l2, r1, r2, m1, m2⟩
        · rw [List.length_append, List.length_singleton]
          omega
      rintro acc γ ⟨es, a5, b5, rfl, rfl, hes, hel⟩ al
      have hel : es.length ≤ 3 := hel
      refine ⟨w, a5, b5, A, rfl, okA, by omega, fun es2 a6 b6 hes2 hel2 => ⟨?_, ?_⟩⟩
      · rw [List.length_map, List.length_map, sizeLine_eq]
        omega
      rw [← List.map_append]
      have hall : ∀ e ∈ es ++ es2, EdOk e := fun e he => (List.mem_append.mp he).elim (hes e) (hes2 e)
      generalize es ++ es2 = eds at hall
      refine ⟨fun i γ => ∃ (y6 y7 y8 : Sl), γ = [.sh (.ro (ns.map .int)), .sh (.int c), .ow w (wl a6 b6), .sh (.int t.l), .sh (.lst (A.map spv)), .sh t.v, y6, y7, y8, x9, x10, .no], ⟨_, _, _, rfl⟩, ?_, ?_⟩
      · rintro i x γ hi hx ⟨y6, y7, y8, rfl⟩
        obtain ⟨ed, ge, rfl⟩ := map_get (show (eds.map edP)[i]? = some x from hx)
        obtain ⟨l, r, m⟩ := ed
        obtain ⟨l1, l2, r1, r2, m1, m2⟩ := hall _ (get_mem' ge)
        refine ⟨rfl, ⟨t, A, .int l, .int r, .int m, "int", "int", "int", rfl, et, rfl, rfl, rfl, f1, f2, okA, by omega, (fun z => in_no l1 l2 z), (fun _ z => in_no r1 r2 z), (fun _ _ z => in_no m1 m2 z), fun a' r' m' e1 e2 e3 _ _ _ _ _ _ => ?_⟩⟩
        cases e1
        cases e2
        cases e3
        refine ⟨fun hb => ?_, fun b hb => ?_⟩
        · exact ⟨A, t.l, l, r, m, rfl, okA, by omega, f1, f2, l1, r1, m1, fun _ => neQ_eq (pl_tell _ _) (by decide) (tell_due _ _) ⟨_, _, _, rfl⟩, fun b hb2 => by rw [hb] at hb2; cases hb2⟩
        · refine ⟨A, t.l, l, r, m, rfl, okA, by omega, f1, f2, l1, r1, m1, (fun hb2 => by rw [hb] at hb2; cases hb2), fun b2 hb2 => ?_⟩
          rw [hb] at hb2
          cases hb2
          exact neQ_same (pl_line b) (by decide) ⟨_, _, _, rfl⟩
      rintro γ ⟨y6, y7, y8, rfl⟩
      refine ⟨by show 0 ≤ sizeLine; decide, fun _ => ⟨by show 7 ≤ sizeLine; decide, fun _ => ⟨w, a6, b6, _, rfl, (by decide : 0 < 7), (by decide : 7 ≤ 16777216), fun no a7 b7 hno => ?_⟩⟩⟩
      obtain ⟨⟨pno, nno, tno⟩, bno⟩ := none_odd hno
      refine ⟨by show 6 ≤ sizeLine; decide, fun _ => ⟨w, a7, b7, _, rfl, (by decide : 0 < 6), (by decide : 6 ≤ 16777216), fun od a8 b8 hod => ?_⟩⟩
      obtain ⟨⟨pod, nod, tod⟩, bod⟩ := odd_odd hod
      clear hno hod
      refine ⟨t, A, no, od, od, nno, nod, nod, rfl, et, tno, tod, tod, f1, f2, okA, by omega, (fun _ => ?_), (fun z => by rw [bno] at z; cases z), (fun z => by rw [bno] at z; cases z), fun a' r' m' e1 _ _ a1' a2' _ _ _ _ => (in_bad e1 bno a1' a2').elim⟩
      refine ⟨by show 2 ≤ sizeLine; decide, smP_of (.inr rfl) (odd_pl ⟨pno, nno, tno⟩) (by decide) ?_⟩
      refine ⟨t, A, .int 1, od, no, "int", nod, nno, rfl, et, rfl, tod, tno, f1, f2, okA, by omega, (fun z => in_no (by decide) (by decide) z), (fun _ _ => ?_), (fun _ z => by rw [bod] at z; cases z), fun a' r' m' _ e2 _ _ _ r1' r2' _ _ => (in_bad e2 bod r1' r2').elim⟩
      refine ⟨by show 2 ≤ sizeLine; decide, smP_of (.inr rfl) (odd_pl ⟨pod, nod, tod⟩) (by decide) ?_⟩
      refine ⟨t, A, .int 1, .int 2147483647, od, "int", "int", nod, rfl, et, rfl, rfl, tod, f1, f2, okA, by omega, (fun z => in_no (by decide) (by decide) z), (fun _ z => in_no (by decide) (by decide) z), (fun _ _ _ => ?_), fun a' r' m' _ _ e3 _ _ _ _ m1' m2' => (in_bad e3 bod m1' m2').elim⟩
      refine ⟨by show 2 ≤ sizeLine; decide, smP_of (.inr rfl) (odd_pl ⟨pod, nod, tod⟩) (by decide) ?_⟩
      refine ⟨rfl, tab_no_spans _ t.l t.es, _, t.l, t.es, rfl, fun _ => neQ_eq (Pl.map _ pl_span) (by decide) (congrArg (fun z => PV.lst (List.map spv z)) et2) ?_⟩
      exact ⟨_, _, _, _, _, _, _, _, _, _, _, rfl⟩
    · rintro γ ⟨x1, x2, x3, x4, x5, x6, x7, x8, x9, x10, x11, rfl⟩
      exact k
end K33

namespace K33
open PySem PySem.Spec PyProof.Rows L2 Lay Pu
abbrev sp_law (K : PySem.W.Frag) : Sp := Pu.sp_lawP K
end K33
namespace K33
open PySem PySem.Spec PyProof.Rows L2 Lay
theorem law_facts {P : Program} {w : World} {K : PySem.W.Frag} {h : Heap} {mg : Str → Option Value} {f : Addr} (X : K.In h) (G : h.Ns mainGlobals mg) (hfa : mg ("law" : Str) = some (.ref f)) (c : Told fa fn ex K) :
    ∃ fd : FuncData, (∀ (s : Shared) (v : Value), BindsTo s fd ⟨[v], []⟩ [("_law_script", v)]) ∧ ∀ base : Heap, K.In base → base.Ns mainGlobals mg → FnOk P w K mg base CX0 15 f fd ["_law_script"] (sp_law K) := by
  have W : Wd K mg := ⟨⟨h, X, G⟩, c⟩
  obtain ⟨fd, F⟩ := F_law W
  have e := hfa.symm.trans (g_law W)
  cases e
  have b := FunD.bindsA (ps := ["_law_script"]) F fun _ _ _ _ _ _ us hl => match us, hl with | [_], _ => rfl
  exact ⟨fd, fun s v => b s [v] rfl, fun base _ _ => (fn_law W F).imp fun _ _ _ _ h => Pu.spOf_law h⟩
end K33
open PySem PySem.W PySem.Calls PyProof.Rows
set_option maxRecDepth 100000 in
set_option maxHeartbeats 0 in
theorem PySem.Challenge.cw_codespans_k33_source_edits_holds : PySem.Challenge.rw_codespans_k33_source_edits.Holds := by
  w_on; o_law
  refine HandSHeadRun.head_any (r := OpenLaw.row PySem.Challenge.rw_codespans_k33_source_edits) (q := view (OpenLaw.row PySem.Challenge.rw_codespans_k33_source_edits).prog [75]) (H := Lay.hk 5 K33.fa K33.fn K33.ex) (ob := K33.ob) (M := 5000) (loose := K33.names) (d := HandSHeadRun.topDef (OpenLaw.row PySem.Challenge.rw_codespans_k33_source_edits).prog 75) (kwd := []) (fun s => Lay.look_eq s)
    (by kernel_rfl) (fun s => by kernel_rfl) K33.run (by kernel_rfl) (by kernel_rfl) (by kernel_rfl) (by rfl) (by first | assumption | decide +kernel) (by decide +kernel) ⟨rfl, rfl, rfl, rfl, rfl, by decide +kernel⟩ ?hw ?hc
  case hw => w_witness2
  case hc =>
    refine L2.walk_ofE (l := PySem.Challenge.rw_codespans_k33_source_edits) (n := 63) (k := 15) (x := "_law_script") (CX := L2.CX0) rfl (by decide) (by kernel_rfl) ⟨rfl, by decide, by decide⟩ ?F (fun _ _ _ _ z => z)
    intro w mg fa h Y G hmg0
    obtain ⟨K, KX, c⟩ := Y
    have hmg : mg ("law" : PySem.Str) = some (.ref fa) := by
      have e : (HandSHeadRun.topDef (OpenLaw.row PySem.Challenge.rw_codespans_k33_source_edits).prog 75).name = ("law" : PySem.Str) := by kernel_rfl
      rw [← e]
      exact hmg0
    obtain ⟨fd, hb, hF⟩ := K33.law_facts (P := (PySem.Challenge.rw_codespans_k33_source_edits).prog) (w := w) KX G hmg c
    exact ⟨K, fd, K33.sp_law K, KX, hb, fun H a ns hl _ hS => ⟨a, ns, rfl, hS, hl, fun _ => rfl⟩, hF⟩
