import PyProof.Rows.All
import Wide.All
import OpenK.AllK
import Wide.FinOn
import KE.KStateDown
import HandS.ForMost
import HandS.ForExc
import HandS.Defaults
import HandS.Wide
import HandS.IsInst
import HandS.Flow
import HandS.Style
import HandS.More
import HandS.NoneIn
import HandS.Head0
import HandS.Head1
import HandS.Head2
import HandS.HeadEnd
import HandS.HeadHook1
import HandS.HeadHook2
import HandS.HeadHook3
import HandS.HeadHook4
import HandS.HeadNt
import KE.KDictPairs
import HandS.ExcInit
import HandS.ExcField
import KE.BitLaws
import PyProof.Rows.RuleB_pow
import PyProof.EqKinds
import PyProof.TupleOfStr
import PySem.Challenge.RW_codespans_k02_numbers_written
set_option Elab.async false
set_option linter.all false
set_option maxRecDepth 100000
set_option maxHeartbeats 0
namespace Lay
open PySem PySem.Spec PyProof.Rows L2
/-! ## the head's look: facts, defs, and one more Bool -/
abbrev LookT : Type := He.AlD × Bool
def lookAt (fa : List He.Fa) (fn : List He5.DefA) (ex : PySem.W.Frag → Bool) (K : PySem.W.Frag) : LookT := (He5.obsA fa fn K, ex K)
def partOf (n : Nat) (g : Addr → Option Obj) : PySem.W.Frag := He.frG g (He5.asA g n)
/-- what the walk knows of the written part -/
structure Told (fa : List He.Fa) (fn : List He5.DefA) (ex : PySem.W.Frag → Bool) (K : PySem.W.Frag) : Prop where
  a : He5.SaysA fa fn K
  b : ex K = true
theorem told_of {fa : List He.Fa} {fn : List He5.DefA} {ex : PySem.W.Frag → Bool} {K : PySem.W.Frag} (e : lookAt fa fn ex K = (He5.valA fn, true)) : Told fa fn ex K :=
  ⟨congrArg Prod.fst e, congrArg Prod.snd e⟩
def hk (n : Nat) (fa : List He.Fa) (fn : List He5.DefA) (ex : PySem.W.Frag → Bool) : PySem.W.Hook where
  α := LookT
  obs := fun s => lookAt fa fn ex (partOf n s.heap.get?)
  val := fun _ => (He5.valA fn, true)
  says := fun _ h => ∃ K : PySem.W.Frag, K.In h ∧ Told fa fn ex K
  of := fun _ _ e => ⟨_, He.frG_in, told_of e⟩
  keeps := fun _ _ _ h k => by
    obtain ⟨K, hK, c⟩ := h
    exact ⟨K, hK.keeps k, c⟩
theorem look_eq {n : Nat} {fa : List He.Fa} {fn : List He5.DefA} {ex : PySem.W.Frag → Bool} (s : PySem.W.SharedT) : lookAt fa fn ex (partOf n (HandSHeadRun.getT s)) = (hk n fa fn ex).obs s.abs := by
  have e : HandSHeadRun.getT s = s.abs.heap.get? := funext (HandSHeadRun.getT_eq s)
  show lookAt fa fn ex (partOf n (HandSHeadRun.getT s)) = lookAt fa fn ex (partOf n s.abs.heap.get?)
  rw [e]

/-! ## a def by its name -/
/-- the def that the module's name x holds keeps the promise sp -/
def FOk (P : Program) (w : World) (K : PySem.W.Frag) (mg : Str → Option Value) (base : Heap) (CX : CXT) (k : Nat) (x : Str) (ps : List Str) (sp : Sp) : Prop :=
  ∃ fd, FnOk P w K mg base CX k (He.ga K x) fd ps sp ∧ Binds K fd ps [] ∧ PySem.W.keepIn K (.ref (He.ga K x)) = true ∧ mg x = some (.ref (He.ga K x))
section
variable {P : Program} {w : World} {K : PySem.W.Frag} {mg : Str → Option Value} {base : Heap} {CX : CXT} {k : Nat} {x : Str} {ps : List Str} {sp : Sp}
theorem fok {params : Arguments} {body : List Stmt} {scope : Scope} (F : ∃ fd, FunD K x x params body scope [] [] (He.ga K x) fd) (g : mg x = some (.ref (He.ga K x)))
    (hb : ∀ (kV doc pm : Value) (an : Option Addr) (cdv ct : Value) (us : List Value), us.length = ps.length → bindArgs (PySem.W.fnOf x x params body scope .none kV doc pm an cdv ct) ⟨us, []⟩ = pure (ps.zip us))
    (h : ∀ fd, FunD K x x params body scope [] [] (He.ga K x) fd → FnOk P w K mg base CX k (He.ga K x) fd ps sp) : FOk P w K mg base CX k x ps sp := by
  obtain ⟨fd, F⟩ := F
  exact ⟨fd, h fd F, F.bindsN hb, F.kp, g⟩
variable {X : Cx} {E : XK} {e : Expr} {es : List Expr} {t : TA} {p pos : Pos}
theorem pe_cl (F : FOk X.prog X.w X.K X.mg X.base CX k x ps sp) (hr : Room k X.A) (hg : Gl X x) (hx : Passes CX X E) (ha : PA X (e :: es) t) (hdb : (x == ("__debug__" : Str)) = false := by decide)
    (he : starEach (e :: es) X.env = (false, eval e X.env) :: starEach es X.env := by rfl) (hpl : (backTo pos (starEach es X.env)).any (·.1) = false := by rfl) :
    PE X (.Call (.Name x p) (e :: es) [] pos) (tCall sp [] E t) := by
  obtain ⟨fd, F, b, kp, g⟩ := F
  exact pe_call F hr hg g kp b .nil hx ha hdb he hpl
end

/-! ## heaps: all but one object -/
/-- what was tracked, p apart, is as it was -/
def But (p : Addr) (H H' : Hp) : Prop := ∀ b o, H b = some o → b ≠ p → H' b = some o
theorem But.refl {p : Addr} {H : Hp} : But p H H := fun _ _ h _ => h
theorem But.trans {p : Addr} {H H1 H2 : Hp} (a : But p H H1) (b : But p H1 H2) : But p H H2 := fun c o h n => b c o (a c o h n) n
theorem But.upd {p : Addr} {H H1 : Hp} {o : HO} (a : But p H H1) : But p H (upd H1 p o) := fun c u h n => by
  rw [upd_ne n]
  exact a c u h n
theorem But.new {p q : Addr} {H H1 : Hp} {o : HO} (a : But p H H1) (h : H1 q = none) : But p H (L2.upd H1 q o) := fun c u hc n => by
  rw [upd_ne (ne_of_none (a c u hc n) h)]
  exact a c u hc n
theorem Same.but {p : Addr} {H H1 : Hp} (a : Same H H1) : But p H H1 := fun c o h _ => a c o h
theorem same_new {H : Hp} {p : Addr} {o : HO} (h : H p = none) : Same H (L2.upd H p o) := fun b u e => by
  rw [upd_ne (ne_of_none e h)]
  exact e
/-- the well of draws at p -/
def Well (H : Hp) (p : Addr) : Prop := ∃ a b : Int, H p = some (.lst [.int a, .int b])
/-- behind draws -/
structure Drawn (p : Addr) (H H' : Hp) : Prop where
  w : Well H' p
  b : But p H H'
theorem Drawn.refl {p : Addr} {H : Hp} (h : Well H p) : Drawn p H H := ⟨h, .refl⟩
theorem Drawn.trans {p : Addr} {H H1 H2 : Hp} (a : Drawn p H H1) (b : Drawn p H1 H2) : Drawn p H H2 := ⟨b.w, a.b.trans b.b⟩
theorem Well.new {p q : Addr} {H : Hp} {o : HO} (h : Well H p) (n : H q = none) : Well (L2.upd H q o) p := by
  obtain ⟨a, b, e⟩ := h
  exact ⟨a, b, by rw [upd_ne (ne_of_none e n)]; exact e⟩
theorem Drawn.new {p q : Addr} {H H1 : Hp} {o : HO} (d : Drawn p H H1) (n : H1 q = none) : Drawn p H (L2.upd H1 q o) := ⟨d.w.new n, d.b.new n⟩
theorem ite_b {c A B : Prop} [Decidable c] (h1 : c → A) (h2 : ¬ c → B) : if decide c = true then A else B := by
  by_cases h : c
  · rw [decide_eq_true h]; exact iteT (h1 h)
  · rw [decide_eq_false h]; exact iteF (h2 h)
end Lay
namespace Lay
open PySem PySem.Spec PyProof.Rows L2
/-- a statement, and the rest from a word between them -/
def tMid (t u : TS) : TS := fun D σ H => ∃ Mid : L2.St → Hp → Prop, t { D with nx := Mid } σ H ∧ ∀ σ' H', Mid σ' H' → u D σ' H'
theorem pss_mid {X : Cx} {st : Stmt} {rest : List Stmt} {t u : TS} (h1 : PS X st t) (h2 : PSs X rest u) : PSs X (st :: rest) (tMid t u) := by
  refine ⟨fun pins s σ H D I h => ?_⟩
  obtain ⟨Mid, hm, hu⟩ := h
  refine wpAny_execs_cons (wpAny_mono (h1.run pins s σ H _ I hm) (fun f s1 q => ?_) fun _ _ z => z)
  cases f with
  | next =>
    obtain ⟨σ1, H1, I1, q1⟩ := q
    exact h2.run pins s1 σ1 H1 D I1 (hu σ1 H1 q1)
  | ret v => exact q
  | brk => exact q
  | cont => exact q
theorem Drawn.tn {p a : Addr} {H H1 H2 : Hp} {o : HO} (d : Drawn p H H1) (n : H1 a = none) (d2 : Drawn p (L2.upd H1 a o) H2) : Drawn p H H2 := (d.new n).trans d2
theorem Well.ne {p a : Addr} {H : Hp} (h : Well H p) (n : H a = none) : a ≠ p := by
  obtain ⟨x, y, e⟩ := h
  exact (ne_of_none e n).symm
theorem get_mem {xs : List V} {i : Nat} {x : V} (h : xs[i]? = some x) : x ∈ xs := List.mem_of_getElem? h
theorem Drawn.at {p a : Addr} {H H1 : Hp} {o : HO} (d : Drawn p H H1) (e : H a = some o) (ne : a ≠ p) : H1 a = some o := d.b a o e ne
end Lay

namespace Lay
open PySem PySem.Spec PyProof.Rows L2
/-! ## what stands at a value -/
/-- a value and the name of its type -/
inductive VT (H : Hp) : V → String → Prop where
  | non : VT H .non "NoneType"
  | bl (b : Bool) : VT H (.bl b) "bool"
  | int (i : Int) : VT H (.int i) "int"
  | str (x : Str) : VT H (.str x) "str"
  | byt (b : Array UInt8) : VT H (.byt b) "bytes"
  | lst {a : Addr} {xs : List V} (e : H a = some (.lst xs)) : VT H (.ref a) "list"
  | tup {a : Addr} {xs : List V} (e : H a = some (.tup xs)) : VT H (.ref a) "tuple"
  | dic {a : Addr} {kvs : List (Key × V)} (e : H a = some (.dK kvs)) : VT H (.ref a) "dict"
section
variable {K : PySem.W.Frag} {H H' : Hp} {v : V} {n m : String} {b : Bool} {Q : VK}
theorem VT.tyx (h : VT H v n) : TyX K H v (.type n) := by
  cases h with
  | non => exact .base .non
  | bl b => exact .base (.bl b)
  | int i => exact .base (.int i)
  | str x => exact .base (.str x)
  | byt b => exact .byt b
  | lst e => exact .base (.lst e)
  | tup e => exact .base (.tup e)
  | dic e => exact .base (.dK e)
/-- a tracked object that stays, keeps its type -/
theorem VT.keep (h : VT H v n) (k : ∀ a o, v = .ref a → H a = some o → H' a = some o) : VT H' v n := by
  cases h with
  | non => exact .non
  | bl b => exact .bl b
  | int i => exact .int i
  | str x => exact .str x
  | byt b => exact .byt b
  | lst e => exact .lst (k _ _ rfl e)
  | tup e => exact .tup (k _ _ rfl e)
  | dic e => exact .dic (k _ _ rfl e)
theorem VT.same (h : VT H v n) (s : Same H H') : VT H' v n := h.keep fun a o _ e => s a o e
def isiB (n m : String) : Bool := n == m || (n == "bool" && m == "int")
theorem VT.kit (h : VT H v n) (hm : m = "int" ∨ m = "bool" ∨ m = "tuple" ∨ m = "list" ∨ m = "bytes") : kitB n m = some (isiB n m) := by
  rcases hm with rfl | rfl | rfl | rfl | rfl <;> cases h <;> decide +kernel
theorem VT.int_of (h : VT H v n) (e : n = "int") : ∃ i, v = .int i := by
  cases h <;> first | exact ⟨_, rfl⟩ | exact absurd e (by decide)
theorem VT.bl_of (h : VT H v n) (e : n = "bool") : ∃ i, v = .bl i := by
  cases h <;> first | exact ⟨_, rfl⟩ | exact absurd e (by decide)
theorem VT.tup_of (h : VT H v n) (e : n = "tuple") : ∃ a xs, v = .ref a ∧ H a = some (.tup xs) := by
  cases h <;> first | exact ⟨_, _, rfl, by assumption⟩ | exact absurd e (by decide)
theorem rd_isi (h : VT H v n) (hm : m = "int" ∨ m = "bool" ∨ m = "tuple" ∨ m = "list" ∨ m = "bytes") (q : Q (.bl (isiB n m)) H) : rIsi K [v, .ty m] H Q :=
  ⟨v, .ty m, _, _, _, rfl, .ty m, h.tyx, kit_ty (h.kit hm), q⟩
end
/-! ## positions -/
structure Pos where
  l : Int
  e : Int
  c : Option Int
  d : Option Int
abbrev Span := Option Pos
def ov : Option Int → V
  | none => .non
  | some i => .int i
def Pos.vs (p : Pos) : List V := [.int p.l, .int p.e, ov p.c, ov p.d]
/-- the value v is the span s -/
def SpV (H : Hp) (v : V) : Span → Prop
  | none => v = .non
  | some p => ∃ a, v = .ref a ∧ H a = some (.tup p.vs)
structure Pos.ok (p : Pos) : Prop where
  l1 : 1 ≤ p.l
  le : p.l ≤ p.e
  eM : p.e ≤ 2147483647
  cd : (p.c = none ∧ p.d = none ∧ p.e = p.l) ∨ ∃ c d, p.c = some c ∧ p.d = some d ∧ 0 ≤ c ∧ c ≤ 2147483647 ∧ 0 ≤ d ∧ d ≤ 2147483647 ∧ (p.e = p.l → c ≤ d)
def SpanOk : Span → Prop
  | none => True
  | some p => p.ok
theorem SpV.keep {H H' : Hp} {v : V} {s : Span} (h : SpV H v s) (k : ∀ a o, v = .ref a → H a = some o → H' a = some o) : SpV H' v s := by
  cases s with
  | none => exact h
  | some p =>
    obtain ⟨a, e, q⟩ := h
    exact ⟨a, e, k a _ e q⟩
theorem ov_vt {H : Hp} (o : Option Int) : ∃ n, VT H (ov o) n := by
  cases o with
  | none => exact ⟨_, .non⟩
  | some i => exact ⟨_, .int i⟩
/-! ## is it a span -/
def inR (v : V) (lo hi : Int) : Bool := match v with
  | .int i => decide (lo ≤ i) && decide (i ≤ hi)
  | _ => false
def iv : V → Int
  | .int i => i
  | _ => 0
theorem inR_int {v : V} {lo hi : Int} (h : inR v lo hi = true) : ∃ i, v = .int i ∧ lo ≤ i ∧ i ≤ hi := by
  cases v with
  | int i =>
    have h2 : (decide (lo ≤ i) && decide (i ≤ hi)) = true := h
    rw [Bool.and_eq_true, decide_eq_true_eq, decide_eq_true_eq] at h2
    exact ⟨i, rfl, h2.1, h2.2⟩
  | _ => cases h
def span4 (l e c d : V) : Bool :=
  if inR l 1 2147483647 && inR e (iv l) 2147483647 then
    if c = .non ∧ d = .non then decide (iv e = iv l)
    else if inR c 0 2147483647 && inR d 0 2147483647 then decide (iv l < iv e) || decide (iv c ≤ iv d) else false
  else false
def spanB (H : Hp) (v : V) : Bool := match v with
  | .non => true
  | .ref a => match H a with
    | some (.tup [l, e, c, d]) => span4 l e c d
    | _ => false
  | _ => false
theorem spanB_ok {H : Hp} {v : V} {s : Span} (h : SpV H v s) (k : SpanOk s) : spanB H v = true := by
  cases s with
  | none =>
    have e : v = .non := h
    rw [e]
    rfl
  | some p =>
    obtain ⟨a, e, q⟩ := h
    have k' : p.ok := k
    obtain ⟨l1, le, eM, cd⟩ := k'
    have e2 : spanB H v = span4 (.int p.l) (.int p.e) (ov p.c) (ov p.d) := by
      rw [e]
      show (match H a with | some (.tup [l, e, c, d]) => span4 l e c d | _ => false) = _
      rw [q]
      rfl
    rw [e2]
    have h1 : inR (.int p.l) 1 2147483647 = true := by
      show (decide (1 ≤ p.l) && decide (p.l ≤ 2147483647)) = true
      simp only [Bool.and_eq_true, decide_eq_true_eq]
      omega
    have h2 : inR (.int p.e) (iv (.int p.l)) 2147483647 = true := by
      show (decide (p.l ≤ p.e) && decide (p.e ≤ 2147483647)) = true
      simp only [Bool.and_eq_true, decide_eq_true_eq]
      omega
    unfold span4
    rw [h1, h2, if_pos (show (true && true) = true from rfl)]
    rcases cd with ⟨hc, hd, hl⟩ | ⟨c, d, hc, hd, c0, cM, d0, dM, hcd⟩
    · rw [hc, hd]
      rw [if_pos ⟨rfl, rfl⟩]
      exact decide_eq_true hl
    · rw [hc, hd]
      rw [if_neg (fun z => by cases z.1)]
      have h3 : inR (ov (some c)) 0 2147483647 = true := by
        show (decide (0 ≤ c) && decide (c ≤ 2147483647)) = true
        simp only [Bool.and_eq_true, decide_eq_true_eq]
        omega
      have h4 : inR (ov (some d)) 0 2147483647 = true := by
        show (decide (0 ≤ d) && decide (d ≤ 2147483647)) = true
        simp only [Bool.and_eq_true, decide_eq_true_eq]
        omega
      rw [h3, h4, if_pos (show (true && true) = true from rfl)]
      show (decide (p.l < p.e) || decide (c ≤ d)) = true
      rw [Bool.or_eq_true, decide_eq_true_eq, decide_eq_true_eq]
      by_cases z : p.e = p.l
      · exact .inr (hcd z)
      · exact .inl (by omega)
end Lay
namespace Lay
open PySem PySem.Spec PyProof.Rows L2
theorem ite_n {c A B : Prop} [Decidable c] (h1 : ¬ c → A) (h2 : c → B) : if (!decide c) = true then A else B := by
  by_cases h : c
  · rw [decide_eq_true h]; exact iteF (h2 h)
  · rw [decide_eq_false h]; exact iteT (h1 h)
theorem isi_tup {n : String} (h : isiB n "tuple" = true) : n = "tuple" := by
  simp [isiB] at h
  exact h
theorem len4 {xs : List V} (h : xs.length = 4) : ∃ a b c d, xs = [a, b, c, d] := by
  match xs, h with
  | [a, b, c, d], _ => exact ⟨a, b, c, d, rfl⟩
theorem v_int_inj {i j : Int} (h : V.int i = V.int j) : i = j := by
  injection h
theorem spanB_tup {H : Hp} {a : Addr} {l e c d : V} (h : H a = some (.tup [l, e, c, d])) : spanB H (.ref a) = span4 l e c d := by
  show (match H a with | some (.tup [l, e, c, d]) => span4 l e c d | _ => false) = _
  rw [h]
theorem spanB_len {H : Hp} {a : Addr} {xs : List V} (h : H a = some (.tup xs)) (n : xs.length ≠ 4) : spanB H (.ref a) = false := by
  show (match H a with | some (.tup [l, e, c, d]) => span4 l e c d | _ => false) = _
  rw [h]
  match xs, n with
  | [], _ => rfl
  | [_], _ => rfl
  | [_, _], _ => rfl
  | [_, _, _], _ => rfl
  | [_, _, _, _], n => exact absurd rfl n
  | _ :: _ :: _ :: _ :: _ :: _, _ => rfl
theorem spanB_no {H : Hp} {v : V} {n : String} (h : VT H v n) (h1 : v ≠ .non) (h2 : isiB n "tuple" = false) : spanB H v = false := by
  cases h with
  | non => exact absurd rfl h1
  | tup e => exact absurd h2 (by decide)
  | lst e =>
    rename_i a xs
    show (match H a with | some (.tup [l, e, c, d]) => span4 l e c d | _ => false) = _
    rw [e]
  | dic e =>
    rename_i a xs
    show (match H a with | some (.tup [l, e, c, d]) => span4 l e c d | _ => false) = _
    rw [e]
  | _ => rfl
end Lay
namespace Lay
open PySem PySem.Spec PyProof.Rows L2
theorem up {H : Hp} {a b : Addr} {o u : HO} (e : H a = some o) (n : H b = none) : upd H b u a = some o := by
  rw [upd_ne (ne_of_none e n)]
  exact e
theorem mem_cut {xs : List V} {lo hi : Option Int} {x : V} (h : x ∈ cutV xs lo hi) : x ∈ xs := List.mem_of_mem_drop (List.mem_of_mem_take h)
/-- the cells that a law walks: some of the script's, and 0 -/
theorem cell_int {ns : List Int} {lo hi : Option Int} {x : V} (h : x ∈ cutV (ns.map V.int) lo hi ++ [V.int 0]) : ∃ i, x = .int i := by
  rcases List.mem_append.mp h with h | h
  · obtain ⟨i, _, e⟩ := List.mem_map.mp (mem_cut h)
    exact ⟨i, e.symm⟩
  · exact ⟨0, by simpa using h⟩
theorem cut_len {xs : List V} {lo hi : Option Int} : (cutV xs lo hi).length ≤ xs.length := by
  unfold cutV
  rw [List.length_take, List.length_drop]
  omega
theorem fr2 {H : Hp} {a b : Addr} {o : HO} (h : upd H a o b = none) : H b = none := by
  by_cases e : b = a
  · rw [e, upd_same] at h
    cases h
  · rw [upd_ne e] at h
    exact h
end Lay

namespace Lay
open PySem PySem.Spec PyProof.Rows L2
/-! ## a dict of one entry whose key is a bytes -/
def dictB (P : Program) (w : World) (z : Array UInt8) (v : V) (p : Addr) : HO := .ext fun h => ∃ u, RelV v u ∧ h.DictOf (PySem.W.bytesKind P w) p [(z.toList, u)]
/-- dict([(z, v)]) -/
def rDictB (P : Program) (w : World) : List V → Hp → VK → Prop := fun xs H Q => ∃ (a t : Addr) (z : Array UInt8) (v : V), xs = [.ref a] ∧ H a = some (.lst [.ref t]) ∧ H t = some (.tup [.byt z, v]) ∧ ∀ p, H p = none → Q (.ref p) (upd H p (dictB P w z v p))
/-- d[z] of such -/
def rIxB (P : Program) (w : World) : R2 := fun x y H Q => ∃ (p : Addr) (z : Array UInt8) (v : V), x = .ref p ∧ y = .byt z ∧ H p = some (dictB P w z v p) ∧ Q v H
section
variable {X : Cx}
theorem call_dictB (hc : X.calm = true) : CallR X (.type "dict") (rDictB X.prog X.w) := by
  intro pins s σ H xs us Q I r h
  obtain ⟨a, t, z, v, rfl, ha, ht, q⟩ := h
  obtain ⟨u, rfl, rx⟩ := vals1 r
  cases rx
  obtain ⟨_, its, n, rv, e⟩ : ObjOk X.prog X.w H s.heap a (.lst [.ref t]) := I.hok a _ ha
  obtain ⟨u1, rfl, r1⟩ := vals1 rv
  cases r1
  obtain ⟨_, jts, rt, et⟩ : ObjOk X.prog X.w H s.heap t (.tup [.byt z, v]) := I.hok t _ ht
  obtain ⟨u2, u3, rfl, ⟨tk, rfl⟩, r3⟩ := vals2 rt
  refine PySem.call_dict_pairs (knd := PySem.W.bytesKind X.prog X.w) (kvs := [(z.toList, u3)]) (PySem.PairArg.list (prog := X.prog) (w := X.w) a [Value.ref t].toArray (fun _ => t) [(Value.bytes z tk, u3)]) (I.ok.hd hc) ⟨⟨_, n, e, rfl, rfl, rfl⟩, rfl, fun j k v' hj => ?_⟩ ⟨rfl, fun i key v' hi => ?_⟩ (by show 1 ≤ sizeLine; decide) fun h' tk' hd' kk => ?_
  · cases j with
    | zero =>
      have e1 := Option.some.inj hj
      cases e1
      exact ⟨rfl, .inl et⟩
    | succ j => cases hj
  · have hi' : ([(Value.bytes z tk, u3)] : List (Value × Value))[i]? = some (key, v') := hi
    cases i with
    | zero =>
      have e1 := Option.some.inj hi'
      cases e1
      exact ⟨_, rfl, by show (z.toList == z.toList) = true; simp⟩
    | succ j => cases hi'
  · have hk : ∀ b o, s.heap.get? b = some o → h'.get? b = some o := fun b o eb => kk b o (by simp) eb
    have hm : merged ([] : List (List UInt8 × Value)) [(z.toList, u3)] = [(z.toList, u3)] := rfl
    rw [hm] at hd'
    have ob : ObjOk X.prog X.w (upd H s.heap.objs.size (dictB X.prog X.w z v s.heap.objs.size)) h' s.heap.objs.size (dictB X.prog X.w z v s.heap.objs.size) := by
      refine ⟨⟨u3, r3, hd'⟩, ?_, fun h1 h2 p kp => ?_⟩
      · obtain ⟨o, _, _, eo, _⟩ := hd'.mapOf
        exact ⟨o, eo⟩
      · obtain ⟨u, ru, hd⟩ := p
        exact ⟨u, ru, hd.at kp⟩
    exact ⟨.ref s.heap.objs.size, _, I.laid (t' := tk') hk (Nat.le_refl _) ob, rfl, q _ (I.hok.fresh (Nat.le_refl _))⟩
theorem ix_dictB : IxR X (rIxB X.prog X.w) := by
  intro value slice pins s σ H x y v u Q I rx ry h hs
  obtain ⟨p, z, v0, rfl, rfl, hp, q⟩ := h
  cases rx
  obtain ⟨tk, rfl⟩ := ry
  have ob : ObjOk X.prog X.w H s.heap p (dictB X.prog X.w z v0 p) := I.hok p _ hp
  obtain ⟨⟨u0, ru, hd⟩, _, _⟩ := ob
  refine tail_any hd.typeIs PySem.F.slot_dict_getitem.lookup ?_ hs
  refine wpAny_getItem_of (knd := PySem.W.bytesKind X.prog X.w) (k := z.toList) (v := u0) (by show (z.toList == z.toList) = true; simp) hd.mapOf ?_ ⟨v0, H, I.tok _, ru, q⟩
  simp [valueAt]
end
end Lay

namespace Lay
open PySem PySem.Spec PyProof.Rows L2
/-! ## own exception classes over ValueError, with an __init__ that stores its arguments -/
def oexB (K : PySem.W.Frag) (C : Addr) : Bool := (match K.lookup C with
    | some ⟨.type "type", _, .cls cd, sl⟩ => (match cd.mro, sl.toList with
      | .ref D :: bm, [_, _, _, _, some (.builtin n), _] => D == C && (n == "ValueError.__new__" && (!cd.hasDel && (cd.hasDict && PySem.HandSPX.refsVE bm)))
      | _, _ => false)
    | _ => false) && (He.eqO (PySem.W.findIn K (.ref C) "__setattr__") (some (some (.builtin "object.__setattr__"))) &&
  (decide (PySem.W.subIn K (.ref C) (.type "BaseException") = some true) && (decide (PySem.W.typeIn K (.ref C) = some (.type "type")) && PySem.W.keepIn K (.ref C))))
theorem oexB_ok {K : PySem.W.Frag} {C : Addr} (h : oexB K C = true) : OexC K C := by
  obtain ⟨h1, h⟩ := He.ba h
  obtain ⟨h2, h⟩ := He.ba h
  obtain ⟨h3, h⟩ := He.ba h
  obtain ⟨h4, h5⟩ := He.ba h
  refine ⟨?_, He.eqO_ok h2, of_decide_eq_true h3, of_decide_eq_true h4, h5⟩
  clear h2 h3 h4 h5
  split at h1
  · rename_i dd cd sl ho
    split at h1
    · rename_i D bm k0 k1 k2 k3 n k5 hm hs
      obtain ⟨a1, h1⟩ := He.ba h1
      obtain ⟨a2, h1⟩ := He.ba h1
      obtain ⟨a3, h1⟩ := He.ba h1
      obtain ⟨a4, a5⟩ := He.ba h1
      have e1 : D = C := by simpa using a1
      have e2 : n = "ValueError.__new__" := by simpa using a2
      subst e1 e2
      obtain ⟨nm, bs, mro, ns, qn, hd, sn, sub, ab, col, del⟩ := cd
      obtain ⟨l⟩ := sl
      have hm' : mro = Value.ref D :: bm := hm
      have hs' : l = [k0, k1, k2, k3, some (.builtin "ValueError.__new__"), k5] := hs
      have d1 : del = false := by simpa using a3
      have d2 : hd = true := a4
      subst hm' hs' d1 d2
      exact ⟨nm, qn, ns, bs, bm, sn, sub, ab, col, dd, k0, k1, k2, k3, k5, ho, a5⟩
    · cases h1
  · cases h1
/-- all that is asked of the exception class that the module's name x holds -/
def excB (K : PySem.W.Frag) (x : Str) (fs : List Str) : Bool := oexB K (He.ga K x) && (xfB K (He.ga K x) && (He.eqO (PySem.W.nsIn K mainGlobals x) (some (some (.ref (He.ga K x)))) &&
  (He.eqO (PySem.W.findIn K (.ref (He.ga K x)) "__init__") (some (some (.ref (He.ma K (He.ga K x) "__init__")))) && (decide (PySem.W.typeIn K (.ref (He.ma K (He.ga K x) "__init__")) = some (.type "function")) &&
    (decide (PySem.W.exmOne K (.ref (He.ga K x)) (.ref (He.ga K x)) = some true) && fs.all fun f => He.eqO (PySem.W.findIn K (.ref (He.ga K x)) f) (some none))))))
structure ExcF (K : PySem.W.Frag) (mg : Str → Option Value) (x : Str) (fs : List Str) : Prop where
  ox : OexC K (He.ga K x)
  xf : XfC K (He.ga K x)
  g : mg x = some (.ref (He.ga K x))
  ic : PySem.W.findIn K (.ref (He.ga K x)) "__init__" = some (some (.ref (He.ma K (He.ga K x) "__init__")))
  it : PySem.W.typeIn K (.ref (He.ma K (He.ga K x) "__init__")) = some (.type "function")
  self : PySem.W.exmOne K (.ref (He.ga K x)) (.ref (He.ga K x)) = some true
  no : ∀ f ∈ fs, PySem.W.findIn K (.ref (He.ga K x)) f = some none
theorem excF_of {K : PySem.W.Frag} {mg : Str → Option Value} {h : Heap} {x : Str} {fs : List Str} (X : K.In h) (G : h.Ns mainGlobals mg) (c : excB K x fs = true) : ExcF K mg x fs := by
  obtain ⟨c1, c⟩ := He.ba c
  obtain ⟨c2, c⟩ := He.ba c
  obtain ⟨c3, c⟩ := He.ba c
  obtain ⟨c4, c⟩ := He.ba c
  obtain ⟨c5, c⟩ := He.ba c
  obtain ⟨c6, c7⟩ := He.ba c
  exact ⟨oexB_ok c1, xfB_ok c2, PySem.W.mg_of X G (He.eqO_ok c3), He.eqO_ok c4, of_decide_eq_true c5, of_decide_eq_true c6, fun f hf => He.eqO_ok (List.all_eq_true.mp c7 f hf)⟩
/-- self.f = v, the first store of a fresh exception -/
def spInit1 (C : Addr) (f : Str) : Sp := fun vs H Q _ => ∃ (a : Addr) (v : V), vs = [.ref a, v] ∧ H a = some (exo a C none) ∧ ∀ dx, H dx = none → dx ≠ a → Q .non (upd (upd H dx (exd dx [(f, v)])) a (exo a C (some dx)))
def spInit2 (C : Addr) (f g : Str) : Sp := fun vs H Q _ => ∃ (a : Addr) (v u : V), vs = [.ref a, v, u] ∧ H a = some (exo a C none) ∧ ∀ dx, H dx = none → dx ≠ a → Q .non (upd (upd H dx (exd dx [(g, u), (f, v)])) a (exo a C (some dx)))
theorem del_new {H : Hp} {a d : Addr} {o u v : HO} (ha : H a = none) (n : d ≠ a) : upd (del (upd (upd (upd H a o) d u) a v) a) d u = upd H d u := by
  funext b
  by_cases h1 : b = d
  · subst h1
    rw [upd_same, upd_same]
  · rw [upd_ne h1, upd_ne h1]
    by_cases h2 : b = a
    · rw [h2, del_same, ha]
    · rw [del_ne h2, upd_ne h2, upd_ne h1, upd_ne h2]
theorem del_new' {H : Hp} {a d : Addr} {o u v w : HO} (ha : H a = none) (n : d ≠ a) : upd (del (upd (upd (upd H a o) d u) a v) a) d w = upd H d w := by
  rw [← del_new (o := o) (u := w) (v := v) ha n]
  funext b
  by_cases h1 : b = d
  · subst h1
    rw [upd_same, upd_same]
  · rw [upd_ne h1, upd_ne h1]
    by_cases h2 : b = a
    · rw [h2, del_same, del_same]
    · rw [del_ne h2, del_ne h2, upd_ne h2, upd_ne h2, upd_ne h1, upd_ne h1]
/-- C(e), C(e, e'): an exception whose dict d holds these -/
def tMk1 (C : Addr) (f : Str) (ta : TA) : L2.St → Hp → XK → Prop := fun σ H Q => ta σ H fun vs H1 => ∃ v, vs = [v] ∧ ∀ d, H1 d = none → Q (.ref C) (some d) (upd H1 d (.xd [(f, v)]))
def tMk2 (C : Addr) (f g : Str) (ta : TA) : L2.St → Hp → XK → Prop := fun σ H Q => ta σ H fun vs H1 => ∃ v u, vs = [v, u] ∧ ∀ d, H1 d = none → Q (.ref C) (some d) (upd H1 d (.xd [(g, u), (f, v)]))
/-- an argument list's reading may be widened -/
def MonoA (ta : TA) : Prop := ∀ σ H (Q Q' : List V → Hp → Prop), (∀ vs H', Q vs H' → Q' vs H') → ta σ H Q → ta σ H Q'
theorem PMk.imp {X : Cx} {e : Expr} {t t' : L2.St → Hp → XK → Prop} (h : PMk X e t) (i : ∀ σ H Q, t' σ H Q → t σ H Q) : PMk X e t' := fun pins s σ H Q I q => h pins s σ H Q I (i σ H Q q)
section
variable {X : Cx} {x f g : Str} {k : Nat} {fs : List Str} {p pos : PySem.Pos} {e e1 e2 : Expr} {ta : TA}
/-- the __init__ of x: as the caller needs it -/
def IOk (P : Program) (w : World) (K : PySem.W.Frag) (mg : Str → Option Value) (base : Heap) (k : Nat) (x : Str) (ps : List Str) (sp : Sp) : Prop :=
  ∃ fd, FnOk P w K mg base CX0 k (He.ma K (He.ga K x) "__init__") fd ps sp ∧ Binds K fd ps []
theorem pmk1 (T : ExcF X.K X.mg x fs) (I : IOk X.prog X.w X.K X.mg X.base k x ["self", f] (spInit1 (He.ga X.K x) f)) (hr : Room (k + 1) X.A) (hg : Gl X x) (mono : MonoA ta) (ha : PA X [e] ta) (hdb : (x == ("__debug__" : Str)) = false := by decide)
    (he : starEach [e] X.env = (false, eval e X.env) :: starEach [] X.env := by rfl) (hpl : (backTo pos (starEach [] X.env)).any (·.1) = false := by rfl) : PMk X (.Call (.Name x p) [e] [] pos) (tMk1 (He.ga X.K x) f ta) := by
  obtain ⟨fd, F, b⟩ := I
  refine PMk.imp (pmk_oex T.ox T.ic T.it F hr b .nil (fun _ _ _ _ _ _ _ z => z.elim) hg T.g ha hdb he hpl) fun σ H Q h => ?_
  refine mono σ H _ _ (fun vs H1 hq => ?_) h
  obtain ⟨v, rfl, q⟩ := hq
  refine ⟨by show 1 ≤ 1000; decide, fun a na => ⟨a, v, rfl, upd_same, fun dx ndx ne => ⟨rfl, dx, [(f, v)], upd_same, ?_, fr2 ndx, ?_⟩⟩⟩
  · rw [upd_ne ne, upd_same]
  · rw [del_new' na ne]
    exact q dx (fr2 ndx)
theorem pmk2 (T : ExcF X.K X.mg x fs) (I : IOk X.prog X.w X.K X.mg X.base k x ["self", f, g] (spInit2 (He.ga X.K x) f g)) (hr : Room (k + 1) X.A) (hg : Gl X x) (mono : MonoA ta) (ha : PA X [e1, e2] ta) (hdb : (x == ("__debug__" : Str)) = false := by decide)
    (he : starEach [e1, e2] X.env = (false, eval e1 X.env) :: starEach [e2] X.env := by rfl) (hpl : (backTo pos (starEach [e2] X.env)).any (·.1) = false := by rfl) : PMk X (.Call (.Name x p) [e1, e2] [] pos) (tMk2 (He.ga X.K x) f g ta) := by
  obtain ⟨fd, F, b⟩ := I
  refine PMk.imp (pmk_oex T.ox T.ic T.it F hr b .nil (fun _ _ _ _ _ _ _ z => z.elim) hg T.g ha hdb he hpl) fun σ H Q h => ?_
  refine mono σ H _ _ (fun vs H1 hq => ?_) h
  obtain ⟨v, u, rfl, q⟩ := hq
  refine ⟨by show 2 ≤ 1000; decide, fun a na => ⟨a, v, u, rfl, upd_same, fun dx ndx ne => ⟨rfl, dx, [(g, u), (f, v)], upd_same, ?_, fr2 ndx, ?_⟩⟩⟩
  · rw [upd_ne ne, upd_same]
  · rw [del_new' na ne]
    exact q dx (fr2 ndx)
/-- the wish of a def about what it raises -/
theorem passE {X : Cx} {W : WX} {E : XK} (tk : Takes X W) (hW : ∀ cls d σ H, E cls d H → W cls d σ H) : Passes (L2.CX X.prog X.w) X E := passes_call tk hW
end
theorem mono_nil : MonoA tNil := fun _ _ _ _ i h => i _ _ h
theorem mono_cons {ta : TE} {tr : TA} (h : ∀ σ H (Q Q' : VK), (∀ v H', Q v H' → Q' v H') → ta σ H Q → ta σ H Q') (hr : MonoA tr) : MonoA (tCons ta tr) := fun σ H Q Q' i q =>
  h σ H _ _ (fun x H1 q1 => hr σ H1 _ _ (fun xs H2 q2 => i _ _ q2) q1) q
theorem mono_var {i : Nat} : ∀ σ H (Q Q' : VK), (∀ v H', Q v H' → Q' v H') → tVar i σ H Q → tVar i σ H Q' := fun _ _ _ _ m h => by
  obtain ⟨v, e, q⟩ := h
  exact ⟨v, e, m _ _ q⟩
theorem mono_c {v : V} : ∀ σ H (Q Q' : VK), (∀ v H', Q v H' → Q' v H') → tC v σ H Q → tC v σ H Q' := fun _ _ _ _ m h => m _ _ h
theorem mono_un {r : V → Hp → VK → Prop} {ta : TE} (hr : ∀ x H (Q Q' : VK), (∀ v H', Q v H' → Q' v H') → r x H Q → r x H Q') (h : ∀ σ H (Q Q' : VK), (∀ v H', Q v H' → Q' v H') → ta σ H Q → ta σ H Q') :
    ∀ σ H (Q Q' : VK), (∀ v H', Q v H' → Q' v H') → tUn r ta σ H Q → tUn r ta σ H Q' := fun σ H _ _ m q => h σ H _ _ (fun x H1 q1 => hr x H1 _ _ m q1) q
theorem mono_neg {ta : TE} (h : ∀ σ H (Q Q' : VK), (∀ v H', Q v H' → Q' v H') → ta σ H Q → ta σ H Q') : ∀ σ H (Q Q' : VK), (∀ v H', Q v H' → Q' v H') → tUn (rU fun i => V.int (-i)) ta σ H Q → tUn (rU fun i => V.int (-i)) ta σ H Q' :=
  mono_un (fun _ _ _ _ m h => by
    obtain ⟨i, e, q⟩ := h
    exact ⟨i, e, m _ _ q⟩) h
theorem upd_swap {H : Hp} {a d : Addr} {o1 o2 o3 : HO} (n : d ≠ a) : upd (upd (upd H d o1) a o2) d o3 = upd (upd H d o3) a o2 := by
  funext b
  by_cases h1 : b = d
  · subst h1
    rw [upd_same, upd_ne n, upd_same]
  · by_cases h2 : b = a
    · subst h2
      rw [upd_ne h1, upd_same, upd_same]
    · rw [upd_ne h1, upd_ne h2, upd_ne h1, upd_ne h2, upd_ne h1]
/-- a call of the def that slot i holds, within a try -/
def Held (P : Program) (w : World) (K : PySem.W.Frag) (mg : Str → Option Value) (base : Heap) (k : Nat) (f : Addr) (sp : Sp) : Prop :=
  ∃ (fd : FuncData) (ps : List Str), FnOk P w K mg base (L2.CX P w) k f fd ps sp ∧ PySem.W.keepIn K (.ref f) = true ∧ Binds K fd ps []
def tCallLS (i : Nat) (S : Addr → Sp → Prop) (W : WX) (t : TA) : TE := fun σ H Q => ∃ f sp, σ[i]? = some (some (.ref f)) ∧ S f sp ∧ t σ H fun vs H1 => sp vs H1 Q (WE W σ)
theorem pe_lcl {X : Cx} {S : Addr → Sp → Prop} {W : WX} {k i : Nat} {x : Str} {p pos : PySem.Pos} {e : Expr} {es : List Expr} {t : TA} (A : ∀ f sp, S f sp → Held X.prog X.w X.K X.mg X.base k f sp) (hr : Room k X.A) (tk : Takes X W) (hN : X.N[i]? = some x) (hv : Vis X.env.scope x) (ha : PA X (e :: es) t)
    (hdb : (x == ("__debug__" : Str)) = false := by decide) (hcd : (x == ("__classdict__" : Str)) = false := by decide)
    (he : starEach (e :: es) X.env = (false, eval e X.env) :: starEach es X.env := by rfl) (hpl : (backTo pos (starEach es X.env)).any (·.1) = false := by rfl) : PE X (.Call (.Name x p) (e :: es) [] pos) (tCallLS i S W t) := by
  refine ⟨fun pins s σ H Q I h => ?_⟩
  obtain ⟨f, sp, hs, hS, ht⟩ := h
  obtain ⟨fd, ps, F, hk, hb⟩ := A f sp hS
  have hvar := (pe_var (pos := p) hN hv hdb hcd).run pins s σ H (fun v H1 => v = .ref f ∧ H1 = H) I ⟨.ref f, hs, rfl, rfl⟩
  refine wpAny_Call_Name_kw (thn hvar fun u s1 hu => ?_)
  obtain ⟨v, H1, I1, r1, e1, e2⟩ := hu
  subst e1 e2
  cases r1
  refine PySem.W.callWith_K (h₀ := X.base) I.ok.mod.kin hk (thn (ha.run pos pins s1 σ _ _ I1 ht) fun us s2 hq => ?_) he hpl
  obtain ⟨vs, H2, I2, r, q⟩ := hq
  exact ⟨I2.kIn, run_fnS (E := WE W) F hr hb (passAt tk σ) I2 r q⟩
end Lay

namespace Lay
open PySem PySem.Spec PyProof.Rows L2
def CPowW (i j : Int) : Prop := 0 ≤ j ∧ (Builtin.Int.intBits i : Int) * j ≤ 2 ^ 27
theorem op_powW {X : Cx} : OpR X (binaryOp .Pow) (rI CPowW fun i j => .int (i ^ j.toNat)) := opI fun _ _ _ _ _ _ _ hc q => pow_int hc.1 hc.2 q
/-- for i, x in enumerate(xs) -/
theorem for_enum {K : PySem.W.Frag} {a : Addr} {xs : List V} {g : TG} {tb : TS} {D : Ends} {σ : L2.St} {H : Hp} (Pv : Nat → L2.St → Hp → Prop) (h0 : Pv 0 σ H) (hl : ∀ i σ H, i ≤ xs.length → Pv i σ H → SqL K H a xs)
    (hs : ∀ (i : Nat) x T σ H, xs[i]? = some x → Pv i σ H → H T = none → g (.ref T) σ (upd H T (.tup [.int (i : Int), x])) fun σ2 H2 => tb { D with nx := Pv (i + 1), ct := Pv (i + 1), bk := D.nx } σ2 H2) (hd : ∀ σ H, Pv xs.length σ H → D.nx σ H) :
    ∃ W : Nat → Nat → L2.St → Hp → Prop, (∃ m, W 0 m σ H) ∧ ∀ i m σ H, W i m σ H →
      ((Ite K a).stop i H ∧ D.nx σ H) ∨ ((Ite K a).go i H ∧ ∃ N : L2.St → Hp → Prop, (∀ σ' H', N σ' H' → ∃ m', m' < m ∧ W (i + 1) m' σ' H') ∧ ∀ x H', (Ite K a).yld i H x H' → g x σ H' fun σ2 H2 => tb { D with nx := N, ct := N, bk := D.nx } σ2 H2) := by
  refine ⟨fun i m σ H => m + i = xs.length ∧ Pv i σ H, ⟨xs.length, by omega, h0⟩, fun i m σ H hW => ?_⟩
  obtain ⟨e, p⟩ := hW
  have q := hl i σ H (by omega) p
  by_cases hi : i < xs.length
  · have g1 : xs[i]? = some xs[i] := List.getElem?_eq_getElem hi
    refine .inr ⟨⟨xs, xs[i], q, g1⟩, Pv (i + 1), fun σ' H' p' => ⟨m - 1, by omega, by omega, p'⟩, fun v H' y => ?_⟩
    obtain ⟨T, x, rfl, nT, rfl, f⟩ := y
    have ex : x = xs[i] := Option.some.inj ((f xs q).symm.trans g1)
    rw [ex]
    exact hs i xs[i] T σ H g1 p nT
  · have ei : i = xs.length := by omega
    subst ei
    exact .inl ⟨⟨xs, q, Nat.le_refl _⟩, hd σ H p⟩
/-! ## numbers in groups of six bits -/
def groups (n : Nat) : List Int := if n < 64 then [(n : Int)] else ((64 + n % 64 : Nat) : Int) :: groups (n / 64)
termination_by n
decreasing_by omega
theorem groups_small {n : Nat} (h : n < 64) : groups n = [(n : Int)] := by
  rw [groups, if_pos h]
theorem groups_more {n : Nat} (h : ¬ n < 64) : groups n = ((64 + n % 64 : Nat) : Int) :: groups (n / 64) := by
  rw [groups, if_neg h]
theorem groups_pos (n : Nat) : 0 < (groups n).length := by
  by_cases h : n < 64
  · rw [groups_small h]; exact Nat.one_pos
  · rw [groups_more h]; exact Nat.succ_pos _
theorem groups_range (n : Nat) : ∀ g ∈ groups n, 0 ≤ g ∧ g < 128 := by
  induction n using Nat.strongRecOn with
  | ind n ih =>
    intro g hg
    by_cases h : n < 64
    · rw [groups_small h] at hg
      have e : g = (n : Int) := by simpa using hg
      rw [e]
      omega
    · rw [groups_more h] at hg
      rcases List.mem_cons.mp hg with e | hg
      · rw [e]
        omega
      · exact ih (n / 64) (by omega) g hg
theorem groups_len (k : Nat) : ∀ n : Nat, n < 64 ^ (k + 1) → (groups n).length ≤ k + 1 := by
  induction k with
  | zero =>
    intro n h
    rw [groups_small (by simpa using h)]
    exact Nat.le_refl _
  | succ k ih =>
    intro n h
    by_cases h0 : n < 64
    · rw [groups_small h0]
      show 1 ≤ _
      omega
    · rw [groups_more h0, List.length_cons]
      have h1 : n / 64 < 64 ^ (k + 1) := by
        rw [Nat.pow_succ] at h
        exact Nat.div_lt_of_lt_mul (by rw [Nat.mul_comm]; exact h)
      have := ih _ h1
      omega
/-- the last group is not 0, but of 0 alone -/
theorem groups_last : ∀ n : Nat, ∃ ys z, groups n = ys ++ [z] ∧ (ys = [] ∨ 0 < z) := by
  intro n
  induction n using Nat.strongRecOn with
  | ind n ih =>
    by_cases h : n < 64
    · exact ⟨[], n, groups_small h, .inl rfl⟩
    · obtain ⟨ys, z, e, hz⟩ := ih (n / 64) (by omega)
      refine ⟨((64 + n % 64 : Nat) : Int) :: ys, z, by rw [groups_more h, e]; rfl, .inr ?_⟩
      rcases hz with hz | hz
      · subst hz
        by_cases h2 : n / 64 < 64
        · rw [groups_small h2] at e
          have e2 : z = ((n / 64 : Nat) : Int) := by simpa using e.symm
          omega
        · rw [groups_more h2] at e
          have e2 := congrArg List.length e
          have e3 := groups_pos (n / 64 / 64)
          simp at e2
          rw [e2] at e3
          exact absurd e3 (by decide)
      · exact hz
theorem B8_groups (n : Nat) : ∀ g ∈ groups n, 0 ≤ g ∧ g < 256 := fun g hg => by
  have := groups_range n g hg
  omega
end Lay

namespace LayB
open PySem PyProof.Rows
/-! ## bytes == tuple, tuple(bytes) -/
theorem slot_byt_refl : Slot "bytes" (cmpInfo .Eq).2.2 "bytes.__eq__" := PySem.W.FB.slot_bytes_eq
theorem sub_tup_byt : isSubtype (.type "tuple") (.type "bytes") = pure false := by
  rw [isSubtype_type]
  kernel_rfl
theorem tup_declines (l : Addr) (items : Array Value) (n : Nat) (dd : Option Addr) (sl : Array (Option Value)) (b : Array UInt8) (u : Tok) :
    Meets (Builtin.«tuple.__eq__» ⟨[.ref l, .bytes b u], []⟩) (fun _ R s => s.heap.get? l = some { cls := .type "tuple", dict := dd, data := .seq items n, slots := sl } ∧ R (.ok (.ret .notImplemented)) s) :=
  .of_wp fun prog w A R s h => by
    obtain ⟨hp, g, d, tk, os⟩ := s
    obtain ⟨hl, h⟩ := h
    have f1 := F.sub_bytes_tuple
    have f2 : ∀ s' : Shared, s'.TypeIs (.bytes b u) "bytes" := fun s' => PySem.W.typeIs_bytes s' b u
    wp_walk using AutoSeq1.wpAny_loadPart' hl
    all_goals exact ⟨_, rfl, h⟩
theorem byt_declines (b : Array UInt8) (u : Tok) (l : Addr) :
    Meets (Builtin.«bytes.__eq__» ⟨[.bytes b u, .ref l], []⟩) (fun _ R s => s.TypeIs (.ref l) "tuple" ∧ R (.ok (.ret .notImplemented)) s) :=
  .of_wp fun prog w A R s h => by
    obtain ⟨hT, h⟩ := h
    show wpAny _ _ (isInstance (.ref l) (.type "bytes") >>= fun r => _) _ _ s
    refine wpAny_bind (wpAny_isInstance hT sub_tup_byt ?_)
    rw [if_pos (show (!false) = true from rfl)]
    refine wpAny_bind (wpAny_rule ?_)
    exact wpAny_pure ⟨_, rfl, h⟩
section
variable {prog : Program} {w : World} {A : Around} {E : Value → Shared → Prop} {s : Shared}
theorem eq_byt_tup {l : Addr} {items : Array Value} {b : Array UInt8} {u : Tok} {Q : Value → Shared → Prop} (hl : s.heap.IsTuple l items) (hu : A.units < cLine) (h : Q (.bool false) s) : wpAny (model prog w) A (richCompare .Eq (.bytes b u) (.ref l)) Q E s := by
  obtain ⟨⟨cls, dd, data, sl⟩, ho, hc, n, hd⟩ := hl
  have hc' : cls = .type "tuple" := hc
  have hd' : data = .seq items n := hd
  subst hc' hd'
  have hT : s.TypeIs (.ref l) "tuple" := ⟨_, ho, rfl⟩
  refine SeqAt.rc_eq_decline_or (k := false) (PySem.W.typeIs_bytes s b u) hT (by decide) sub_tup_byt PySem.W.FB.slot_bytes_eq F.slot_tuple_eq_refl (fun _ hq => ?_) (fun _ hq => ?_) (fun _ hq => wpAny_of_eq (rfl : isSame (.bytes b u) (.ref l) = pure false) hq) (.inr hu) h
  · exact call_meets PySem.W.FB.slot_bytes_eq (PySem.W.typeIs_bytes s b u) PySem.W.FB.entry_bytes_eq (PySem.W.FB.args_bytes_eq_2 _ _) (byt_declines b u l) ⟨hT, hq⟩
  · exact call_meets F.slot_tuple_eq_refl hT F.entry_tuple_eq (F.args_tuple_eq_2 _ _) (tup_declines l items n dd sl b u) ⟨ho, hq⟩
/-- the bytes' ints, collected -/
theorem collect_byt {x : Array UInt8} {t : Tok} {Q : List Value → Shared → Prop} (hh : A.handled = none) (hn : x.size ≤ sizeLine)
    (hQ : ∀ (h' : Heap) (tk : Nat) (acc : Array Value), (∀ b o, s.heap.get? b = some o → h'.get? b = some o) → ItemsOf (ZB.ByteAt x) acc x.size → Q acc.toList { s with heap := h', toks := tk }) :
    wpAny (model prog w) A (collect (.bytes x t)) Q E s := by
  unfold collect
  refine wpAny_bind (wpAny_runValue (codeAny_builtin F.entry_proto_collect ?_))
  rw [Around.under_plainId F.plain_proto_collect _]
  show wpAny _ A.in1 (newList [] >>= fun l => again (.builtin "list.__iadd__" ⟨[l, .bytes x t], []⟩)) _ _ s
  refine wpAny_bind (wpAny_newObj_type ?_)
  refine wpAny_pure ⟨plainId_quiet F.plain_list_iadd _, codeAny_builtin F.entry_list_iadd ?_⟩
  rw [Around.under_plainId F.plain_list_iadd _]
  show wpAny _ A.in1 (Builtin.List.listExtendWith (.ref s.heap.objs.size) (.bytes x t) (.ref s.heap.objs.size)) _ _ _
  let S := s.heap.objs.size
  have hS : (s.heap.push { cls := .type "list", data := .seq ([] : List Value).toArray }).get? S = some { cls := .type "list", data := .seq #[] 0 } := Heap.get?_push_size _ rfl
  let P : Shared → Prop := fun s' => ∃ (h' : Heap) (tk : Nat) (acc : Array Value) (c' : Nat), s' = { s with heap := h', toks := tk } ∧ (∀ b o, s.heap.get? b = some o → h'.get? b = some o) ∧ h'.get? S = some { cls := .type "list", dict := none, data := .seq acc c', slots := #[] } ∧ ItemsOf (ZB.ByteAt x) acc x.size
  have key := ZB.extend_bytes (prog := prog) (w := w) (A := A) (R := fun rr s' => rr = .ok (.ret (.ref S)) ∧ P s') (s := { s with heap := s.heap.push { cls := .type "list", data := .seq ([] : List Value).toArray } }) hh x t S (.ref S) 0 hS
    (fun h' tk acc c' hk e hi => ⟨rfl, h', tk, acc, c', rfl, fun b o q => hk b o (Nat.ne_of_lt (Heap.lt_size q)) (Heap.get?_push_of_some _ q), e, hi⟩) hn
  have fin : ∀ s', P s' → wpAny (model prog w) A (load S >>= fun o => match o.data with | .seq its _ => pure its.toList | _ => unsupported "proto:collect") Q E s' → True := fun _ _ _ => trivial
  refine wpAny_mono key (fun fn s' h => ?_) (fun e s' h => absurd h.1 (by simp))
  cases fn with
  | done f =>
    obtain ⟨e, h', tk, acc, c', rfl, hk, hS', hi⟩ := h
    cases e
    show wpAny _ A (load S >>= _) _ _ _
    exact wpAny_bind (wpAny_load hS' (wpAny_pure (hQ h' tk acc hk hi)))
  | again c' =>
    refine ⟨h.1, codeAny_mono h.2 fun rr s'' hr' => ?_⟩
    obtain ⟨rfl, h', tk, acc, c', rfl, hk, hS', hi⟩ := hr'
    show wpAny _ A (load S >>= _) _ _ _
    exact wpAny_bind (wpAny_load hS' (wpAny_pure (hQ h' tk acc hk hi)))
theorem tup_new_byt {x : Array UInt8} {t : Tok} {Q₁ : Value → Shared → Prop} (hh : A.handled = none) (hn : x.size ≤ sizeLine)
    (h : ∀ (h' : Heap) (tk : Nat) (acc : Array Value), (∀ b o, s.heap.get? b = some o → h'.get? b = some o) → ItemsOf (ZB.ByteAt x) acc x.size → Q₁ (.ref h'.objs.size) { s with heap := h'.push { cls := .type "tuple", data := .seq acc }, toks := tk }) :
    codeAny (model prog w) A (.call (.builtin "tuple.__new__") ⟨[.type "tuple", .bytes x t], []⟩) (wants Q₁ E) s := by
  refine codeAny_of_tree ?_
  show wpAny _ A.in1 (do checkBuiltinCall "tuple.__new__" ⟨[.type "tuple", .bytes x t], []⟩; again (.builtin "tuple.__new__" ⟨[.type "tuple", .bytes x t], []⟩)) _ _ s
  refine wpAny_bind (wpAny_of_eq (F.newCall_tuple_1 _) (wpAny_pure ⟨plainId_quiet F.plain_tuple_new _, codeAny_builtin F.entry_tuple_new ?_⟩))
  rw [Around.under_plainId F.plain_tuple_new _]
  have hsub := sub_tuple_self
  have hinit := init_tuple_lookup
  have hmh := madeHere_tuple
  have hT : s.TypeIs (.bytes x t) "bytes" := PySem.W.typeIs_bytes s x t
  have hh1 : A.in1.handled = none := hh
  wp_walk using wpAny_typeOf hT, collect_byt (A := A.in1) hh1 hn
  intro h' tk acc hk hacc
  show wpAny _ _ (Builtin.Tuple.tupleExact acc.toList.toArray >>= fun v => ret v) _ _ _
  unfold Builtin.Tuple.tupleExact
  have e : acc.toList.toArray = acc := by simp
  rw [e]
  refine wpAny_bind (wpAny_newObj_type ?_ (by show acc.size ≤ sizeLine; rw [hacc.1]; exact hn))
  exact wpAny_pure (h h' tk acc hk hacc)
theorem call_tup_byt {x : Array UInt8} {t : Tok} {Q : Value → Shared → Prop} (hh : A.handled = none) (hn : x.size ≤ sizeLine)
    (hQ : ∀ (h' : Heap) (tk : Nat) (acc : Array Value), (∀ b o, s.heap.get? b = some o → h'.get? b = some o) → ItemsOf (ZB.ByteAt x) acc x.size → Q (.ref h'.objs.size) { s with heap := h'.push { cls := .type "tuple", data := .seq acc }, toks := tk }) :
    wpAny (model prog w) A (call (.type "tuple") [.bytes x t]) Q E s := by
  have key := tup_new_byt (prog := prog) (w := w) (A := A.in1) (E := E) (s := s) (x := x) (t := t) (Q₁ := fun obj s₁ => s₁.TypeIs obj "tuple" ∧ Q obj s₁) hh hn fun h' tk acc hk hacc => ⟨⟨_, Heap.get?_push_size _ rfl, rfl⟩, hQ h' tk acc hk hacc⟩
  refine callType_codes F.called_tuple (F.typeCall_tuple_1 _) F.entry_object_init key fun obj s₁ h₁ => ?_
  exact ⟨h₁.1, F.args_object_init_2 obj _, object_init_meets F.called_tuple.init.lookup F.called_tuple.made (by decide) prog w A.in1 _ s₁ ⟨h₁.1, rfl, h₁.2⟩⟩
end
end LayB
namespace Lay
open PySem PySem.Spec PyProof.Rows L2
section
variable {X : Cx}
/-- tuple(b): a new tuple of the bytes' ints -/
def rTupB : List V → Hp → VK → Prop := fun xs H Q => ∃ b : Array UInt8, xs = [.byt b] ∧ b.size ≤ sizeLine ∧ ∀ p, H p = none → Q (.ref p) (upd H p (.tup ((bi b).map V.int)))
theorem call_tupB (hc : X.calm = true) : CallR X (.type "tuple") rTupB := by
  intro pins s σ H xs us Q I r h
  obtain ⟨b, rfl, hz, q⟩ := h
  obtain ⟨u, rfl, t, rfl⟩ := vals1 r
  refine LayB.call_tup_byt (I.ok.hd hc) hz fun h' tk acc hk hi => ?_
  have I1 : Inv X pins σ H { s with heap := h', toks := tk } := I.kept (t' := tk) hk
  have hn : H h'.objs.size = none := I1.hok.fresh (Nat.le_refl _)
  refine ⟨.ref h'.objs.size, upd H h'.objs.size (.tup ((bi b).map V.int)), I1.laid (t' := tk) (fun _ _ e => Heap.get?_push_of_some _ e) (Nat.le_refl _) ?_, rfl, q _ hn⟩
  refine ⟨by rw [List.length_map, bi_len]; exact hz, acc.toList, ?_, ⟨_, Heap.get?_push_size _ rfl, rfl, 0, by rw [Array.toArray_toList]⟩⟩
  refine vals_of_idx _ _ (by rw [List.length_map, bi_len, Array.length_toList]; exact hi.1) fun j u hj => ?_
  obtain ⟨c, t', hc', rfl⟩ := hi.2 j u (by rw [← Array.getElem?_toList]; exact hj)
  exact ⟨.int (c.toNat : Int), by simp [PySem.W.KBw.bInts, hc'], ⟨_, rfl⟩⟩
/-- b == t, t a tuple: False -/
def rEqBT (K : PySem.W.Frag) : R2 := fun x y H Q => ∃ (b : Array UInt8) (p : Addr) (xs : List V), x = .byt b ∧ y = .ref p ∧ SqT K H p xs ∧ Q (.bl false) H
theorem op_eqBT (hu : X.A.units < cLine) : OpR X (compareOp .Eq) (rEqBT X.K) := by
  intro pins s σ H x y v u Q I rx ry h
  obtain ⟨b, p, xs, rfl, rfl, hp, q⟩ := h
  obtain ⟨t, rfl⟩ := rx
  cases ry
  obtain ⟨its, rv, ht, _⟩ := I.tuple hp
  show wpAny _ _ (richCompare .Eq (.bytes b t) (.ref p)) _ _ s
  exact LayB.eq_byt_tup ht hu ⟨.bl false, H, I, rfl, q⟩
end
end Lay

namespace K02
open PySem PySem.Spec PyProof.Rows L2 Lay
def topS (i : Nat) : Stmt := PySem.Challenge.pw_codespans_k02_numbers_written.main.body.getD i (.Pass ⟨0, 0, 0, 0⟩)
abbrev s_BadCount_init : Stmt := inClass (topS 2) 0
abbrev s_is_int : Stmt := topS 4
abbrev s_write_number : Stmt := topS 6
abbrev s_write_signed : Stmt := topS 7
abbrev s_l_cell_at : Stmt := topS 9
abbrev s_l_well : Stmt := topS 10
abbrev s_l_draw : Stmt := topS 11
abbrev s_l_one : Stmt := topS 12
abbrev s_l_number : Stmt := topS 13
abbrev s_l_refused : Stmt := topS 14
abbrev s_law : Stmt := topS 15
theorem sc_BadCount_init : FnScope ["self", "many"] ["self", "many"] (defScope s_BadCount_init) := ⟨rfl, rfl, rfl, by decide +kernel, rfl, by decide +kernel, by decide +kernel⟩
theorem sc_is_int : FnScope ["thing"] ["thing"] (defScope s_is_int) := ⟨rfl, rfl, rfl, by decide +kernel, rfl, by decide +kernel, by decide +kernel⟩
theorem sc_write_number : FnScope ["n", "groups", "rest"] ["n"] (defScope s_write_number) := ⟨rfl, rfl, rfl, by decide +kernel, rfl, by decide +kernel, by decide +kernel⟩
theorem sc_write_signed : FnScope ["n"] ["n"] (defScope s_write_signed) := ⟨rfl, rfl, rfl, by decide +kernel, rfl, by decide +kernel, by decide +kernel⟩
theorem sc_l_cell_at : FnScope ["_law_script", "_law_k"] ["_law_script", "_law_k"] (defScope s_l_cell_at) := ⟨rfl, rfl, rfl, by decide +kernel, rfl, by decide +kernel, by decide +kernel⟩
theorem sc_l_well : FnScope ["_law_cell"] ["_law_cell"] (defScope s_l_well) := ⟨rfl, rfl, rfl, by decide +kernel, rfl, by decide +kernel, by decide +kernel⟩
theorem sc_l_draw : FnScope ["_law_well_here", "_law_many", "_law_digit", "_law_number_here", "_law_more"] ["_law_well_here", "_law_many"] (defScope s_l_draw) := ⟨rfl, rfl, rfl, by decide +kernel, rfl, by decide +kernel, by decide +kernel⟩
theorem sc_l_one : FnScope ["_law_well_here", "_law_some"] ["_law_well_here", "_law_some"] (defScope s_l_one) := ⟨rfl, rfl, rfl, by decide +kernel, rfl, by decide +kernel, by decide +kernel⟩
theorem sc_l_number : FnScope ["_law_data", "_law_found", "_law_weight", "_law_place", "_law_byte"] ["_law_data"] (defScope s_l_number) := ⟨rfl, rfl, rfl, by decide +kernel, rfl, by decide +kernel, by decide +kernel⟩
theorem sc_l_refused : FnScope ["_law_ask", "_law_thing", "e"] ["_law_ask", "_law_thing"] (defScope s_l_refused) := ⟨rfl, rfl, rfl, by decide +kernel, rfl, by decide +kernel, by decide +kernel⟩
theorem sc_law : FnScope ["_law_script", "_law_cell", "_law_well_here", "_law_number_here", "_law_found", "_law_signed", "_law_due", "_law_odd"] ["_law_script"] (defScope s_law) := ⟨rfl, rfl, rfl, by decide +kernel, rfl, by decide +kernel, by decide +kernel⟩
def d_BadCount_init : He5.DefA := { at_ := fun K => He.ma K (He.ga K "BadCount") "__init__", name := "__init__", qual := "BadCount.__init__", params := defArgs s_BadCount_init, body := defBody s_BadCount_init, scope := defScope s_BadCount_init }
def d_is_int : He5.DefA := { at_ := fun K => He.ga K "is_int", name := "is_int", qual := "is_int", params := defArgs s_is_int, body := defBody s_is_int, scope := defScope s_is_int }
def d_write_number : He5.DefA := { at_ := fun K => He.ga K "write_number", name := "write_number", qual := "write_number", params := defArgs s_write_number, body := defBody s_write_number, scope := defScope s_write_number }
def d_write_signed : He5.DefA := { at_ := fun K => He.ga K "write_signed", name := "write_signed", qual := "write_signed", params := defArgs s_write_signed, body := defBody s_write_signed, scope := defScope s_write_signed }
def d_l_cell_at : He5.DefA := { at_ := fun K => He.ga K "_law_cell_at", name := "_law_cell_at", qual := "_law_cell_at", params := defArgs s_l_cell_at, body := defBody s_l_cell_at, scope := defScope s_l_cell_at }
def d_l_well : He5.DefA := { at_ := fun K => He.ga K "_law_well", name := "_law_well", qual := "_law_well", params := defArgs s_l_well, body := defBody s_l_well, scope := defScope s_l_well }
def d_l_draw : He5.DefA := { at_ := fun K => He.ga K "_law_draw", name := "_law_draw", qual := "_law_draw", params := defArgs s_l_draw, body := defBody s_l_draw, scope := defScope s_l_draw }
def d_l_one : He5.DefA := { at_ := fun K => He.ga K "_law_one", name := "_law_one", qual := "_law_one", params := defArgs s_l_one, body := defBody s_l_one, scope := defScope s_l_one }
def d_l_number : He5.DefA := { at_ := fun K => He.ga K "_law_number", name := "_law_number", qual := "_law_number", params := defArgs s_l_number, body := defBody s_l_number, scope := defScope s_l_number }
def d_l_refused : He5.DefA := { at_ := fun K => He.ga K "_law_refused", name := "_law_refused", qual := "_law_refused", params := defArgs s_l_refused, body := defBody s_l_refused, scope := defScope s_l_refused }
def d_law : He5.DefA := { at_ := fun K => He.ga K "law", name := "law", qual := "law", params := defArgs s_law, body := defBody s_law, scope := defScope s_law }
def fn : List He5.DefA := [d_BadCount_init, d_is_int, d_write_number, d_write_signed, d_l_cell_at, d_l_well, d_l_draw, d_l_one, d_l_number, d_l_refused, d_law]
def fa : List He.Fa := [.glo "is_int", .glo "write_number", .glo "write_signed", .glo "_law_cell_at", .glo "_law_well", .glo "_law_draw", .glo "_law_one", .glo "_law_number", .glo "_law_refused", .glo "law", .free "isinstance", .free "int", .free "bool", .free "bytes", .free "len", .free "enumerate", .free "dict", .free "tuple", .free "list"]
def ex (K : PySem.W.Frag) : Bool := excB K "BadCount" ["many"] && (true)
/-- the written part behind the top -/
structure Wd (K : PySem.W.Frag) (mg : Str → Option Value) : Prop where
  i : ∃ h : Heap, K.In h ∧ h.Ns mainGlobals mg
  c : Told fa fn ex K
section
variable {K : PySem.W.Frag} {mg : Str → Option Value}
theorem g_is_int (W : Wd K mg) : mg "is_int" = some (.ref (He.ga K "is_int")) := by
  obtain ⟨h, X, G⟩ := W.i
  exact He.glo_ok X G (W.c.a.fact 0 rfl)
theorem g_write_number (W : Wd K mg) : mg "write_number" = some (.ref (He.ga K "write_number")) := by
  obtain ⟨h, X, G⟩ := W.i
  exact He.glo_ok X G (W.c.a.fact 1 rfl)
theorem g_write_signed (W : Wd K mg) : mg "write_signed" = some (.ref (He.ga K "write_signed")) := by
  obtain ⟨h, X, G⟩ := W.i
  exact He.glo_ok X G (W.c.a.fact 2 rfl)
theorem g_l_cell_at (W : Wd K mg) : mg "_law_cell_at" = some (.ref (He.ga K "_law_cell_at")) := by
  obtain ⟨h, X, G⟩ := W.i
  exact He.glo_ok X G (W.c.a.fact 3 rfl)
theorem g_l_well (W : Wd K mg) : mg "_law_well" = some (.ref (He.ga K "_law_well")) := by
  obtain ⟨h, X, G⟩ := W.i
  exact He.glo_ok X G (W.c.a.fact 4 rfl)
theorem g_l_draw (W : Wd K mg) : mg "_law_draw" = some (.ref (He.ga K "_law_draw")) := by
  obtain ⟨h, X, G⟩ := W.i
  exact He.glo_ok X G (W.c.a.fact 5 rfl)
theorem g_l_one (W : Wd K mg) : mg "_law_one" = some (.ref (He.ga K "_law_one")) := by
  obtain ⟨h, X, G⟩ := W.i
  exact He.glo_ok X G (W.c.a.fact 6 rfl)
theorem g_l_number (W : Wd K mg) : mg "_law_number" = some (.ref (He.ga K "_law_number")) := by
  obtain ⟨h, X, G⟩ := W.i
  exact He.glo_ok X G (W.c.a.fact 7 rfl)
theorem g_l_refused (W : Wd K mg) : mg "_law_refused" = some (.ref (He.ga K "_law_refused")) := by
  obtain ⟨h, X, G⟩ := W.i
  exact He.glo_ok X G (W.c.a.fact 8 rfl)
theorem g_law (W : Wd K mg) : mg "law" = some (.ref (He.ga K "law")) := by
  obtain ⟨h, X, G⟩ := W.i
  exact He.glo_ok X G (W.c.a.fact 9 rfl)
theorem g_isinstance (W : Wd K mg) : mg "isinstance" = none := by
  obtain ⟨h, X, G⟩ := W.i
  exact He.free_ok X G (W.c.a.fact 10 rfl)
theorem g_int (W : Wd K mg) : mg "int" = none := by
  obtain ⟨h, X, G⟩ := W.i
  exact He.free_ok X G (W.c.a.fact 11 rfl)
theorem g_bool (W : Wd K mg) : mg "bool" = none := by
  obtain ⟨h, X, G⟩ := W.i
  exact He.free_ok X G (W.c.a.fact 12 rfl)
theorem g_bytes (W : Wd K mg) : mg "bytes" = none := by
  obtain ⟨h, X, G⟩ := W.i
  exact He.free_ok X G (W.c.a.fact 13 rfl)
theorem g_len (W : Wd K mg) : mg "len" = none := by
  obtain ⟨h, X, G⟩ := W.i
  exact He.free_ok X G (W.c.a.fact 14 rfl)
theorem g_enumerate (W : Wd K mg) : mg "enumerate" = none := by
  obtain ⟨h, X, G⟩ := W.i
  exact He.free_ok X G (W.c.a.fact 15 rfl)
theorem g_dict (W : Wd K mg) : mg "dict" = none := by
  obtain ⟨h, X, G⟩ := W.i
  exact He.free_ok X G (W.c.a.fact 16 rfl)
theorem g_tuple (W : Wd K mg) : mg "tuple" = none := by
  obtain ⟨h, X, G⟩ := W.i
  exact He.free_ok X G (W.c.a.fact 17 rfl)
theorem g_list (W : Wd K mg) : mg "list" = none := by
  obtain ⟨h, X, G⟩ := W.i
  exact He.free_ok X G (W.c.a.fact 18 rfl)
theorem x_BadCount (W : Wd K mg) : ExcF K mg "BadCount" ["many"] := by
  obtain ⟨h, X, G⟩ := W.i
  have c := W.c.b
  exact excF_of X G (He.ba c).1
theorem F_BadCount_init (W : Wd K mg) : ∃ fd, FunD K "__init__" "BadCount.__init__" (defArgs s_BadCount_init) (defBody s_BadCount_init) (defScope s_BadCount_init) [] [] (He.ma K (He.ga K "BadCount") "__init__") fd := W.c.a.def_ 0 (d := d_BadCount_init) rfl
theorem F_is_int (W : Wd K mg) : ∃ fd, FunD K "is_int" "is_int" (defArgs s_is_int) (defBody s_is_int) (defScope s_is_int) [] [] (He.ga K "is_int") fd := W.c.a.def_ 1 (d := d_is_int) rfl
theorem F_write_number (W : Wd K mg) : ∃ fd, FunD K "write_number" "write_number" (defArgs s_write_number) (defBody s_write_number) (defScope s_write_number) [] [] (He.ga K "write_number") fd := W.c.a.def_ 2 (d := d_write_number) rfl
theorem F_write_signed (W : Wd K mg) : ∃ fd, FunD K "write_signed" "write_signed" (defArgs s_write_signed) (defBody s_write_signed) (defScope s_write_signed) [] [] (He.ga K "write_signed") fd := W.c.a.def_ 3 (d := d_write_signed) rfl
theorem F_l_cell_at (W : Wd K mg) : ∃ fd, FunD K "_law_cell_at" "_law_cell_at" (defArgs s_l_cell_at) (defBody s_l_cell_at) (defScope s_l_cell_at) [] [] (He.ga K "_law_cell_at") fd := W.c.a.def_ 4 (d := d_l_cell_at) rfl
theorem F_l_well (W : Wd K mg) : ∃ fd, FunD K "_law_well" "_law_well" (defArgs s_l_well) (defBody s_l_well) (defScope s_l_well) [] [] (He.ga K "_law_well") fd := W.c.a.def_ 5 (d := d_l_well) rfl
theorem F_l_draw (W : Wd K mg) : ∃ fd, FunD K "_law_draw" "_law_draw" (defArgs s_l_draw) (defBody s_l_draw) (defScope s_l_draw) [] [] (He.ga K "_law_draw") fd := W.c.a.def_ 6 (d := d_l_draw) rfl
theorem F_l_one (W : Wd K mg) : ∃ fd, FunD K "_law_one" "_law_one" (defArgs s_l_one) (defBody s_l_one) (defScope s_l_one) [] [] (He.ga K "_law_one") fd := W.c.a.def_ 7 (d := d_l_one) rfl
theorem F_l_number (W : Wd K mg) : ∃ fd, FunD K "_law_number" "_law_number" (defArgs s_l_number) (defBody s_l_number) (defScope s_l_number) [] [] (He.ga K "_law_number") fd := W.c.a.def_ 8 (d := d_l_number) rfl
theorem F_l_refused (W : Wd K mg) : ∃ fd, FunD K "_law_refused" "_law_refused" (defArgs s_l_refused) (defBody s_l_refused) (defScope s_l_refused) [] [] (He.ga K "_law_refused") fd := W.c.a.def_ 9 (d := d_l_refused) rfl
theorem F_law (W : Wd K mg) : ∃ fd, FunD K "law" "law" (defArgs s_law) (defBody s_law) (defScope s_law) [] [] (He.ga K "law") fd := W.c.a.def_ 10 (d := d_law) rfl
end
theorem i_BadCount {P : Program} {w : World} {K : PySem.W.Frag} {mg : Str → Option Value} {base : Heap} (W : Wd K mg) : IOk P w K mg base 1 "BadCount" ["self", "many"] (spInit1 (He.ga K "BadCount") "many") := by
  obtain ⟨fd, F⟩ := F_BadCount_init W
  refine ⟨fd, ?_, F.bindsN fun _ _ _ _ _ _ us hl => match us, hl with | [_, _], _ => rfl⟩
  refine F.ok sc_BadCount_init (fun vs H Q E h => ?_) (fun cdv A outer s H vs Q E hr h => ?_)
  · obtain ⟨a, v, rfl, _⟩ := h
    rfl
  · obtain ⟨a, v, rfl, ha, q⟩ := h
    refine ⟨_, PSs.nox (pss_one (ps_ost (pv 0) (pv 1))), ?_⟩
    exact ⟨v, rfl, .ref a, rfl, a, _, rfl, (x_BadCount W).ox, (x_BadCount W).no _ (by simp), .inl ⟨ha, q⟩⟩

end K02
namespace K02
open PySem PySem.Spec PyProof.Rows L2 Lay
/-! ### promises -/
def sp_is_int : Sp := fun vs H Q _ => ∃ (v : V) (n : String), vs = [v] ∧ VT H v n ∧ Q (.bl (n == "int")) H
theorem ok_is_int {P : Program} {w : World} {K : PySem.W.Frag} {mg : Str → Option Value} {base : Heap} (W : Wd K mg) : FOk P w K mg base CX0 1 "is_int" ["thing"] (sp_is_int) :=
  fok (F_is_int W) (g_is_int W) (fun _ _ _ _ _ _ us hl => match us, hl with | [_], _ => rfl) fun fd F => by
  refine F.ok sc_is_int (fun vs H Q E h => ?_) (fun cdv A outer s H vs Q E hr h => ?_)
  · obtain ⟨v, n, rfl, _⟩ := h
    rfl
  · obtain ⟨v, n, rfl, hv, q⟩ := h
    refine ⟨_, PSs.nox (pss_one (ps_ret (pe_and (pe_callB call_isi (by rfl) (g_isinstance W) (by decide +kernel) (pa_cons (pv 0) (pa_cons (pe_bltn (v := .ty "int") rfl (g_int W) (by decide +kernel) rfl) pa_nil))) (pe_one (pe_not (pe_callB call_isi (by rfl) (g_isinstance W) (by decide +kernel) (pa_cons (pv 0) (pa_cons (pe_bltn (v := .ty "bool") rfl (g_bool W) (by decide +kernel) rfl) pa_nil)))))))), ?_⟩
    refine ⟨v, rfl, v, _, _, _, _, rfl, .ty _, hv.tyx, kit_ty (hv.kit (.inl rfl)), _, rfl, ?_⟩
    cases hi : isiB n "int" with
    | false =>
      refine iteF ?_
      have e : (n == "int") = false := by
        have h2 : (n == "int" || (n == "bool" && "int" == "int")) = false := hi
        rw [Bool.or_eq_false_iff] at h2
        exact h2.1
      rw [e] at q
      exact q
    | true =>
      refine iteT ?_
      refine ⟨v, rfl, v, _, _, _, _, rfl, .ty _, hv.tyx, kit_ty (hv.kit (.inr (.inl rfl))), _, rfl, ?_⟩
      have e : (!isiB n "bool") = (n == "int") := by
        cases hv <;> first | rfl | exact absurd hi (by decide)
      rw [e]
      exact q
def sp_well : Sp := fun vs H Q _ => ∃ c : Int, vs = [.int c] ∧ ∀ p, H p = none → Q (.ref p) (upd H p (.lst [.int c, .int 0]))
theorem ok_l_well {P : Program} {w : World} {K : PySem.W.Frag} {mg : Str → Option Value} {base : Heap} (W : Wd K mg) : FOk P w K mg base CX0 1 "_law_well" ["_law_cell"] (sp_well) :=
  fok (F_l_well W) (g_l_well W) (fun _ _ _ _ _ _ us hl => match us, hl with | [_], _ => rfl) fun fd F => by
  refine F.ok sc_l_well (fun vs H Q E h => ?_) (fun cdv A outer s H vs Q E hr h => ?_)
  · obtain ⟨c, rfl, _⟩ := h
    rfl
  · obtain ⟨c, rfl, q⟩ := h
    refine ⟨_, PSs.nox (pss_one (ps_ret (pe_lst (pa_cons (pv 0) (pa_cons pe_int pa_nil))))), ?_⟩
    exact ⟨.int c, rfl, by show 2 ≤ sizeLine; decide, q⟩
def sp_draw : Sp := fun vs H Q _ => ∃ (p : Addr) (m : Int), vs = [.ref p, .int m] ∧ Well H p ∧ 0 < m ∧ m < 2 ^ 200 ∧ ∀ d H', 0 ≤ d → d < m → Drawn p H H' → Q (.int d) H'
theorem div_ok {m : Int} (h0 : 0 < m) (h1 : m < 2 ^ 200) : CDivW a m := wide_div h0 (b := 200) (by omega) (by decide) (by decide)
theorem well_set {p : Addr} {H : Hp} {x y : Int} : Drawn p H (upd H p (.lst [.int x, .int y])) := ⟨⟨x, y, upd_same⟩, .upd .refl⟩
theorem mul_ok {i j : Int} (h0 : 0 ≤ i) (h1 : i < 2 ^ 63) : CMul i j := .inl ⟨by omega, by omega⟩
theorem mul_ok' {i j : Int} (h0 : 0 ≤ j) (h1 : j < 2 ^ 63) : CMul i j := .inr ⟨by omega, by omega⟩
theorem ok_l_draw {P : Program} {w : World} {K : PySem.W.Frag} {mg : Str → Option Value} {base : Heap} (W : Wd K mg) : FOk P w K mg base CX0 1 "_law_draw" ["_law_well_here", "_law_many"] (sp_draw) :=
  fok (F_l_draw W) (g_l_draw W) (fun _ _ _ _ _ _ us hl => match us, hl with | [_, _], _ => rfl) fun fd F => by
  refine F.ok sc_l_draw (fun vs H Q E h => ?_) (fun cdv A outer s H vs Q E hr h => ?_)
  · obtain ⟨p, m, rfl, _⟩ := h
    rfl
  · obtain ⟨p, m, rfl, hw, h0, h1, q⟩ := h
    refine ⟨_, PSs.nox (pss_cons (ps_if (pt_cmpR op_ge (pe_ix ix_list (pv 0) pe_int (fun _ _ => rfl)) (pe_op op_pow pe_int pe_int) (nomark _)) (pss_cons (ps_set (i := 2) sc_l_draw.nd rfl (Or.inl rfl) (pe_op op_mod (pe_callTy call_int1 (by rfl) (g_int W) (by decide +kernel) (pa_cons (pe_ix ix_list (pv 0) pe_int (fun _ _ => rfl)) pa_nil)) (pv 1))) (pss_cons (ps_asg (pe_op op_fdivW (pe_ix ix_list (pv 0) pe_int (fun _ _ => rfl)) (pv 1)) (pg_sub (pv 0) pe_int set_list)) (pss_one (ps_ret (pv 2))))) pss_nil) (pss_cons (ps_asg (pe_op op_add (pe_ix ix_list (pv 0) pe_int (fun _ _ => rfl)) pe_int) (pg_sub (pv 0) pe_int set_list)) (pss_cons (ps_set (i := 3) sc_l_draw.nd rfl (Or.inl rfl) (pe_op op_mod (pe_callTy call_int1 (by rfl) (g_int W) (by decide +kernel) (pa_cons (pe_op op_mul (pe_op op_add (pe_op op_add (pe_op op_mod (pe_callTy call_int1 (by rfl) (g_int W) (by decide +kernel) (pa_cons (pe_ix ix_list (pv 0) pe_int (fun _ _ => rfl)) pa_nil)) pe_int) (pe_op op_mul pe_int (pe_ix ix_list (pv 0) pe_int (fun _ _ => rfl)))) pe_int) pe_int) pa_nil)) pe_int)) (pss_cons (ps_set (i := 4) sc_l_draw.nd rfl (Or.inl rfl) (pe_op op_mod (pe_callTy call_int1 (by rfl) (g_int W) (by decide +kernel) (pa_cons (pe_op op_fdivW (pe_ix ix_list (pv 0) pe_int (fun _ _ => rfl)) pe_int) pa_nil)) pe_int)) (pss_cons (ps_set (i := 3) sc_l_draw.nd rfl (Or.inl rfl) (pe_op op_mod (pe_callTy call_int1 (by rfl) (g_int W) (by decide +kernel) (pa_cons (pe_op op_mul (pv 3) (pe_op op_add (pe_op op_add (pe_op op_fdivW (pv 3) pe_int) pe_int) (pv 4))) pa_nil)) pe_int)) (pss_one (ps_ret (pe_op op_mod (pe_callTy call_int1 (by rfl) (g_int W) (by decide +kernel) (pa_cons (pe_op op_fdivW (pe_op op_mod (pe_callTy call_int1 (by rfl) (g_int W) (by decide +kernel) (pa_cons (pe_op op_mul (pv 3) (pe_op op_add (pe_op op_fdivW (pv 3) pe_int) pe_int)) pa_nil)) pe_int) pe_int) pa_nil)) (pv 1))))))))), ?_⟩
    obtain ⟨a, b, e⟩ := hw
    refine ⟨.ref p, rfl, p, _, 0, .int a, rfl, rfl, SqL.of e, rfl, 10, 18, rfl, rfl, ⟨by decide, by decide, by decide⟩, a, _, rfl, rfl, _, rfl, ?_⟩
    refine ite_b (fun _ => ?_) (fun _ => ?_)
    · refine ⟨.ref p, rfl, p, _, 0, .int a, rfl, rfl, SqL.of e, rfl, .inl ⟨a, rfl, ?_⟩⟩
      refine ⟨.int m, rfl, a, m, rfl, rfl, h0, ?_⟩
      refine ⟨.ref p, rfl, p, _, 0, .int a, rfl, rfl, SqL.of e, rfl, .int m, rfl, a, m, rfl, rfl, div_ok h0 h1, ?_⟩
      refine ⟨.ref p, rfl, p, _, 0, 0, rfl, rfl, e, rfl, ?_⟩
      refine ⟨_, rfl, ?_⟩
      exact q _ _ (Int.emod_nonneg _ (by omega)) (Int.emod_lt_of_pos _ h0) well_set
    refine ⟨.ref p, rfl, p, _, 1, .int b, rfl, rfl, SqL.of e, rfl, b, 1, rfl, rfl, ?_⟩
    refine ⟨.ref p, rfl, p, _, 1, 1, rfl, rfl, e, rfl, ?_⟩
    have e1 : (upd H p (.lst ([V.int a, V.int b].set 1 (V.int (b + 1))))) p = some (.lst [.int a, .int (b + 1)]) := upd_same
    refine ⟨.ref p, rfl, p, _, 0, .int a, rfl, rfl, SqL.of e1, rfl, .inl ⟨a, rfl, ?_⟩⟩
    refine ⟨a, 2147483629, rfl, rfl, (by decide : (0 : Int) < 2147483629), ?_⟩
    refine ⟨.ref p, rfl, p, _, 1, .int (b + 1), rfl, rfl, SqL.of e1, rfl, 60013, b + 1, rfl, rfl, mul_ok (by decide) (by decide), ?_⟩
    refine ⟨_, _, rfl, rfl, ?_⟩
    refine ⟨_, _, rfl, rfl, ?_⟩
    refine ⟨_, _, rfl, rfl, mul_ok' (by decide) (by decide), .inl ⟨_, rfl, ?_⟩⟩
    refine ⟨_, _, rfl, rfl, (by decide : (0 : Int) < 2147483647), ?_⟩
    dsimp only
    generalize hn : ((a % 2147483629 + 60013 * (b + 1) + 11) * 48271) % 2147483647 = n
    have n0 : 0 ≤ n := by rw [← hn]; exact Int.emod_nonneg _ (by decide)
    have n1 : n < 2147483647 := by rw [← hn]; exact Int.emod_lt_of_pos _ (by decide)
    refine ⟨.ref p, rfl, p, _, 0, .int a, rfl, rfl, SqL.of e1, rfl, a, 2147483629, rfl, rfl, div_ok (by decide) (by decide), .inl ⟨_, rfl, ?_⟩⟩
    refine ⟨_, 9973, rfl, rfl, (by decide : (0 : Int) < 9973), ?_⟩
    refine ⟨.int n, rfl, .int n, rfl, n, 1013, rfl, rfl, div_ok (by decide) (by decide), ?_⟩
    refine ⟨_, _, rfl, rfl, ?_⟩
    refine ⟨_, rfl, ?_⟩
    refine ⟨_, _, rfl, rfl, ?_⟩
    refine ⟨n, _, rfl, rfl, mul_ok n0 (by omega), .inl ⟨_, rfl, ?_⟩⟩
    refine ⟨_, _, rfl, rfl, (by decide : (0 : Int) < 2147483587), ?_⟩
    dsimp only
    generalize hk : (n * (n / 1013 + 40692 + a / 2147483629 % 9973)) % 2147483587 = k
    have k0 : 0 ≤ k := by rw [← hk]; exact Int.emod_nonneg _ (by decide)
    have k1 : k < 2147483587 := by rw [← hk]; exact Int.emod_lt_of_pos _ (by decide)
    refine ⟨.int k, rfl, .int k, rfl, k, 2003, rfl, rfl, div_ok (by decide) (by decide), ?_⟩
    refine ⟨_, _, rfl, rfl, ?_⟩
    refine ⟨k, _, rfl, rfl, mul_ok k0 (by omega), .inl ⟨_, rfl, ?_⟩⟩
    refine ⟨_, _, rfl, rfl, (by decide : (0 : Int) < 2147483563), ?_⟩
    refine ⟨_, 5, rfl, rfl, div_ok (by decide) (by decide), .inl ⟨_, rfl, ?_⟩⟩
    refine ⟨.int m, rfl, _, m, rfl, rfl, h0, ?_⟩
    exact q _ _ (Int.emod_nonneg _ (by omega)) (Int.emod_lt_of_pos _ h0) well_set
def sp_one : Sp := fun vs H Q _ => ∃ (p a : Addr) (xs : List V), vs = [.ref p, .ref a] ∧ Well H p ∧ a ≠ p ∧ H a = some (.lst xs) ∧ 0 < xs.length ∧ xs.length ≤ 100000 ∧ ∀ (i : Nat) x H', xs[i]? = some x → Drawn p H H' → Q x H'
theorem ok_l_one {P : Program} {w : World} {K : PySem.W.Frag} {mg : Str → Option Value} {base : Heap} (W : Wd K mg) : FOk P w K mg base CX0 2 "_law_one" ["_law_well_here", "_law_some"] (sp_one) :=
  fok (F_l_one W) (g_l_one W) (fun _ _ _ _ _ _ us hl => match us, hl with | [_, _], _ => rfl) fun fd F => by
  refine F.ok sc_l_one (fun vs H Q E h => ?_) (fun cdv A outer s H vs Q E hr h => ?_)
  · obtain ⟨p, a, xs, rfl, _⟩ := h
    rfl
  · obtain ⟨p, a, xs, rfl, hw, ne, e, h0, h1, q⟩ := h
    refine ⟨_, PSs.nox (pss_one (ps_ret (pe_ix ix_list (pv 1) (pe_cl (ok_l_draw W) (hr.mono (by decide)) (by rfl) pass0 (pa_cons (pv 0) (pa_cons (pe_callB call_len (by rfl) (g_len W) (by decide +kernel) (pa_cons (pv 1) pa_nil)) pa_nil))) (fun _ _ => rfl)))), ?_⟩
    refine ⟨.ref a, rfl, .ref p, rfl, .ref a, rfl, .ref a, xs.length, rfl, .inl ⟨xs, SqL.of e, rfl⟩, ?_⟩
    refine ⟨p, _, rfl, hw, by omega, by omega, fun d H' d0 d1 D => ?_⟩
    obtain ⟨i, rfl⟩ : ∃ i : Nat, d = (i : Int) := ⟨d.toNat, by omega⟩
    have hi : i < xs.length := by omega
    have g : xs[i]? = some xs[i] := List.getElem?_eq_getElem hi
    exact ⟨a, xs, (i : Int), xs[i], rfl, rfl, SqL.of (D.b a _ e ne), atI_nat g, q i _ _ g D⟩
def sp_wn (K : PySem.W.Frag) : Sp := fun vs H Q E => ∃ (v : V) (n : String), vs = [v] ∧ VT H v n ∧ (∀ i : Nat, v = .int i → (groups i).length ≤ 100000 ∧ ∀ H', Same H H' → Q (.byt (byteArr (groups i))) H') ∧
  ((∀ i : Nat, v ≠ .int i) → ∀ H' d, Same H H' → H d = none → H' d = some (.xd [("many", v)]) → E (.ref (He.ga K "BadCount")) (some d) H')
theorem band63 (r : Nat) : (64 : Int) + Builtin.bitAnd (r : Int) 63 = ((64 + r % 64 : Nat) : Int) := by
  rw [bitAnd_m6]
  omega
theorem ok_write_number {P : Program} {w : World} {K : PySem.W.Frag} {mg : Str → Option Value} {base : Heap} (W : Wd K mg) : FOk P w K mg base (L2.CX P w) 3 "write_number" ["n"] (sp_wn K) :=
  fok (F_write_number W) (g_write_number W) (fun _ _ _ _ _ _ us hl => match us, hl with | [_], _ => rfl) fun fd F => by
  refine F.ok sc_write_number (fun vs H Q E h => ?_) (fun cdv A outer s H vs Q E hr h => ?_)
  · obtain ⟨v, n, rfl, _⟩ := h
    rfl
  · obtain ⟨v, n, rfl, hv, q, qe⟩ := h
    refine ⟨_, (pss_cons (ps_if (PW.pt (pw_or (pt_not (pt_val (pe_cl (ok_is_int W) (hr.mono (by decide)) (by rfl) pass0 (pa_cons (pv 0) pa_nil)))) (pw_or1 (pt_cmpR op_lt (pv 0) pe_int (nomark _))))) (pss_one (ps_raise rfl (takes_of rfl rfl rfl rfl) (pmk1 (x_BadCount W) (i_BadCount W) (hr.mono (by decide)) (by rfl) (mono_cons mono_var mono_nil) (pa_cons (pv 0) pa_nil)))) pss_nil) (pss_cons (ps_set (i := 1) sc_write_number.nd rfl (Or.inl rfl) (pe_lst pa_nil)) (pss_cons (ps_set (i := 2) sc_write_number.nd rfl (Or.inl rfl) (pv 0)) (pss_cons (ps_while (passes_of rfl) (pt_cmpR op_gt (pv 2) pe_int (nomark _)) (pss_cons (ps_expr (pe_bm PySem.F.plainAttrs_list PySem.F.slot_list_append PySem.F.type_list_append mt_append (pv 1) (pa_cons (pe_op op_add pe_int (pe_op op_and (pv 2) pe_int)) pa_nil))) (pss_one (ps_set (i := 2) sc_write_number.nd rfl (Or.inl rfl) (pe_op op_shr (pv 2) pe_int))))) (pss_cons (ps_expr (pe_bm PySem.F.plainAttrs_list PySem.F.slot_list_append PySem.F.type_list_append mt_append (pv 1) (pa_cons (pv 2) pa_nil))) (pss_one (ps_ret (pe_callTy (call_r1 (rl_bytes rfl)) (by rfl) (g_bytes W) (by decide +kernel) (pa_cons (pv 1) pa_nil))))))))), ?_⟩
    refine ⟨v, rfl, v, n, rfl, hv, _, rfl, ?_⟩
    by_cases hn : ∃ i : Nat, v = .int i
    · obtain ⟨i, rfl⟩ := hn
      have en : n = "int" := by
        cases hv
        rfl
      subst en
      obtain ⟨hlen, q⟩ := q i rfl
      refine iteF ?_
      refine ⟨_, rfl, i, 0, rfl, rfl, _, rfl, ?_⟩
      refine ite_b (fun z => absurd z (by omega)) (fun _ => ?_)
      refine ⟨by show 0 ≤ sizeLine; decide, fun l nl => ?_⟩
      refine ⟨_, rfl, ?_⟩
      have fin : ∀ (acc : List Int) (r : Nat), acc ++ groups r = groups i → acc.length + (groups r).length ≤ 100000 := by
        intro acc r e
        have := congrArg List.length e
        rw [List.length_append] at this
        omega
      refine ⟨fun m σ H2 => ∃ (acc : List Int) (r : Nat), m = r ∧ σ = [some (.int i), some (.ref l), some (.int r)] ∧ Same H H2 ∧ H2 l = some (.lst (acc.map V.int)) ∧ acc ++ groups r = groups i, ⟨i, [], i, rfl, rfl, same_new nl, upd_same, rfl⟩, ?_⟩
      rintro m σ H2 ⟨acc, r, rfl, rfl, sm, hl, eg⟩
      have hsz := fin acc m eg
      have hgp := groups_pos m
      refine ⟨_, rfl, m, 63, rfl, rfl, _, rfl, ?_⟩
      refine ite_b (fun hgt => ?_) (fun hgt => ?_)
      · refine ⟨_, fun σ' H' h => h, ?_⟩
        refine ⟨_, rfl, .inl ⟨rfl, _, SqL.of hl⟩, _, rfl, m, 63, rfl, rfl, 64, _, rfl, rfl, l, _, _, rfl, rfl, hl, ?_, ?_⟩
        · rw [List.length_map, sizeLine_eq]
          omega
        · refine ⟨_, rfl, m, 6, rfl, rfl, (by decide : (0 : Int) ≤ 6), ?_⟩
          have e6 : ((m : Int) / 2 ^ (6 : Int).toNat) = ((m / 64 : Nat) : Int) := by
            show (m : Int) / 64 = _
            omega
          refine ⟨m / 64, by omega, acc ++ [((64 + m % 64 : Nat) : Int)], m / 64, rfl, ?_, ?_, ?_, ?_⟩
          · show [some (V.int i), some (V.ref l), some (V.int ((m : Int) / 2 ^ (6 : Int).toNat))] = _
            rw [e6]
          · intro b o e
            rw [upd_ne (ne_of_none e nl)]
            exact sm b o e
          · rw [upd_same]
            show some (HO.lst (acc.map V.int ++ [V.int (64 + Builtin.bitAnd (m : Int) 63)])) = _
            rw [band63, List.map_append]
            rfl
          · rw [← eg, groups_more (n := m) (by omega), List.append_assoc]
            rfl
      · refine ⟨_, rfl, .inl ⟨rfl, _, SqL.of hl⟩, _, rfl, l, _, _, rfl, rfl, hl, ?_, ?_⟩
        · rw [List.length_map, sizeLine_eq]
          omega
        have e1 : acc ++ [(m : Int)] = groups i := by
          rw [← eg, groups_small (n := m) (by omega)]
        refine ⟨_, rfl, .inr ⟨l, groups i, rfl, SqL.of ?_, B8_groups i, q _ ?_⟩⟩
        · rw [upd_same, ← e1, List.map_append]
          rfl
        · intro b o e
          rw [upd_ne (ne_of_none e nl)]
          exact sm b o e
    · have qe' := qe (fun i z => hn ⟨i, z⟩)
      cases hi : (n == "int") with
      | false =>
        refine iteT ?_
        refine iteT ?_
        exact ⟨v, rfl, v, rfl, fun d nd => qe' _ d (same_new nd) nd upd_same⟩
      | true =>
        refine iteF ?_
        obtain ⟨j, rfl⟩ := hv.int_of (by simpa using hi)
        refine ⟨_, rfl, j, 0, rfl, rfl, _, rfl, ?_⟩
        refine ite_b (fun _ => ?_) (fun z => absurd ⟨j.toNat, by congr 1; omega⟩ hn)
        exact ⟨_, rfl, _, rfl, fun d nd => qe' _ d (same_new nd) nd upd_same⟩
def fold2 (n : Int) : Nat := if 0 ≤ n then (2 * n).toNat else (2 * -n + 1).toNat
def sp_ws (K : PySem.W.Frag) : Sp := fun vs H Q E => ∃ (v : V) (n : String), vs = [v] ∧ VT H v n ∧ (∀ i : Int, v = .int i → (groups (fold2 i)).length ≤ 100000 ∧ ∀ H', Same H H' → Q (.byt (byteArr (groups (fold2 i)))) H') ∧
  ((∀ i : Int, v ≠ .int i) → ∀ H' d, Same H H' → H d = none → H' d = some (.xd [("many", v)]) → E (.ref (He.ga K "BadCount")) (some d) H')
theorem ok_write_signed {P : Program} {w : World} {K : PySem.W.Frag} {mg : Str → Option Value} {base : Heap} (W : Wd K mg) : FOk P w K mg base (L2.CX P w) 4 "write_signed" ["n"] (sp_ws K) :=
  fok (F_write_signed W) (g_write_signed W) (fun _ _ _ _ _ _ us hl => match us, hl with | [_], _ => rfl) fun fd F => by
  refine F.ok sc_write_signed (fun vs H Q E h => ?_) (fun cdv A outer s H vs Q E hr h => ?_)
  · obtain ⟨v, n, rfl, _⟩ := h
    rfl
  · obtain ⟨v, n, rfl, hv, q, qe⟩ := h
    refine ⟨_, (pss_cons (ps_if (pt_not (pt_val (pe_cl (ok_is_int W) (hr.mono (by decide)) (by rfl) pass0 (pa_cons (pv 0) pa_nil)))) (pss_one (ps_raise rfl (takes_of rfl rfl rfl rfl) (pmk1 (x_BadCount W) (i_BadCount W) (hr.mono (by decide)) (by rfl) (mono_cons mono_var mono_nil) (pa_cons (pv 0) pa_nil)))) pss_nil) (pss_one (ps_ret (pe_cl (ok_write_number W) (hr.mono (by decide)) (by rfl) (passE (takes_of rfl rfl rfl rfl) (fun _ _ _ _ z => z)) (pa_cons (pe_ifExp (pt_cmpR op_ge (pv 0) pe_int (nomark _)) (pe_op op_mul pe_int (pv 0)) (pe_op op_add (pe_op op_mul pe_int (pe_un un_neg (pv 0))) pe_int)) pa_nil))))), ?_⟩
    refine ⟨v, rfl, v, n, rfl, hv, _, rfl, ?_⟩
    cases hi : (n == "int") with
    | false =>
      refine iteT ?_
      refine ⟨v, rfl, v, rfl, fun d nd => qe (fun i z => ?_) _ d (same_new nd) nd upd_same⟩
      rw [z] at hv
      have en : n = "int" := by
        cases hv
        rfl
      rw [en] at hi
      exact absurd hi (by decide)
    | true =>
      refine iteF ?_
      obtain ⟨j, rfl⟩ := hv.int_of (by simpa using hi)
      obtain ⟨hlen, q⟩ := q j rfl
      refine ⟨_, rfl, j, 0, rfl, rfl, _, rfl, ?_⟩
      refine ite_b (fun h0 => ?_) (fun h0 => ?_)
      · refine ⟨_, rfl, 2, j, rfl, rfl, mul_ok (by decide) (by decide), ?_⟩
        have e : fold2 j = (2 * j).toNat := if_pos h0
        refine ⟨_, _, rfl, .int _, fun i ei => ?_, fun hne => absurd rfl (hne (2 * j).toNat |> fun z y => z (by rw [show ((2 * j).toNat : Int) = 2 * j by omega]))⟩
        have ei' : i = fold2 j := by
          have := v_int_inj ei
          rw [e]
          omega
        rw [ei']
        exact ⟨hlen, q⟩
      · refine ⟨_, rfl, j, rfl, ?_⟩
        refine ⟨2, -j, rfl, rfl, mul_ok (by decide) (by decide), ?_⟩
        refine ⟨_, 1, rfl, rfl, ?_⟩
        have e : fold2 j = (2 * -j + 1).toNat := if_neg h0
        refine ⟨_, _, rfl, .int _, fun i ei => ?_, fun hne => absurd rfl (hne (2 * -j + 1).toNat |> fun z y => z (by rw [show ((2 * -j + 1).toNat : Int) = 2 * -j + 1 by omega]))⟩
        have ei' : i = fold2 j := by
          have := v_int_inj ei
          rw [e]
          omega
        rw [ei']
        exact ⟨hlen, q⟩
def sp_num : Sp := fun vs H Q _ => ∃ (a : Addr) (n : Nat), vs = [.ref a] ∧ H a = some (.lst ((groups n).map V.int)) ∧ (groups n).length ≤ 100000 ∧ ∀ H', Same H H' → Q (.int (n : Int)) H'
theorem groups_one {r : Nat} {g : Int} {t : List Int} (h : groups r = g :: t) : ((64 ≤ g) ↔ 0 < t.length) ∧ g < 128 ∧ 0 ≤ g ∧ g % 64 = ((r % 64 : Nat) : Int) ∧ ((0 < t.length → t = groups (r / 64)) ∧ (t.length = 0 → r < 64)) := by
  by_cases h0 : r < 64
  · rw [groups_small h0] at h
    have e := List.cons.inj h
    rw [← e.1, ← e.2]
    refine ⟨⟨fun z => by omega, fun z => absurd z (by decide)⟩, by omega, by omega, by omega, fun z => absurd z (by decide), fun _ => h0⟩
  · rw [groups_more h0] at h
    have e := List.cons.inj h
    have p := groups_pos (r / 64)
    rw [← e.1, ← e.2]
    refine ⟨⟨fun _ => p, fun _ => by omega⟩, by omega, by omega, by omega, fun _ => rfl, fun z => by omega⟩
theorem drop_cons {xs : List Int} {i : Nat} {g : Int} (h : xs[i]? = some g) : xs.drop i = g :: xs.drop (i + 1) := by
  obtain ⟨hi, e⟩ := List.getElem?_eq_some_iff.mp h
  rw [← e]
  exact List.drop_eq_getElem_cons hi
theorem atI_end {xs : List V} {ys : List V} {z : V} (h : xs = ys ++ [z]) : atI xs (-1) = some z := by
  rw [h]
  exact atI_last ys z
theorem ok_l_number {P : Program} {w : World} {K : PySem.W.Frag} {mg : Str → Option Value} {base : Heap} (W : Wd K mg) : FOk P w K mg base CX0 1 "_law_number" ["_law_data"] (sp_num) :=
  fok (F_l_number W) (g_l_number W) (fun _ _ _ _ _ _ us hl => match us, hl with | [_], _ => rfl) fun fd F => by
  refine F.ok sc_l_number (fun vs H Q E h => ?_) (fun cdv A outer s H vs Q E hr h => ?_)
  · obtain ⟨a, n, rfl, _⟩ := h
    rfl
  · obtain ⟨a, n, rfl, ha, hlen, q⟩ := h
    refine ⟨_, PSs.nox (pss_cons (ps_set (i := 1) sc_l_number.nd rfl (Or.inl rfl) pe_int) (pss_cons (ps_set (i := 2) sc_l_number.nd rfl (Or.inl rfl) pe_int) (pss_cons (ps_for PassesOwn.never rfl (pi_enum (by rfl) (g_enumerate W) (pa_cons (pv 0) pa_nil)) (pg_tup rfl (pgs_cons (pg_name (i := 3) sc_l_number.nd rfl (Or.inl rfl)) (pgs_cons (pg_name (i := 4) sc_l_number.nd rfl (Or.inl rfl)) pgs_nil))) (pss_cons (ps_if (PW.pt (pw_or (pt_cmpR op_ne (pe_cmpR op_ge (pv 4) pe_int (nomark _)) (pe_cmpR op_lt (pv 3) (pe_op op_sub (pe_callB call_len (by rfl) (g_len W) (by decide +kernel) (pa_cons (pv 0) pa_nil)) pe_int) (nomark _)) (nomark _)) (pw_or1 (pt_cmpR op_ge (pv 4) pe_int (nomark _))))) (pss_one (ps_ret pe_non)) pss_nil) (pss_cons (ps_set (i := 1) sc_l_number.nd rfl (Or.inl rfl) (pe_op op_add (pv 1) (pe_op op_mul (pe_op op_mod (pe_callTy call_int1 (by rfl) (g_int W) (by decide +kernel) (pa_cons (pv 4) pa_nil)) pe_int) (pv 2)))) (pss_one (ps_set (i := 2) sc_l_number.nd rfl (Or.inl rfl) (pe_op op_mul (pv 2) pe_int)))))) (pss_one (ps_ret (pe_ifExp (PW.pt (pw_or (pt_cmpR op_eq (pe_callB call_len (by rfl) (g_len W) (by decide +kernel) (pa_cons (pv 0) pa_nil)) pe_int (nomark _)) (pw_or1 (pt_cmpR op_gt (pe_ix ix_list (pv 0) (pe_un un_neg pe_int) (fun _ _ => rfl)) pe_int (nomark _))))) (pv 1) pe_non)))))), ?_⟩
    refine ⟨.ref a, rfl, a, _, rfl, SqL.of ha, for_enum (K := K) (xs := (groups n).map V.int) (fun i σ H2 => ∃ (f w : Int) (r : Nat) (x3 x4 : Option V), σ = [some (.ref a), some (.int f), some (.int w), x3, x4] ∧ Same H H2 ∧ f + w * r = n ∧ (i < (groups n).length → (groups n).drop i = groups r) ∧ (i = (groups n).length → r = 0))
      ⟨0, 1, n, none, none, rfl, Same.refl H, by omega, fun _ => rfl, fun z => by have := groups_pos n; omega⟩ (fun i σ H2 _ hP => by obtain ⟨_, _, _, _, _, _, s, _⟩ := hP; exact SqL.of (s _ _ ha)) ?_ ?_⟩
    · rintro i x T σ H2 hi ⟨f, w, r, x3, x4, rfl, sm, ev, hd, _⟩ nT
      obtain ⟨g, hg, rfl⟩ : ∃ g, (groups n)[i]? = some g ∧ x = V.int g := by
        rw [List.getElem?_map] at hi
        cases e : (groups n)[i]? with
        | none => rw [e] at hi; cases hi
        | some g => rw [e] at hi; exact ⟨g, rfl, (Option.some.inj hi).symm⟩
      have hlt : i < (groups n).length := (List.getElem?_eq_some_iff.mp hg).1
      have hdr := hd hlt
      rw [drop_cons hg] at hdr
      obtain ⟨g1, g2, g3, g4, g5, g6⟩ := groups_one hdr.symm
      have tl : ((groups n).drop (i + 1)).length = (groups n).length - (i + 1) := List.length_drop
      have sm' : Same H (upd H2 T (.tup [.int (i : Int), .int g])) := sm.trans (same_new nT)
      refine ⟨T, _, rfl, SqT.of upd_same, rfl, _, _, rfl, _, _, rfl, rfl, ?_⟩
      refine ⟨_, rfl, g, 64, rfl, rfl, ?_⟩
      refine ⟨_, rfl, .ref a, rfl, .ref a, (groups n).length, rfl, .inl ⟨_, SqL.of (sm' _ _ ha), by rw [List.length_map]⟩, ?_⟩
      refine ⟨_, 1, rfl, rfl, i, _, rfl, rfl, rfl, _, rfl, ?_⟩
      have key : decide (64 ≤ g) = decide ((i : Int) < ((groups n).length : Int) - 1) := by
        by_cases z : 64 ≤ g
        · rw [decide_eq_true z, decide_eq_true]
          have := g1.mp z
          omega
        · rw [decide_eq_false z, decide_eq_false]
          intro y
          exact z (g1.mpr (by omega))
      refine ite_n (fun z => absurd (congrArg V.bl key) z) (fun _ => ?_)
      refine ⟨_, rfl, g, 128, rfl, rfl, _, rfl, ?_⟩
      refine ite_b (fun z => absurd z (by omega)) (fun _ => ?_)
      refine ⟨_, rfl, _, rfl, .inl ⟨g, rfl, ?_⟩⟩
      refine ⟨g, 64, rfl, rfl, (by decide : (0 : Int) < 64), _, rfl, g % 64, w, rfl, rfl, mul_ok (by omega) (by omega), f, _, rfl, rfl, ?_⟩
      refine ⟨_, rfl, w, 64, rfl, rfl, mul_ok' (by decide) (by decide), ?_⟩
      have er : (r : Int) = 64 * ((r / 64 : Nat) : Int) + ((r % 64 : Nat) : Int) := by omega
      refine ⟨_, _, r / 64, _, _, rfl, sm', ?_, fun z => g5 (by omega), fun z => ?_⟩
      · show f + g % 64 * w + w * 64 * ((r / 64 : Nat) : Int) = n
        rw [← ev, g4]
        have e1 : w * (r : Int) = w * (64 * ((r / 64 : Nat) : Int)) + w * ((r % 64 : Nat) : Int) := by
          rw [← Int.mul_add, ← er]
        rw [e1, Int.mul_comm ((r % 64 : Nat) : Int) w, Int.mul_assoc w 64]
        omega
      · have := g6 (by omega)
        omega
    · rintro σ H2 ⟨f, w, r, x3, x4, rfl, sm, ev, _, hr⟩
      rw [hr (by rw [List.length_map])] at ev
      have ef : f = n := by
        rw [← ev]
        show f = f + w * 0
        rw [Int.mul_zero, Int.add_zero]
      subst ef
      refine ⟨.ref a, rfl, .ref a, (groups n).length, rfl, .inl ⟨_, SqL.of (sm _ _ ha), by rw [List.length_map]⟩, rfl, _, rfl, ?_⟩
      obtain ⟨ys, z, e, hz⟩ := groups_last n
      have fin : Q (.int (n : Int)) H2 := q H2 sm
      by_cases h1 : ((groups n).length : Int) = 1
      · refine ite_b (fun _ => ?_) (fun y => absurd (by rw [h1]) y)
        refine iteT ?_
        exact ⟨_, rfl, fin⟩
      · refine ite_b (fun y => absurd (v_int_inj y) h1) (fun _ => ?_)
        refine ⟨.ref a, rfl, 1, rfl, a, _, -1, .int z, rfl, rfl, SqL.of (sm _ _ ha), atI_end (ys := ys.map V.int) (by rw [e, List.map_append]; rfl), z, 0, rfl, rfl, _, rfl, ?_⟩
        have z0 : 0 < z := by
          rcases hz with y | y
          · subst y
            rw [e] at h1
            exact absurd rfl h1
          · exact y
        refine ite_b (fun _ => ?_) (fun y => absurd z0 y)
        exact ⟨_, rfl, fin⟩
/-- what is equal to itself by == -/
def Selfy (K : PySem.W.Frag) (H : Hp) (v : V) : Prop := (∃ d, Dp K H v d ∧ SeqAt.shaped d = true ∧ PyData.eqv d d = true) ∨ ∃ a, v = .ref a ∧ H a = some (.dK [])
def rEqS (K : PySem.W.Frag) : R2 := fun x y H Q => rEqD K x y H Q ∨ ∃ a b kvs, x = .ref a ∧ y = .ref b ∧ H a = some (.dK kvs) ∧ H b = some (.dK kvs) ∧ (kvs.map (·.1)).Nodup ∧ (∀ p ∈ kvs, flatB p.2 = true) ∧ Q (.bl true) H
theorem op_eqS {X : Cx} (h1 : X.A.units + 64 < cLine) (h2 : X.A.units < cLine) : OpR X (compareOp .Eq) (rEqS X.K) := (op_eqD h1).or (op_eq_dict h2)
def SS (K : PySem.W.Frag) (f : Addr) (sp : Sp) : Prop := (f = He.ga K "write_number" ∧ sp = sp_wn K) ∨ (f = He.ga K "write_signed" ∧ sp = sp_ws K)
theorem held_SS {P : Program} {w : World} {K : PySem.W.Frag} {mg : Str → Option Value} {base : Heap} (W : Wd K mg) (f : Addr) (sp : Sp) (h : SS K f sp) : Held P w K mg base 4 f sp := by
  rcases h with ⟨rfl, rfl⟩ | ⟨rfl, rfl⟩
  · obtain ⟨fd, F, b, kp, _⟩ := ok_write_number (P := P) (w := w) (base := base) W
    exact ⟨fd, _, F.mono (by decide), kp, b⟩
  · obtain ⟨fd, F, b, kp, _⟩ := ok_write_signed (P := P) (w := w) (base := base) W
    exact ⟨fd, _, F.mono (by decide), kp, b⟩
def sp_refused (K : PySem.W.Frag) : Sp := fun vs H Q _ => ∃ (f : Addr) (sp : Sp) (v : V), vs = [.ref f, v] ∧ SS K f sp ∧
  (∀ (Q : VK) (E : XK), (∀ H' d, Same H H' → H d = none → H' d = some (.xd [("many", v)]) → E (.ref (He.ga K "BadCount")) (some d) H') → sp [v] H Q E) ∧ (∀ H', Same H H' → Selfy K H' v) ∧ ∀ H', Same H H' → Q (.bl true) H'
theorem ok_l_refused {P : Program} {w : World} {K : PySem.W.Frag} {mg : Str → Option Value} {base : Heap} (W : Wd K mg) : FOk P w K mg base CX0 5 "_law_refused" ["_law_ask", "_law_thing"] (sp_refused K) :=
  fok (F_l_refused W) (g_l_refused W) (fun _ _ _ _ _ _ us hl => match us, hl with | [_, _], _ => rfl) fun fd F => by
  refine F.ok sc_l_refused (fun vs H Q E h => ?_) (fun cdv A outer s H vs Q E hr h => ?_)
  · obtain ⟨f, sp, v, rfl, _⟩ := h
    rfl
  · obtain ⟨f, sp, v, rfl, hS, hsp, hself, q⟩ := h
    refine ⟨_, PSs.nox (pss_cons (ps_try_as (i := 2) rfl rfl sc_l_refused.nd rfl rfl ⟨rfl, by decide, .inl (x_BadCount W).g⟩ takes0 (fun W2 pn xe tk _ => pss_one (ps_expr (pe_lcl (i := 0) (S := SS K) (held_SS W) (hr.mono (by decide)) tk rfl (Or.inl rfl) (pa_cons (pv 1) pa_nil)))) (fun a oe cls d pn hz hf => pss_one (ps_ret (pe_cmpR (show OpR _ (compareOp .Eq) (rEqS K) from op_eqS hr.units hr.units0) (pe_xf (x_BadCount W).xf ((x_BadCount W).no _ (by simp)) hz hf (pv 2)) (pv 1) (nomark _))))) (pss_one (ps_ret pe_bl))), ?_⟩
    refine ⟨f, sp, rfl, hS, v, rfl, hsp _ _ fun H' d sm nd hd => ?_⟩
    refine ⟨true, (x_BadCount W).self, fun _ a na => ?_, fun z => nomatch z⟩
    refine ⟨_, rfl, rfl, rfl, d, _, v, rfl, hd, by simp [List.lookup], v, rfl, ?_⟩
    rcases hself H' sm with ⟨pd, h1, h2, h3⟩ | ⟨p, rfl, hp⟩
    · refine .inl ⟨pd, pd, h1, h1, h2, h2, ?_⟩
      rw [h3]
      exact q H' sm
    · exact .inr ⟨p, p, [], rfl, rfl, hp, hp, List.nodup_nil, (fun z hz => nomatch hz), q H' sm⟩
def sp_law (K : PySem.W.Frag) : Sp := fun vs H Q _ => ∃ (a : Addr) (ns : List Int), vs = [.ref a] ∧ SqL K H a (ns.map V.int) ∧ ns.length ≤ 63 ∧ ∀ H', Q (.bl true) H'
theorem gl {n : Nat} (h : n < 64 ^ 1200) : (groups n).length ≤ 100000 := Nat.le_trans (groups_len 1199 n h) (by decide)
theorem gl2 {i : Int} {n : Nat} (h : n < 64 ^ 1199) (e : i = n ∨ i = 0 - n ∨ i = 0) : (groups (fold2 i)).length ≤ 100000 := by
  have e2 : (64 : Nat) ^ 1200 = 64 ^ 1199 * 64 := Nat.pow_succ 64 1199
  refine gl ?_
  unfold fold2
  split <;> omega
theorem bi_groups (n : Nat) : bi (byteArr (groups n)) = groups n := bi_make (B8_groups n)
theorem big_ok {n : Nat} (h : n < 2 ^ 200) : n + ((10 ^ 60) ^ 33) < 64 ^ 1199 := by
  have e : 2 ^ 200 + ((10 ^ 60) ^ 33) < 64 ^ 1199 := by decide +kernel
  exact Nat.lt_trans (Nat.add_lt_add_right h _) e
theorem small_ok {n : Nat} (h : n < 2 ^ 200) : n < 64 ^ 1199 := Nat.lt_trans h (by decide +kernel)
theorem size_ok {n : Nat} (h : (groups n).length ≤ 100000) : (byteArr (groups n)).size ≤ sizeLine := by
  rw [← bi_len, bi_groups, sizeLine_eq]
  omega
theorem wsame {H H' : Hp} {p : Addr} (h : Well H p) (s : Same H H') : Well H' p := by
  obtain ⟨a, b, e⟩ := h
  exact ⟨a, b, s _ _ e⟩
theorem selfy_non {K : PySem.W.Frag} {H : Hp} : Selfy K H .non := .inl ⟨_, .non, rfl, rfl⟩
theorem selfy_bl {K : PySem.W.Frag} {H : Hp} {b : Bool} : Selfy K H (.bl b) := .inl ⟨_, .bl b, rfl, by simp [PyData.eqv]⟩
theorem selfy_int {K : PySem.W.Frag} {H : Hp} {b : Int} : Selfy K H (.int b) := .inl ⟨_, .int b, rfl, by simp [PyData.eqv]⟩
theorem selfy_str {K : PySem.W.Frag} {H : Hp} : Selfy K H (.str "1") := .inl ⟨_, .str _, by decide +kernel, by simp [PyData.eqv]⟩
theorem selfy_nil {K : PySem.W.Frag} {H : Hp} {a : Addr} (h : H a = some (.lst [])) : Selfy K H (.ref a) := .inl ⟨.list [], .lst (SqL.of h) .nil, rfl, by simp [PyData.eqv, PyData.eqvAll]⟩
theorem selfy_one {K : PySem.W.Frag} {H : Hp} {a : Addr} {i : Int} (h : H a = some (.tup [.int i])) : Selfy K H (.ref a) := .inl ⟨.tuple [.int i], .tup (SqT.of h) (.cons (.int i) .nil), rfl, by simp [PyData.eqv, PyData.eqvAll]⟩
theorem fn_law {P : Program} {w : World} {K : PySem.W.Frag} {mg : Str → Option Value} {base : Heap} (W : Wd K mg) {fd : FuncData} (F : FunD K "law" "law" (defArgs s_law) (defBody s_law) (defScope s_law) [] [] (He.ga K "law") fd) : FnOk P w K mg base CX0 6 (He.ga K "law") fd ["_law_script"] (sp_law K) := by
  refine F.ok sc_law (fun vs H Q E h => ?_) (fun cdv A outer s H vs Q E hr h => ?_)
  · obtain ⟨a, ns, rfl, _⟩ := h
    rfl
  · obtain ⟨a, ns, rfl, hS, hlen, k⟩ := h
    refine ⟨_, PSs.nox (pss_cons (ps_for PassesOwn.never rfl (pi_list (pe_op op_cat (pe_slice sl_list (pv 0) po_none (po_some pe_int)) (pe_lst (pa_cons pe_int pa_nil)))) (pg_name (i := 1) sc_law.nd rfl (Or.inl rfl)) (pss_cons (ps_set (i := 2) sc_law.nd rfl (Or.inl rfl) (pe_cl (ok_l_well W) (hr.mono (by decide)) (by rfl) pass0 (pa_cons (pv 1) pa_nil))) (pss_cons (ps_set (i := 3) sc_law.nd rfl (Or.inl rfl) (pe_cl (ok_l_draw W) (hr.mono (by decide)) (by rfl) pass0 (pa_cons (pv 2) (pa_cons (pe_cl (ok_l_one W) (hr.mono (by decide)) (by rfl) pass0 (pa_cons (pv 2) (pa_cons (pe_lst (pa_cons pe_int (pa_cons pe_int (pa_cons pe_int (pa_cons (pe_op op_pow pe_int pe_int) (pa_cons (pe_op op_pow pe_int pe_int) pa_nil)))))) pa_nil))) pa_nil)))) (pss_mid (ps_if (pt_cmpR op_eq (pe_cl (ok_l_draw W) (hr.mono (by decide)) (by rfl) pass0 (pa_cons (pv 2) (pa_cons pe_int pa_nil))) pe_int (nomark _)) (pss_one (ps_set (i := 3) sc_law.nd rfl (Or.inl rfl) (pe_op op_add (pv 3) (pe_op op_powW (pe_op op_pow pe_int pe_int) pe_int)))) pss_nil) (pss_cons (ps_set (i := 4) sc_law.nd rfl (Or.inl rfl) (pe_cl (ok_write_number W) (hr.mono (by decide)) (by rfl) passL (pa_cons (pv 3) pa_nil))) (pss_cons (ps_if (PW.pt (pw_or (pt_cmpR op_ne (pe_ix ix_dictB (pe_callTy (call_dictB rfl) (by rfl) (g_dict W) (by decide +kernel) (pa_cons (pe_lst (pa_cons (pe_tup (pa_cons (pv 4) (pa_cons pe_int pa_nil))) pa_nil)) pa_nil)) (pv 4) (fun _ _ => rfl)) pe_int (nomark _)) (pw_or (pt_cmpR (op_eqBT hr.units0) (pv 4) (pe_callTy (call_tupB rfl) (by rfl) (g_tuple W) (by decide +kernel) (pa_cons (pv 4) pa_nil)) (nomark _)) (pw_or1 (pt_cmpR op_ne (pe_cl (ok_l_number W) (hr.mono (by decide)) (by rfl) pass0 (pa_cons (pe_callTy (call_r1 (rl_listB rfl)) (by rfl) (g_list W) (by decide +kernel) (pa_cons (pv 4) pa_nil)) pa_nil)) (pv 3) (nomark _)))))) (pss_one (ps_ret pe_bl)) pss_nil) (pss_cons (ps_for PassesOwn.never rfl (pi_list (pe_lst (pa_cons (pv 3) (pa_cons (pe_op op_sub pe_int (pv 3)) (pa_cons pe_int pa_nil))))) (pg_name (i := 5) sc_law.nd rfl (Or.inl rfl)) (pss_mid (ps_set (i := 6) sc_law.nd rfl (Or.inl rfl) (pe_ifExp (pt_cmpR op_ge (pv 5) pe_int (nomark _)) (pe_op op_mul pe_int (pv 5)) (pe_op op_sub pe_int (pe_op op_mul pe_int (pv 5))))) (pss_one (ps_if (pt_cmpR op_ne (pe_cl (ok_l_number W) (hr.mono (by decide)) (by rfl) pass0 (pa_cons (pe_callTy (call_r1 (rl_listB rfl)) (by rfl) (g_list W) (by decide +kernel) (pa_cons (pe_cl (ok_write_signed W) (hr.mono (by decide)) (by rfl) passL (pa_cons (pv 5) pa_nil)) pa_nil)) pa_nil)) (pv 6) (nomark _)) (pss_one (ps_ret pe_bl)) pss_nil)))) (pss_cons (ps_if (pt_not (pt_val (pe_cl (ok_l_refused W) (hr.mono (by decide)) (by rfl) pass0 (pa_cons (pe_glob (v := .ref (He.ga K "write_number")) rfl (g_write_number W) rfl) (pa_cons (pe_op op_sub (pe_un un_neg pe_int) (pv 3)) pa_nil))))) (pss_one (ps_ret pe_bl)) pss_nil) (pss_cons (ps_set (i := 7) sc_law.nd rfl (Or.inl rfl) (pe_cl (ok_l_one W) (hr.mono (by decide)) (by rfl) pass0 (pa_cons (pv 2) (pa_cons (pe_lst (pa_cons pe_non (pa_cons pe_bl (pa_cons pe_str (pa_cons (pe_lst pa_nil) (pa_cons pe_dnewK (pa_cons (pe_tup (pa_cons pe_int pa_nil)) pa_nil))))))) pa_nil)))) (pss_one (ps_if (PW.pt (pw_or (pt_not (pt_val (pe_cl (ok_l_refused W) (hr.mono (by decide)) (by rfl) pass0 (pa_cons (pe_glob (v := .ref (He.ga K "write_number")) rfl (g_write_number W) rfl) (pa_cons (pv 7) pa_nil))))) (pw_or1 (pt_not (pt_val (pe_cl (ok_l_refused W) (hr.mono (by decide)) (by rfl) pass0 (pa_cons (pe_glob (v := .ref (He.ga K "write_signed")) rfl (g_write_signed W) rfl) (pa_cons (pv 7) pa_nil)))))))) (pss_one (ps_ret pe_bl)) pss_nil))))))))))) (pss_one (ps_ret pe_bl))), ?_⟩
    refine ⟨.ref a, rfl, 10, rfl, a, _, rfl, hS, fun p1 n1 => ?_⟩
    refine ⟨by show 1 ≤ sizeLine; decide, fun p2 n2 => ?_⟩
    refine ⟨p1, p2, _, _, rfl, rfl, up upd_same n2, upd_same, ?_, fun p3 n3 => ?_⟩
    · have h1 : (cutV (ns.map V.int) none (some 10)).length ≤ 63 := Nat.le_trans cut_len (by rw [List.length_map]; exact hlen)
      show _ + 1 ≤ sizeLine
      rw [sizeLine_eq]
      omega
    refine ⟨p3, rfl, ⟨_, SqL.of upd_same⟩, for_list (K := K) (a := p3) (xs := cutV (ns.map V.int) none (some 10) ++ [V.int 0]) (fun i σ H2 => ∃ x1 x2 x3 x4 x5 x6 x7, σ = [some (.ref a), x1, x2, x3, x4, x5, x6, x7] ∧ H2 p3 = some (.lst (cutV (ns.map V.int) none (some 10) ++ [V.int 0])))
      ⟨_, _, _, _, _, _, _, rfl, upd_same⟩ (fun i σ H2 _ hP => by obtain ⟨_, _, _, _, _, _, _, _, e⟩ := hP; exact SqL.of e) ?_ ?_⟩
    · rintro i x σ H2 hi ⟨x1, x2, x3, x4, x5, x6, x7, rfl, e3⟩
      obtain ⟨c, rfl⟩ := cell_int (get_mem hi)
      generalize hcells : (HO.lst (cutV (ns.map V.int) none (some 10) ++ [V.int 0])) = cells at e3 ⊢
      refine ⟨.int c, rfl, c, rfl, fun w nw => ?_⟩
      have W0 : Well (upd H2 w (.lst [.int c, .int 0])) w := ⟨_, _, upd_same⟩
      have e3' := up e3 nw (u := .lst [.int c, .int 0])
      have n3w : p3 ≠ w := ne_of_none e3 nw
      refine ⟨.ref w, rfl, .ref w, rfl, 2, 31, rfl, rfl, ⟨by decide, by decide, by decide⟩, 10, 40, rfl, rfl, ⟨by decide, by decide, by decide⟩, by show 5 ≤ sizeLine; decide, fun l nl => ?_⟩
      refine ⟨w, l, _, rfl, W0.new nl, W0.ne nl, upd_same, by simp, by simp, fun j x H3 gj D3 => ?_⟩
      obtain ⟨m, rfl, m0, mM⟩ : ∃ m : Int, x = .int m ∧ 0 < m ∧ m < 2 ^ 200 := by
        have hx := get_mem gj
        simp only [List.mem_cons, List.not_mem_nil, or_false] at hx
        rcases hx with rfl | rfl | rfl | rfl | rfl
        · exact ⟨_, rfl, by decide, by decide⟩
        · exact ⟨_, rfl, by decide, by decide⟩
        · exact ⟨_, rfl, by decide, by decide⟩
        · exact ⟨_, rfl, by decide, by decide⟩
        · exact ⟨_, rfl, by decide, by decide⟩
      have q3 := D3.at (up e3' nl) n3w
      refine ⟨w, m, rfl, D3.w, m0, mM, fun d H4 d0 dm D4 => ?_⟩
      have q4 := D4.at q3 n3w
      obtain ⟨dn, rfl⟩ : ∃ dn : Nat, d = dn := ⟨d.toNat, by omega⟩
      have dn2 : dn < 2 ^ 200 := by omega
      refine ⟨fun σ H5 => ∃ (n : Nat) (x4 x5 x6 x7 : Option V), σ = [some (.ref a), some (.int c), some (.ref w), some (.int n), x4, x5, x6, x7] ∧ n < 64 ^ 1199 ∧ Well H5 w ∧ H5 p3 = some cells, ?_, ?_⟩
      · refine ⟨.ref w, rfl, w, 9, rfl, D4.w, by decide, by decide, fun d5 H5 a0 a1 D5 => ?_⟩
        refine ⟨rfl, _, rfl, ?_⟩
        refine ite_b (fun _ => ?_) (fun _ => ?_)
        · refine ⟨_, rfl, 10, 60, rfl, rfl, ⟨by decide, by decide, by decide⟩, _, 33, rfl, rfl, ⟨by decide, by decide +kernel⟩, _, _, rfl, rfl, ?_⟩
          refine ⟨dn + ((10 ^ 60) ^ 33), x4, x5, x6, x7, ?_, big_ok dn2, D5.w, D5.at q4 n3w⟩
          have e : ((dn : Int) + ((10 ^ (60 : Int).toNat) ^ (33 : Int).toNat)) = ((dn + ((10 ^ 60) ^ 33) : Nat) : Int) := by
            rw [Int.natCast_add, Int.natCast_pow, Int.natCast_pow]
            rfl
          show [some (V.ref a), some (V.int c), some (V.ref w), some (V.int ((dn : Int) + ((10 ^ (60 : Int).toNat) ^ (33 : Int).toNat))), x4, x5, x6, x7] = _
          rw [e]
        · exact ⟨dn, _, _, _, _, rfl, small_ok dn2, D5.w, D5.at q4 n3w⟩
      · rintro σ H5 ⟨n, x4, x5, x6, x7, rfl, hn, W5, q5⟩
        have hg : (groups n).length ≤ 100000 := gl (Nat.lt_trans hn (by decide +kernel))
        refine ⟨_, rfl, .int n, _, rfl, .int _, fun i ei => ?_, fun hne => absurd rfl (hne n)⟩
        obtain rfl : n = i := by
          have := v_int_inj ei
          omega
        refine ⟨hg, fun H6 S6 => ?_⟩
        refine ⟨_, rfl, by show 2 ≤ sizeLine; decide, fun t nt => ⟨by show 1 ≤ sizeLine; decide, fun l nl => ?_⟩⟩
        refine ⟨l, t, _, .int 1, rfl, upd_same, up upd_same nl, fun p np => ?_⟩
        refine ⟨_, rfl, p, _, .int 1, rfl, rfl, upd_same, rfl, _, rfl, ?_⟩
        refine ite_n (fun z => absurd rfl z) (fun _ => ?_)
        refine ⟨_, rfl, _, rfl, _, rfl, size_ok hg, fun q nq => ?_⟩
        refine ⟨_, q, _, rfl, rfl, SqT.of upd_same, _, rfl, ?_⟩
        refine iteF ?_
        refine ⟨_, rfl, _, rfl, size_ok hg, fun l2 nl2 => ?_⟩
        refine ⟨l2, n, rfl, by rw [upd_same, bi_groups], hg, fun H7 S7 => ?_⟩
        refine ⟨_, rfl, rfl, _, rfl, ?_⟩
        refine ite_n (fun z => absurd rfl z) (fun _ => ?_)
        have SA : Same H5 H7 := ((((S6.trans (same_new nt)).trans (same_new nl)).trans (same_new np)).trans (same_new nq)).trans ((same_new nl2).trans S7)
        have W7 := wsame W5 SA
        have q7 := SA _ _ q5
        refine ⟨_, rfl, _, rfl, 0, n, rfl, rfl, by show 3 ≤ sizeLine; decide, fun l3 nl3 => ?_⟩
        refine ⟨l3, rfl, ⟨_, SqL.of upd_same⟩, for_list (K := K) (a := l3) (xs := [V.int n, V.int (0 - n), V.int 0]) (fun i σ H2 => ∃ (x5 x6 : Option V), σ = [some (.ref a), some (.int c), some (.ref w), some (.int n), some (.byt (byteArr (groups n))), x5, x6, x7] ∧ Well H2 w ∧ H2 p3 = some cells ∧ H2 l3 = some (.lst [V.int n, V.int (0 - n), V.int 0]))
          ⟨_, _, rfl, W7.new nl3, up q7 nl3, upd_same⟩ (fun i σ H2 _ hP => by obtain ⟨_, _, _, _, _, e⟩ := hP; exact SqL.of e) ?_ ?_⟩
        · rintro i y σ H8 hi ⟨x5, x6, rfl, W8, q8, l8⟩
          obtain ⟨z, rfl, ez⟩ : ∃ z : Int, y = .int z ∧ (z = n ∨ z = 0 - n ∨ z = 0) := by
            have hy := get_mem hi
            simp only [List.mem_cons, List.not_mem_nil, or_false] at hy
            rcases hy with rfl | rfl | rfl
            · exact ⟨_, rfl, .inl rfl⟩
            · exact ⟨_, rfl, .inr (.inl rfl)⟩
            · exact ⟨_, rfl, .inr (.inr rfl)⟩
          have hgz := gl2 hn ez
          refine ⟨fun σ H9 => H9 = H8 ∧ σ = [some (.ref a), some (.int c), some (.ref w), some (.int n), some (.byt (byteArr (groups n))), some (.int z), some (.int (fold2 z)), x7], ?_, ?_⟩
          · refine ⟨_, rfl, z, 0, rfl, rfl, _, rfl, ?_⟩
            refine ite_b (fun h0 => ?_) (fun h0 => ?_)
            · refine ⟨_, rfl, 2, z, rfl, rfl, mul_ok (by decide) (by decide), rfl, ?_⟩
              have e : ((fold2 z : Nat) : Int) = 2 * z := by
                unfold fold2
                rw [if_pos h0]
                omega
              rw [e]
              rfl
            · refine ⟨_, rfl, 2, z, rfl, rfl, mul_ok (by decide) (by decide), 1, _, rfl, rfl, rfl, ?_⟩
              have e : ((fold2 z : Nat) : Int) = 1 - 2 * z := by
                unfold fold2
                rw [if_neg h0]
                omega
              rw [e]
              rfl
          · rintro σ H9 ⟨rfl, rfl⟩
            refine ⟨_, rfl, .int z, _, rfl, .int _, fun j ej => ?_, fun hne => absurd rfl (hne z)⟩
            obtain rfl : z = j := v_int_inj ej
            refine ⟨hgz, fun H10 S10 => ?_⟩
            refine ⟨_, rfl, size_ok hgz, fun l4 nl4 => ?_⟩
            refine ⟨l4, fold2 z, rfl, by rw [upd_same, bi_groups], hgz, fun H11 S11 => ?_⟩
            refine ⟨_, rfl, rfl, _, rfl, ?_⟩
            refine ite_n (fun z => absurd rfl z) (fun _ => ?_)
            have SB : Same H9 H11 := S10.trans ((same_new nl4).trans S11)
            exact ⟨_, _, rfl, wsame W8 SB, SB _ _ q8, SB _ _ l8⟩
        · rintro σ H8 ⟨x5, x6, rfl, W8, q8, l8⟩
          refine ⟨1, rfl, _, rfl, -1, n, rfl, rfl, He.ga K "write_number", sp_wn K, .int (-1 - n), rfl, .inl ⟨rfl, rfl⟩, fun Q E hE => ⟨.int _, _, rfl, .int _, fun i ei => absurd (v_int_inj ei) (by omega), fun _ => hE⟩, fun H' _ => selfy_int, fun H9 S9 => ?_⟩
          refine ⟨_, rfl, ?_⟩
          refine iteF ?_
          have W9 := wsame W8 S9
          have q9 := S9 _ _ q8
          refine ⟨.ref w, rfl, by show 0 ≤ sizeLine; decide, fun u1 n1 => fun u2 n2 => ⟨by show 1 ≤ sizeLine; decide, fun u3 n3 => ⟨by show 6 ≤ sizeLine; decide, fun l nl => ?_⟩⟩⟩
          have WA := ((W9.new (o := .lst []) n1).new (o := .dK []) n2).new (o := .tup [.int 1]) n3
          refine ⟨w, l, _, rfl, WA.new nl, WA.ne nl, upd_same, by simp, by simp, fun j x H10 gj D10 => ?_⟩
          have vx : ∃ m, VT H10 x m ∧ (∀ i : Int, x ≠ .int i) ∧ ∀ H', Same H10 H' → Selfy K H' x := by
            have hx := get_mem gj
            simp only [List.mem_cons, List.not_mem_nil, or_false] at hx
            rcases hx with rfl | rfl | rfl | rfl | rfl | rfl
            · exact ⟨_, .non, (fun i z => nomatch z), fun _ _ => selfy_non⟩
            · exact ⟨_, .bl _, (fun i z => nomatch z), fun _ _ => selfy_bl⟩
            · exact ⟨_, .str _, (fun i z => nomatch z), fun _ _ => selfy_str⟩
            · have h := D10.at (up (up (up (upd_same (a := u1)) n2) n3) nl) (W9.ne n1)
              exact ⟨_, .lst h, (fun i z => nomatch z), fun _ s => selfy_nil (s _ _ h)⟩
            · have h := D10.at (up (up (upd_same (a := u2)) n3) nl) ((W9.new n1).ne n2)
              exact ⟨_, .dic h, (fun i z => nomatch z), fun _ s => .inr ⟨_, rfl, s _ _ h⟩⟩
            · have h := D10.at (up (upd_same (a := u3)) nl) (((W9.new n1).new n2).ne n3)
              exact ⟨_, .tup h, (fun i z => nomatch z), fun _ s => selfy_one (s _ _ h)⟩
          obtain ⟨m, tx, nx, sx⟩ := vx
          refine ⟨x, rfl, He.ga K "write_number", sp_wn K, x, rfl, .inl ⟨rfl, rfl⟩, fun Q E hE => ⟨x, m, rfl, tx, fun i ei => absurd ei (nx i), fun _ => hE⟩, sx, fun H11 S11 => ?_⟩
          refine ⟨_, rfl, ?_⟩
          refine iteF ?_
          refine ⟨x, rfl, He.ga K "write_signed", sp_ws K, x, rfl, .inr ⟨rfl, rfl⟩, fun Q E hE => ⟨x, m, rfl, tx.same S11, fun i ei => absurd ei (nx i), fun _ => hE⟩, (fun H' s => sx H' (S11.trans s)), fun H12 S12 => ?_⟩
          refine ⟨_, rfl, ?_⟩
          refine iteF ?_
          exact ⟨_, _, _, _, _, _, _, rfl, S12 _ _ (S11 _ _ (D10.at (up (up (up (up q9 n1) n2) n3) nl) n3w))⟩
    · rintro σ H2 ⟨x1, x2, x3, x4, x5, x6, x7, rfl, e3⟩
      exact k H2
/-! ### the head -/
abbrev R : PySem.W.OpenRow := PySem.W.OpenLaw.row PySem.Challenge.rw_codespans_k02_numbers_written
def names0 : List Str := ["TableError", "BadCount", "is_int", "write_number", "write_signed", "_law_cell_at", "_law_well", "_law_draw", "_law_one", "_law_number", "_law_refused"]
abbrev names : List Str := names0
def ob (s : PySem.W.SharedT) : LookT := lookAt fa fn ex (partOf 4 (HandSHeadRun.getT s))
theorem run (w : World) : HandSHeadRun.RunEq R (PySem.W.view R.prog [15]) (hk 4 fa fn ex) ob 4000 names w := by
  intro os
  kernel_rfl
end K02
namespace K02
open PySem PySem.Spec PyProof.Rows L2 Lay
theorem law_facts {P : Program} {w : World} {K : PySem.W.Frag} {h : Heap} {mg : Str → Option Value} {f : Addr} (X : K.In h) (G : h.Ns mainGlobals mg) (hfa : mg ("law" : Str) = some (.ref f)) (c : Told fa fn ex K) :
    ∃ fd : FuncData, (∀ (s : Shared) (v : Value), BindsTo s fd ⟨[v], []⟩ [("_law_script", v)]) ∧ ∀ base : Heap, K.In base → base.Ns mainGlobals mg → FnOk P w K mg base CX0 6 f fd ["_law_script"] (sp_law K) := by
  have W : Wd K mg := ⟨⟨h, X, G⟩, c⟩
  obtain ⟨fd, F⟩ := F_law W
  have e := hfa.symm.trans (g_law W)
  cases e
  have b := FunD.bindsA (ps := ["_law_script"]) F fun _ _ _ _ _ _ us hl => match us, hl with | [_], _ => rfl
  exact ⟨fd, fun s v => b s [v] rfl, fun base _ _ => fn_law W F⟩
end K02
open PySem PySem.W PySem.Calls PyProof.Rows
set_option maxRecDepth 100000 in
set_option maxHeartbeats 0 in
theorem PySem.Challenge.cw_codespans_k02_numbers_written_holds : PySem.Challenge.rw_codespans_k02_numbers_written.Holds := by
  w_on; o_law
  refine HandSHeadRun.head_any (r := OpenLaw.row PySem.Challenge.rw_codespans_k02_numbers_written) (q := view (OpenLaw.row PySem.Challenge.rw_codespans_k02_numbers_written).prog [15]) (H := Lay.hk 4 K02.fa K02.fn K02.ex) (ob := K02.ob) (M := 4000) (loose := K02.names) (d := HandSHeadRun.topDef (OpenLaw.row PySem.Challenge.rw_codespans_k02_numbers_written).prog 15) (kwd := []) (fun s => Lay.look_eq s)
    (by kernel_rfl) (fun s => by kernel_rfl) K02.run (by kernel_rfl) (by kernel_rfl) (by kernel_rfl) (by rfl) (by first | assumption | decide +kernel) (by decide +kernel) ⟨rfl, rfl, rfl, rfl, rfl, by decide +kernel⟩ ?hw ?hc
  case hw => w_witness2
  case hc =>
    refine L2.walk_ofE (l := PySem.Challenge.rw_codespans_k02_numbers_written) (n := 63) (k := 6) (x := "_law_script") (CX := L2.CX0) rfl (by decide) (by kernel_rfl) ⟨rfl, by decide, by decide⟩ ?F (fun _ _ _ _ z => z)
    intro w mg fa h Y G hmg0
    obtain ⟨K, KX, c⟩ := Y
    have hmg : mg ("law" : PySem.Str) = some (.ref fa) := by
      have e : (HandSHeadRun.topDef (OpenLaw.row PySem.Challenge.rw_codespans_k02_numbers_written).prog 15).name = ("law" : PySem.Str) := by kernel_rfl
      rw [← e]
      exact hmg0
    obtain ⟨fd, hb, hF⟩ := K02.law_facts (P := (PySem.Challenge.rw_codespans_k02_numbers_written).prog) (w := w) KX G hmg c
    exact ⟨K, fd, K02.sp_law K, KX, hb, fun H a ns hl _ hS => ⟨a, ns, rfl, hS, hl, fun _ => rfl⟩, hF⟩
