import PyProof.Rows.All
import Wide.All
import OpenK.AllK
import Wide.FinOn
import KE.KStateDown
import HandS.ForMost
import HandS.ForExc
import HandS.Defaults
import HandS.Wide
import HandS.IsInst
import HandS.Flow
import HandS.Style
import HandS.More
import HandS.NoneIn
import HandS.Head0
import HandS.Head1
import HandS.Head2
import HandS.HeadEnd
import HandS.HeadHook1
import HandS.HeadHook2
import HandS.HeadHook3
import HandS.HeadHook4
import HandS.HeadNt
import KE.KDictPairs
import HandS.ExcInit
import HandS.ExcField
import KE.BitLaws
import PyProof.Rows.RuleB_pow
import HandS.ExcValue
import HandS.ExcIs
import HandS.Comp
import PySem.Challenge.RW_codespans_k03_errors_apart
set_option Elab.async false
set_option linter.all false
set_option maxRecDepth 100000
set_option maxHeartbeats 0
namespace Lay
open PySem PySem.Spec PyProof.Rows L2
/-! ## the head's look: facts, defs, and one more Bool -/
abbrev LookT : Type := He.AlD × Bool
def lookAt (fa : List He.Fa) (fn : List He5.DefA) (ex : PySem.W.Frag → Bool) (K : PySem.W.Frag) : LookT := (He5.obsA fa fn K, ex K)
def partOf (n : Nat) (g : Addr → Option Obj) : PySem.W.Frag := He.frG g (He5.asA g n)
/-- what the walk knows of the written part -/
structure Told (fa : List He.Fa) (fn : List He5.DefA) (ex : PySem.W.Frag → Bool) (K : PySem.W.Frag) : Prop where
  a : He5.SaysA fa fn K
  b : ex K = true
theorem told_of {fa : List He.Fa} {fn : List He5.DefA} {ex : PySem.W.Frag → Bool} {K : PySem.W.Frag} (e : lookAt fa fn ex K = (He5.valA fn, true)) : Told fa fn ex K :=
  ⟨congrArg Prod.fst e, congrArg Prod.snd e⟩
def hk (n : Nat) (fa : List He.Fa) (fn : List He5.DefA) (ex : PySem.W.Frag → Bool) : PySem.W.Hook where
  α := LookT
  obs := fun s => lookAt fa fn ex (partOf n s.heap.get?)
  val := fun _ => (He5.valA fn, true)
  says := fun _ h => ∃ K : PySem.W.Frag, K.In h ∧ Told fa fn ex K
  of := fun _ _ e => ⟨_, He.frG_in, told_of e⟩
  keeps := fun _ _ _ h k => by
    obtain ⟨K, hK, c⟩ := h
    exact ⟨K, hK.keeps k, c⟩
theorem look_eq {n : Nat} {fa : List He.Fa} {fn : List He5.DefA} {ex : PySem.W.Frag → Bool} (s : PySem.W.SharedT) : lookAt fa fn ex (partOf n (HandSHeadRun.getT s)) = (hk n fa fn ex).obs s.abs := by
  have e : HandSHeadRun.getT s = s.abs.heap.get? := funext (HandSHeadRun.getT_eq s)
  show lookAt fa fn ex (partOf n (HandSHeadRun.getT s)) = lookAt fa fn ex (partOf n s.abs.heap.get?)
  rw [e]

/-! ## a def by its name -/
/-- the def that the module's name x holds keeps the promise sp -/
def FOk (P : Program) (w : World) (K : PySem.W.Frag) (mg : Str → Option Value) (base : Heap) (CX : CXT) (k : Nat) (x : Str) (ps : List Str) (sp : Sp) : Prop :=
  ∃ fd, FnOk P w K mg base CX k (He.ga K x) fd ps sp ∧ Binds K fd ps [] ∧ PySem.W.keepIn K (.ref (He.ga K x)) = true ∧ mg x = some (.ref (He.ga K x))
section
variable {P : Program} {w : World} {K : PySem.W.Frag} {mg : Str → Option Value} {base : Heap} {CX : CXT} {k : Nat} {x : Str} {ps : List Str} {sp : Sp}
theorem fok {params : Arguments} {body : List Stmt} {scope : Scope} (F : ∃ fd, FunD K x x params body scope [] [] (He.ga K x) fd) (g : mg x = some (.ref (He.ga K x)))
    (hb : ∀ (kV doc pm : Value) (an : Option Addr) (cdv ct : Value) (us : List Value), us.length = ps.length → bindArgs (PySem.W.fnOf x x params body scope .none kV doc pm an cdv ct) ⟨us, []⟩ = pure (ps.zip us))
    (h : ∀ fd, FunD K x x params body scope [] [] (He.ga K x) fd → FnOk P w K mg base CX k (He.ga K x) fd ps sp) : FOk P w K mg base CX k x ps sp := by
  obtain ⟨fd, F⟩ := F
  exact ⟨fd, h fd F, F.bindsN hb, F.kp, g⟩
variable {X : Cx} {E : XK} {e : Expr} {es : List Expr} {t : TA} {p pos : Pos}
theorem pe_cl (F : FOk X.prog X.w X.K X.mg X.base CX k x ps sp) (hr : Room k X.A) (hg : Gl X x) (hx : Passes CX X E) (ha : PA X (e :: es) t) (hdb : (x == ("__debug__" : Str)) = false := by decide)
    (he : starEach (e :: es) X.env = (false, eval e X.env) :: starEach es X.env := by rfl) (hpl : (backTo pos (starEach es X.env)).any (·.1) = false := by rfl) :
    PE X (.Call (.Name x p) (e :: es) [] pos) (tCall sp [] E t) := by
  obtain ⟨fd, F, b, kp, g⟩ := F
  exact pe_call F hr hg g kp b .nil hx ha hdb he hpl
end

/-! ## heaps: all but one object -/
/-- what was tracked, p apart, is as it was -/
def But (p : Addr) (H H' : Hp) : Prop := ∀ b o, H b = some o → b ≠ p → H' b = some o
theorem But.refl {p : Addr} {H : Hp} : But p H H := fun _ _ h _ => h
theorem But.trans {p : Addr} {H H1 H2 : Hp} (a : But p H H1) (b : But p H1 H2) : But p H H2 := fun c o h n => b c o (a c o h n) n
theorem But.upd {p : Addr} {H H1 : Hp} {o : HO} (a : But p H H1) : But p H (upd H1 p o) := fun c u h n => by
  rw [upd_ne n]
  exact a c u h n
theorem But.new {p q : Addr} {H H1 : Hp} {o : HO} (a : But p H H1) (h : H1 q = none) : But p H (L2.upd H1 q o) := fun c u hc n => by
  rw [upd_ne (ne_of_none (a c u hc n) h)]
  exact a c u hc n
theorem Same.but {p : Addr} {H H1 : Hp} (a : Same H H1) : But p H H1 := fun c o h _ => a c o h
theorem same_new {H : Hp} {p : Addr} {o : HO} (h : H p = none) : Same H (L2.upd H p o) := fun b u e => by
  rw [upd_ne (ne_of_none e h)]
  exact e
/-- the well of draws at p -/
def Well (H : Hp) (p : Addr) : Prop := ∃ a b : Int, H p = some (.lst [.int a, .int b])
/-- behind draws -/
structure Drawn (p : Addr) (H H' : Hp) : Prop where
  w : Well H' p
  b : But p H H'
theorem Drawn.refl {p : Addr} {H : Hp} (h : Well H p) : Drawn p H H := ⟨h, .refl⟩
theorem Drawn.trans {p : Addr} {H H1 H2 : Hp} (a : Drawn p H H1) (b : Drawn p H1 H2) : Drawn p H H2 := ⟨b.w, a.b.trans b.b⟩
theorem Well.new {p q : Addr} {H : Hp} {o : HO} (h : Well H p) (n : H q = none) : Well (L2.upd H q o) p := by
  obtain ⟨a, b, e⟩ := h
  exact ⟨a, b, by rw [upd_ne (ne_of_none e n)]; exact e⟩
theorem Drawn.new {p q : Addr} {H H1 : Hp} {o : HO} (d : Drawn p H H1) (n : H1 q = none) : Drawn p H (L2.upd H1 q o) := ⟨d.w.new n, d.b.new n⟩
theorem ite_b {c A B : Prop} [Decidable c] (h1 : c → A) (h2 : ¬ c → B) : if decide c = true then A else B := by
  by_cases h : c
  · rw [decide_eq_true h]; exact iteT (h1 h)
  · rw [decide_eq_false h]; exact iteF (h2 h)
end Lay
namespace Lay
open PySem PySem.Spec PyProof.Rows L2
/-- a statement, and the rest from a word between them -/
def tMid (t u : TS) : TS := fun D σ H => ∃ Mid : L2.St → Hp → Prop, t { D with nx := Mid } σ H ∧ ∀ σ' H', Mid σ' H' → u D σ' H'
theorem pss_mid {X : Cx} {st : Stmt} {rest : List Stmt} {t u : TS} (h1 : PS X st t) (h2 : PSs X rest u) : PSs X (st :: rest) (tMid t u) := by
  refine ⟨fun pins s σ H D I h => ?_⟩
  obtain ⟨Mid, hm, hu⟩ := h
  refine wpAny_execs_cons (wpAny_mono (h1.run pins s σ H _ I hm) (fun f s1 q => ?_) fun _ _ z => z)
  cases f with
  | next =>
    obtain ⟨σ1, H1, I1, q1⟩ := q
    exact h2.run pins s1 σ1 H1 D I1 (hu σ1 H1 q1)
  | ret v => exact q
  | brk => exact q
  | cont => exact q
theorem Drawn.tn {p a : Addr} {H H1 H2 : Hp} {o : HO} (d : Drawn p H H1) (n : H1 a = none) (d2 : Drawn p (L2.upd H1 a o) H2) : Drawn p H H2 := (d.new n).trans d2
theorem Well.ne {p a : Addr} {H : Hp} (h : Well H p) (n : H a = none) : a ≠ p := by
  obtain ⟨x, y, e⟩ := h
  exact (ne_of_none e n).symm
theorem get_mem {xs : List V} {i : Nat} {x : V} (h : xs[i]? = some x) : x ∈ xs := List.mem_of_getElem? h
theorem Drawn.at {p a : Addr} {H H1 : Hp} {o : HO} (d : Drawn p H H1) (e : H a = some o) (ne : a ≠ p) : H1 a = some o := d.b a o e ne
end Lay

namespace Lay
open PySem PySem.Spec PyProof.Rows L2
/-! ## what stands at a value -/
/-- a value and the name of its type -/
inductive VT (H : Hp) : V → String → Prop where
  | non : VT H .non "NoneType"
  | bl (b : Bool) : VT H (.bl b) "bool"
  | int (i : Int) : VT H (.int i) "int"
  | str (x : Str) : VT H (.str x) "str"
  | byt (b : Array UInt8) : VT H (.byt b) "bytes"
  | lst {a : Addr} {xs : List V} (e : H a = some (.lst xs)) : VT H (.ref a) "list"
  | tup {a : Addr} {xs : List V} (e : H a = some (.tup xs)) : VT H (.ref a) "tuple"
  | dic {a : Addr} {kvs : List (Key × V)} (e : H a = some (.dK kvs)) : VT H (.ref a) "dict"
section
variable {K : PySem.W.Frag} {H H' : Hp} {v : V} {n m : String} {b : Bool} {Q : VK}
theorem VT.tyx (h : VT H v n) : TyX K H v (.type n) := by
  cases h with
  | non => exact .base .non
  | bl b => exact .base (.bl b)
  | int i => exact .base (.int i)
  | str x => exact .base (.str x)
  | byt b => exact .byt b
  | lst e => exact .base (.lst e)
  | tup e => exact .base (.tup e)
  | dic e => exact .base (.dK e)
/-- a tracked object that stays, keeps its type -/
theorem VT.keep (h : VT H v n) (k : ∀ a o, v = .ref a → H a = some o → H' a = some o) : VT H' v n := by
  cases h with
  | non => exact .non
  | bl b => exact .bl b
  | int i => exact .int i
  | str x => exact .str x
  | byt b => exact .byt b
  | lst e => exact .lst (k _ _ rfl e)
  | tup e => exact .tup (k _ _ rfl e)
  | dic e => exact .dic (k _ _ rfl e)
theorem VT.same (h : VT H v n) (s : Same H H') : VT H' v n := h.keep fun a o _ e => s a o e
def isiB (n m : String) : Bool := n == m || (n == "bool" && m == "int")
theorem VT.kit (h : VT H v n) (hm : m = "int" ∨ m = "bool" ∨ m = "tuple" ∨ m = "list" ∨ m = "bytes") : kitB n m = some (isiB n m) := by
  rcases hm with rfl | rfl | rfl | rfl | rfl <;> cases h <;> decide +kernel
theorem VT.int_of (h : VT H v n) (e : n = "int") : ∃ i, v = .int i := by
  cases h <;> first | exact ⟨_, rfl⟩ | exact absurd e (by decide)
theorem VT.bl_of (h : VT H v n) (e : n = "bool") : ∃ i, v = .bl i := by
  cases h <;> first | exact ⟨_, rfl⟩ | exact absurd e (by decide)
theorem VT.tup_of (h : VT H v n) (e : n = "tuple") : ∃ a xs, v = .ref a ∧ H a = some (.tup xs) := by
  cases h <;> first | exact ⟨_, _, rfl, by assumption⟩ | exact absurd e (by decide)
theorem rd_isi (h : VT H v n) (hm : m = "int" ∨ m = "bool" ∨ m = "tuple" ∨ m = "list" ∨ m = "bytes") (q : Q (.bl (isiB n m)) H) : rIsi K [v, .ty m] H Q :=
  ⟨v, .ty m, _, _, _, rfl, .ty m, h.tyx, kit_ty (h.kit hm), q⟩
end
/-! ## positions -/
structure Pos where
  l : Int
  e : Int
  c : Option Int
  d : Option Int
abbrev Span := Option Pos
def ov : Option Int → V
  | none => .non
  | some i => .int i
def Pos.vs (p : Pos) : List V := [.int p.l, .int p.e, ov p.c, ov p.d]
/-- the value v is the span s -/
def SpV (H : Hp) (v : V) : Span → Prop
  | none => v = .non
  | some p => ∃ a, v = .ref a ∧ H a = some (.tup p.vs)
structure Pos.ok (p : Pos) : Prop where
  l1 : 1 ≤ p.l
  le : p.l ≤ p.e
  eM : p.e ≤ 2147483647
  cd : (p.c = none ∧ p.d = none ∧ p.e = p.l) ∨ ∃ c d, p.c = some c ∧ p.d = some d ∧ 0 ≤ c ∧ c ≤ 2147483647 ∧ 0 ≤ d ∧ d ≤ 2147483647 ∧ (p.e = p.l → c ≤ d)
def SpanOk : Span → Prop
  | none => True
  | some p => p.ok
theorem SpV.keep {H H' : Hp} {v : V} {s : Span} (h : SpV H v s) (k : ∀ a o, v = .ref a → H a = some o → H' a = some o) : SpV H' v s := by
  cases s with
  | none => exact h
  | some p =>
    obtain ⟨a, e, q⟩ := h
    exact ⟨a, e, k a _ e q⟩
theorem ov_vt {H : Hp} (o : Option Int) : ∃ n, VT H (ov o) n := by
  cases o with
  | none => exact ⟨_, .non⟩
  | some i => exact ⟨_, .int i⟩
/-! ## is it a span -/
def inR (v : V) (lo hi : Int) : Bool := match v with
  | .int i => decide (lo ≤ i) && decide (i ≤ hi)
  | _ => false
def iv : V → Int
  | .int i => i
  | _ => 0
theorem inR_int {v : V} {lo hi : Int} (h : inR v lo hi = true) : ∃ i, v = .int i ∧ lo ≤ i ∧ i ≤ hi := by
  cases v with
  | int i =>
    have h2 : (decide (lo ≤ i) && decide (i ≤ hi)) = true := h
    rw [Bool.and_eq_true, decide_eq_true_eq, decide_eq_true_eq] at h2
    exact ⟨i, rfl, h2.1, h2.2⟩
  | _ => cases h
def span4 (l e c d : V) : Bool :=
  if inR l 1 2147483647 && inR e (iv l) 2147483647 then
    if c = .non ∧ d = .non then decide (iv e = iv l)
    else if inR c 0 2147483647 && inR d 0 2147483647 then decide (iv l < iv e) || decide (iv c ≤ iv d) else false
  else false
def spanB (H : Hp) (v : V) : Bool := match v with
  | .non => true
  | .ref a => match H a with
    | some (.tup [l, e, c, d]) => span4 l e c d
    | _ => false
  | _ => false
theorem spanB_ok {H : Hp} {v : V} {s : Span} (h : SpV H v s) (k : SpanOk s) : spanB H v = true := by
  cases s with
  | none =>
    have e : v = .non := h
    rw [e]
    rfl
  | some p =>
    obtain ⟨a, e, q⟩ := h
    have k' : p.ok := k
    obtain ⟨l1, le, eM, cd⟩ := k'
    have e2 : spanB H v = span4 (.int p.l) (.int p.e) (ov p.c) (ov p.d) := by
      rw [e]
      show (match H a with | some (.tup [l, e, c, d]) => span4 l e c d | _ => false) = _
      rw [q]
      rfl
    rw [e2]
    have h1 : inR (.int p.l) 1 2147483647 = true := by
      show (decide (1 ≤ p.l) && decide (p.l ≤ 2147483647)) = true
      simp only [Bool.and_eq_true, decide_eq_true_eq]
      omega
    have h2 : inR (.int p.e) (iv (.int p.l)) 2147483647 = true := by
      show (decide (p.l ≤ p.e) && decide (p.e ≤ 2147483647)) = true
      simp only [Bool.and_eq_true, decide_eq_true_eq]
      omega
    unfold span4
    rw [h1, h2, if_pos (show (true && true) = true from rfl)]
    rcases cd with ⟨hc, hd, hl⟩ | ⟨c, d, hc, hd, c0, cM, d0, dM, hcd⟩
    · rw [hc, hd]
      rw [if_pos ⟨rfl, rfl⟩]
      exact decide_eq_true hl
    · rw [hc, hd]
      rw [if_neg (fun z => by cases z.1)]
      have h3 : inR (ov (some c)) 0 2147483647 = true := by
        show (decide (0 ≤ c) && decide (c ≤ 2147483647)) = true
        simp only [Bool.and_eq_true, decide_eq_true_eq]
        omega
      have h4 : inR (ov (some d)) 0 2147483647 = true := by
        show (decide (0 ≤ d) && decide (d ≤ 2147483647)) = true
        simp only [Bool.and_eq_true, decide_eq_true_eq]
        omega
      rw [h3, h4, if_pos (show (true && true) = true from rfl)]
      show (decide (p.l < p.e) || decide (c ≤ d)) = true
      rw [Bool.or_eq_true, decide_eq_true_eq, decide_eq_true_eq]
      by_cases z : p.e = p.l
      · exact .inr (hcd z)
      · exact .inl (by omega)
end Lay
namespace Lay
open PySem PySem.Spec PyProof.Rows L2
theorem ite_n {c A B : Prop} [Decidable c] (h1 : ¬ c → A) (h2 : c → B) : if (!decide c) = true then A else B := by
  by_cases h : c
  · rw [decide_eq_true h]; exact iteF (h2 h)
  · rw [decide_eq_false h]; exact iteT (h1 h)
theorem isi_tup {n : String} (h : isiB n "tuple" = true) : n = "tuple" := by
  simp [isiB] at h
  exact h
theorem len4 {xs : List V} (h : xs.length = 4) : ∃ a b c d, xs = [a, b, c, d] := by
  match xs, h with
  | [a, b, c, d], _ => exact ⟨a, b, c, d, rfl⟩
theorem v_int_inj {i j : Int} (h : V.int i = V.int j) : i = j := by
  injection h
theorem spanB_tup {H : Hp} {a : Addr} {l e c d : V} (h : H a = some (.tup [l, e, c, d])) : spanB H (.ref a) = span4 l e c d := by
  show (match H a with | some (.tup [l, e, c, d]) => span4 l e c d | _ => false) = _
  rw [h]
theorem spanB_len {H : Hp} {a : Addr} {xs : List V} (h : H a = some (.tup xs)) (n : xs.length ≠ 4) : spanB H (.ref a) = false := by
  show (match H a with | some (.tup [l, e, c, d]) => span4 l e c d | _ => false) = _
  rw [h]
  match xs, n with
  | [], _ => rfl
  | [_], _ => rfl
  | [_, _], _ => rfl
  | [_, _, _], _ => rfl
  | [_, _, _, _], n => exact absurd rfl n
  | _ :: _ :: _ :: _ :: _ :: _, _ => rfl
theorem spanB_no {H : Hp} {v : V} {n : String} (h : VT H v n) (h1 : v ≠ .non) (h2 : isiB n "tuple" = false) : spanB H v = false := by
  cases h with
  | non => exact absurd rfl h1
  | tup e => exact absurd h2 (by decide)
  | lst e =>
    rename_i a xs
    show (match H a with | some (.tup [l, e, c, d]) => span4 l e c d | _ => false) = _
    rw [e]
  | dic e =>
    rename_i a xs
    show (match H a with | some (.tup [l, e, c, d]) => span4 l e c d | _ => false) = _
    rw [e]
  | _ => rfl
end Lay
namespace Lay
open PySem PySem.Spec PyProof.Rows L2
theorem up {H : Hp} {a b : Addr} {o u : HO} (e : H a = some o) (n : H b = none) : upd H b u a = some o := by
  rw [upd_ne (ne_of_none e n)]
  exact e
theorem mem_cut {xs : List V} {lo hi : Option Int} {x : V} (h : x ∈ cutV xs lo hi) : x ∈ xs := List.mem_of_mem_drop (List.mem_of_mem_take h)
/-- the cells that a law walks: some of the script's, and 0 -/
theorem cell_int {ns : List Int} {lo hi : Option Int} {x : V} (h : x ∈ cutV (ns.map V.int) lo hi ++ [V.int 0]) : ∃ i, x = .int i := by
  rcases List.mem_append.mp h with h | h
  · obtain ⟨i, _, e⟩ := List.mem_map.mp (mem_cut h)
    exact ⟨i, e.symm⟩
  · exact ⟨0, by simpa using h⟩
theorem cut_len {xs : List V} {lo hi : Option Int} : (cutV xs lo hi).length ≤ xs.length := by
  unfold cutV
  rw [List.length_take, List.length_drop]
  omega
theorem fr2 {H : Hp} {a b : Addr} {o : HO} (h : upd H a o b = none) : H b = none := by
  by_cases e : b = a
  · rw [e, upd_same] at h
    cases h
  · rw [upd_ne e] at h
    exact h
end Lay

namespace Lay
open PySem PySem.Spec PyProof.Rows L2
/-! ## a dict of one entry whose key is a bytes -/
def dictB (P : Program) (w : World) (z : Array UInt8) (v : V) (p : Addr) : HO := .ext fun h => ∃ u, RelV v u ∧ h.DictOf (PySem.W.bytesKind P w) p [(z.toList, u)]
/-- dict([(z, v)]) -/
def rDictB (P : Program) (w : World) : List V → Hp → VK → Prop := fun xs H Q => ∃ (a t : Addr) (z : Array UInt8) (v : V), xs = [.ref a] ∧ H a = some (.lst [.ref t]) ∧ H t = some (.tup [.byt z, v]) ∧ ∀ p, H p = none → Q (.ref p) (upd H p (dictB P w z v p))
/-- d[z] of such -/
def rIxB (P : Program) (w : World) : R2 := fun x y H Q => ∃ (p : Addr) (z : Array UInt8) (v : V), x = .ref p ∧ y = .byt z ∧ H p = some (dictB P w z v p) ∧ Q v H
section
variable {X : Cx}
theorem call_dictB (hc : X.calm = true) : CallR X (.type "dict") (rDictB X.prog X.w) := by
  intro pins s σ H xs us Q I r h
  obtain ⟨a, t, z, v, rfl, ha, ht, q⟩ := h
  obtain ⟨u, rfl, rx⟩ := vals1 r
  cases rx
  obtain ⟨_, its, n, rv, e⟩ : ObjOk X.prog X.w H s.heap a (.lst [.ref t]) := I.hok a _ ha
  obtain ⟨u1, rfl, r1⟩ := vals1 rv
  cases r1
  obtain ⟨_, jts, rt, et⟩ : ObjOk X.prog X.w H s.heap t (.tup [.byt z, v]) := I.hok t _ ht
  obtain ⟨u2, u3, rfl, ⟨tk, rfl⟩, r3⟩ := vals2 rt
  refine PySem.call_dict_pairs (knd := PySem.W.bytesKind X.prog X.w) (kvs := [(z.toList, u3)]) (PySem.PairArg.list (prog := X.prog) (w := X.w) a [Value.ref t].toArray (fun _ => t) [(Value.bytes z tk, u3)]) (I.ok.hd hc) ⟨⟨_, n, e, rfl, rfl, rfl⟩, rfl, fun j k v' hj => ?_⟩ ⟨rfl, fun i key v' hi => ?_⟩ (by show 1 ≤ sizeLine; decide) fun h' tk' hd' kk => ?_
  · cases j with
    | zero =>
      have e1 := Option.some.inj hj
      cases e1
      exact ⟨rfl, .inl et⟩
    | succ j => cases hj
  · have hi' : ([(Value.bytes z tk, u3)] : List (Value × Value))[i]? = some (key, v') := hi
    cases i with
    | zero =>
      have e1 := Option.some.inj hi'
      cases e1
      exact ⟨_, rfl, by show (z.toList == z.toList) = true; simp⟩
    | succ j => cases hi'
  · have hk : ∀ b o, s.heap.get? b = some o → h'.get? b = some o := fun b o eb => kk b o (by simp) eb
    have hm : merged ([] : List (List UInt8 × Value)) [(z.toList, u3)] = [(z.toList, u3)] := rfl
    rw [hm] at hd'
    have ob : ObjOk X.prog X.w (upd H s.heap.objs.size (dictB X.prog X.w z v s.heap.objs.size)) h' s.heap.objs.size (dictB X.prog X.w z v s.heap.objs.size) := by
      refine ⟨⟨u3, r3, hd'⟩, ?_, fun h1 h2 p kp => ?_⟩
      · obtain ⟨o, _, _, eo, _⟩ := hd'.mapOf
        exact ⟨o, eo⟩
      · obtain ⟨u, ru, hd⟩ := p
        exact ⟨u, ru, hd.at kp⟩
    exact ⟨.ref s.heap.objs.size, _, I.laid (t' := tk') hk (Nat.le_refl _) ob, rfl, q _ (I.hok.fresh (Nat.le_refl _))⟩
theorem ix_dictB : IxR X (rIxB X.prog X.w) := by
  intro value slice pins s σ H x y v u Q I rx ry h hs
  obtain ⟨p, z, v0, rfl, rfl, hp, q⟩ := h
  cases rx
  obtain ⟨tk, rfl⟩ := ry
  have ob : ObjOk X.prog X.w H s.heap p (dictB X.prog X.w z v0 p) := I.hok p _ hp
  obtain ⟨⟨u0, ru, hd⟩, _, _⟩ := ob
  refine tail_any hd.typeIs PySem.F.slot_dict_getitem.lookup ?_ hs
  refine wpAny_getItem_of (knd := PySem.W.bytesKind X.prog X.w) (k := z.toList) (v := u0) (by show (z.toList == z.toList) = true; simp) hd.mapOf ?_ ⟨v0, H, I.tok _, ru, q⟩
  simp [valueAt]
end
end Lay

namespace Lay
open PySem PySem.Spec PyProof.Rows L2
/-! ## own exception classes over ValueError, with an __init__ that stores its arguments -/
def oexB (K : PySem.W.Frag) (C : Addr) : Bool := (match K.lookup C with
    | some ⟨.type "type", _, .cls cd, sl⟩ => (match cd.mro, sl.toList with
      | .ref D :: bm, [_, _, _, _, some (.builtin n), _] => D == C && (n == "ValueError.__new__" && (!cd.hasDel && (cd.hasDict && PySem.HandSPX.refsVE bm)))
      | _, _ => false)
    | _ => false) && (He.eqO (PySem.W.findIn K (.ref C) "__setattr__") (some (some (.builtin "object.__setattr__"))) &&
  (decide (PySem.W.subIn K (.ref C) (.type "BaseException") = some true) && (decide (PySem.W.typeIn K (.ref C) = some (.type "type")) && PySem.W.keepIn K (.ref C))))
theorem oexB_ok {K : PySem.W.Frag} {C : Addr} (h : oexB K C = true) : OexC K C := by
  obtain ⟨h1, h⟩ := He.ba h
  obtain ⟨h2, h⟩ := He.ba h
  obtain ⟨h3, h⟩ := He.ba h
  obtain ⟨h4, h5⟩ := He.ba h
  refine ⟨?_, He.eqO_ok h2, of_decide_eq_true h3, of_decide_eq_true h4, h5⟩
  clear h2 h3 h4 h5
  split at h1
  · rename_i dd cd sl ho
    split at h1
    · rename_i D bm k0 k1 k2 k3 n k5 hm hs
      obtain ⟨a1, h1⟩ := He.ba h1
      obtain ⟨a2, h1⟩ := He.ba h1
      obtain ⟨a3, h1⟩ := He.ba h1
      obtain ⟨a4, a5⟩ := He.ba h1
      have e1 : D = C := by simpa using a1
      have e2 : n = "ValueError.__new__" := by simpa using a2
      subst e1 e2
      obtain ⟨nm, bs, mro, ns, qn, hd, sn, sub, ab, col, del⟩ := cd
      obtain ⟨l⟩ := sl
      have hm' : mro = Value.ref D :: bm := hm
      have hs' : l = [k0, k1, k2, k3, some (.builtin "ValueError.__new__"), k5] := hs
      have d1 : del = false := by simpa using a3
      have d2 : hd = true := a4
      subst hm' hs' d1 d2
      exact ⟨nm, qn, ns, bs, bm, sn, sub, ab, col, dd, k0, k1, k2, k3, k5, ho, a5⟩
    · cases h1
  · cases h1
/-- all that is asked of the exception class that the module's name x holds -/
def excB (K : PySem.W.Frag) (x : Str) (fs : List Str) : Bool := oexB K (He.ga K x) && (xfB K (He.ga K x) && (He.eqO (PySem.W.nsIn K mainGlobals x) (some (some (.ref (He.ga K x)))) &&
  (He.eqO (PySem.W.findIn K (.ref (He.ga K x)) "__init__") (some (some (.ref (He.ma K (He.ga K x) "__init__")))) && (decide (PySem.W.typeIn K (.ref (He.ma K (He.ga K x) "__init__")) = some (.type "function")) &&
    (decide (PySem.W.exmOne K (.ref (He.ga K x)) (.ref (He.ga K x)) = some true) && fs.all fun f => He.eqO (PySem.W.findIn K (.ref (He.ga K x)) f) (some none))))))
structure ExcF (K : PySem.W.Frag) (mg : Str → Option Value) (x : Str) (fs : List Str) : Prop where
  ox : OexC K (He.ga K x)
  xf : XfC K (He.ga K x)
  g : mg x = some (.ref (He.ga K x))
  ic : PySem.W.findIn K (.ref (He.ga K x)) "__init__" = some (some (.ref (He.ma K (He.ga K x) "__init__")))
  it : PySem.W.typeIn K (.ref (He.ma K (He.ga K x) "__init__")) = some (.type "function")
  self : PySem.W.exmOne K (.ref (He.ga K x)) (.ref (He.ga K x)) = some true
  no : ∀ f ∈ fs, PySem.W.findIn K (.ref (He.ga K x)) f = some none
theorem excF_of {K : PySem.W.Frag} {mg : Str → Option Value} {h : Heap} {x : Str} {fs : List Str} (X : K.In h) (G : h.Ns mainGlobals mg) (c : excB K x fs = true) : ExcF K mg x fs := by
  obtain ⟨c1, c⟩ := He.ba c
  obtain ⟨c2, c⟩ := He.ba c
  obtain ⟨c3, c⟩ := He.ba c
  obtain ⟨c4, c⟩ := He.ba c
  obtain ⟨c5, c⟩ := He.ba c
  obtain ⟨c6, c7⟩ := He.ba c
  exact ⟨oexB_ok c1, xfB_ok c2, PySem.W.mg_of X G (He.eqO_ok c3), He.eqO_ok c4, of_decide_eq_true c5, of_decide_eq_true c6, fun f hf => He.eqO_ok (List.all_eq_true.mp c7 f hf)⟩
/-- self.f = v, the first store of a fresh exception -/
def spInit1 (C : Addr) (f : Str) : Sp := fun vs H Q _ => ∃ (a : Addr) (v : V), vs = [.ref a, v] ∧ H a = some (exo a C none) ∧ ∀ dx, H dx = none → dx ≠ a → Q .non (upd (upd H dx (exd dx [(f, v)])) a (exo a C (some dx)))
def spInit2 (C : Addr) (f g : Str) : Sp := fun vs H Q _ => ∃ (a : Addr) (v u : V), vs = [.ref a, v, u] ∧ H a = some (exo a C none) ∧ ∀ dx, H dx = none → dx ≠ a → Q .non (upd (upd H dx (exd dx [(g, u), (f, v)])) a (exo a C (some dx)))
theorem del_new {H : Hp} {a d : Addr} {o u v : HO} (ha : H a = none) (n : d ≠ a) : upd (del (upd (upd (upd H a o) d u) a v) a) d u = upd H d u := by
  funext b
  by_cases h1 : b = d
  · subst h1
    rw [upd_same, upd_same]
  · rw [upd_ne h1, upd_ne h1]
    by_cases h2 : b = a
    · rw [h2, del_same, ha]
    · rw [del_ne h2, upd_ne h2, upd_ne h1, upd_ne h2]
theorem del_new' {H : Hp} {a d : Addr} {o u v w : HO} (ha : H a = none) (n : d ≠ a) : upd (del (upd (upd (upd H a o) d u) a v) a) d w = upd H d w := by
  rw [← del_new (o := o) (u := w) (v := v) ha n]
  funext b
  by_cases h1 : b = d
  · subst h1
    rw [upd_same, upd_same]
  · rw [upd_ne h1, upd_ne h1]
    by_cases h2 : b = a
    · rw [h2, del_same, del_same]
    · rw [del_ne h2, del_ne h2, upd_ne h2, upd_ne h2, upd_ne h1, upd_ne h1]
/-- C(e), C(e, e'): an exception whose dict d holds these -/
def tMk1 (C : Addr) (f : Str) (ta : TA) : L2.St → Hp → XK → Prop := fun σ H Q => ta σ H fun vs H1 => ∃ v, vs = [v] ∧ ∀ d, H1 d = none → Q (.ref C) (some d) (upd H1 d (.xd [(f, v)]))
def tMk2 (C : Addr) (f g : Str) (ta : TA) : L2.St → Hp → XK → Prop := fun σ H Q => ta σ H fun vs H1 => ∃ v u, vs = [v, u] ∧ ∀ d, H1 d = none → Q (.ref C) (some d) (upd H1 d (.xd [(g, u), (f, v)]))
/-- an argument list's reading may be widened -/
def MonoA (ta : TA) : Prop := ∀ σ H (Q Q' : List V → Hp → Prop), (∀ vs H', Q vs H' → Q' vs H') → ta σ H Q → ta σ H Q'
theorem PMk.imp {X : Cx} {e : Expr} {t t' : L2.St → Hp → XK → Prop} (h : PMk X e t) (i : ∀ σ H Q, t' σ H Q → t σ H Q) : PMk X e t' := fun pins s σ H Q I q => h pins s σ H Q I (i σ H Q q)
section
variable {X : Cx} {x f g : Str} {k : Nat} {fs : List Str} {p pos : PySem.Pos} {e e1 e2 : Expr} {ta : TA}
/-- the __init__ of x: as the caller needs it -/
def IOk (P : Program) (w : World) (K : PySem.W.Frag) (mg : Str → Option Value) (base : Heap) (k : Nat) (x : Str) (ps : List Str) (sp : Sp) : Prop :=
  ∃ fd, FnOk P w K mg base CX0 k (He.ma K (He.ga K x) "__init__") fd ps sp ∧ Binds K fd ps []
theorem pmk1 (T : ExcF X.K X.mg x fs) (I : IOk X.prog X.w X.K X.mg X.base k x ["self", f] (spInit1 (He.ga X.K x) f)) (hr : Room (k + 1) X.A) (hg : Gl X x) (mono : MonoA ta) (ha : PA X [e] ta) (hdb : (x == ("__debug__" : Str)) = false := by decide)
    (he : starEach [e] X.env = (false, eval e X.env) :: starEach [] X.env := by rfl) (hpl : (backTo pos (starEach [] X.env)).any (·.1) = false := by rfl) : PMk X (.Call (.Name x p) [e] [] pos) (tMk1 (He.ga X.K x) f ta) := by
  obtain ⟨fd, F, b⟩ := I
  refine PMk.imp (pmk_oex T.ox T.ic T.it F hr b .nil (fun _ _ _ _ _ _ _ z => z.elim) hg T.g ha hdb he hpl) fun σ H Q h => ?_
  refine mono σ H _ _ (fun vs H1 hq => ?_) h
  obtain ⟨v, rfl, q⟩ := hq
  refine ⟨by show 1 ≤ 1000; decide, fun a na => ⟨a, v, rfl, upd_same, fun dx ndx ne => ⟨rfl, dx, [(f, v)], upd_same, ?_, fr2 ndx, ?_⟩⟩⟩
  · rw [upd_ne ne, upd_same]
  · rw [del_new' na ne]
    exact q dx (fr2 ndx)
theorem pmk2 (T : ExcF X.K X.mg x fs) (I : IOk X.prog X.w X.K X.mg X.base k x ["self", f, g] (spInit2 (He.ga X.K x) f g)) (hr : Room (k + 1) X.A) (hg : Gl X x) (mono : MonoA ta) (ha : PA X [e1, e2] ta) (hdb : (x == ("__debug__" : Str)) = false := by decide)
    (he : starEach [e1, e2] X.env = (false, eval e1 X.env) :: starEach [e2] X.env := by rfl) (hpl : (backTo pos (starEach [e2] X.env)).any (·.1) = false := by rfl) : PMk X (.Call (.Name x p) [e1, e2] [] pos) (tMk2 (He.ga X.K x) f g ta) := by
  obtain ⟨fd, F, b⟩ := I
  refine PMk.imp (pmk_oex T.ox T.ic T.it F hr b .nil (fun _ _ _ _ _ _ _ z => z.elim) hg T.g ha hdb he hpl) fun σ H Q h => ?_
  refine mono σ H _ _ (fun vs H1 hq => ?_) h
  obtain ⟨v, u, rfl, q⟩ := hq
  refine ⟨by show 2 ≤ 1000; decide, fun a na => ⟨a, v, u, rfl, upd_same, fun dx ndx ne => ⟨rfl, dx, [(g, u), (f, v)], upd_same, ?_, fr2 ndx, ?_⟩⟩⟩
  · rw [upd_ne ne, upd_same]
  · rw [del_new' na ne]
    exact q dx (fr2 ndx)
/-- the wish of a def about what it raises -/
theorem passE {X : Cx} {W : WX} {E : XK} (tk : Takes X W) (hW : ∀ cls d σ H, E cls d H → W cls d σ H) : Passes (L2.CX X.prog X.w) X E := passes_call tk hW
end
theorem mono_nil : MonoA tNil := fun _ _ _ _ i h => i _ _ h
theorem mono_cons {ta : TE} {tr : TA} (h : ∀ σ H (Q Q' : VK), (∀ v H', Q v H' → Q' v H') → ta σ H Q → ta σ H Q') (hr : MonoA tr) : MonoA (tCons ta tr) := fun σ H Q Q' i q =>
  h σ H _ _ (fun x H1 q1 => hr σ H1 _ _ (fun xs H2 q2 => i _ _ q2) q1) q
theorem mono_var {i : Nat} : ∀ σ H (Q Q' : VK), (∀ v H', Q v H' → Q' v H') → tVar i σ H Q → tVar i σ H Q' := fun _ _ _ _ m h => by
  obtain ⟨v, e, q⟩ := h
  exact ⟨v, e, m _ _ q⟩
theorem mono_c {v : V} : ∀ σ H (Q Q' : VK), (∀ v H', Q v H' → Q' v H') → tC v σ H Q → tC v σ H Q' := fun _ _ _ _ m h => m _ _ h
theorem mono_un {r : V → Hp → VK → Prop} {ta : TE} (hr : ∀ x H (Q Q' : VK), (∀ v H', Q v H' → Q' v H') → r x H Q → r x H Q') (h : ∀ σ H (Q Q' : VK), (∀ v H', Q v H' → Q' v H') → ta σ H Q → ta σ H Q') :
    ∀ σ H (Q Q' : VK), (∀ v H', Q v H' → Q' v H') → tUn r ta σ H Q → tUn r ta σ H Q' := fun σ H _ _ m q => h σ H _ _ (fun x H1 q1 => hr x H1 _ _ m q1) q
theorem mono_neg {ta : TE} (h : ∀ σ H (Q Q' : VK), (∀ v H', Q v H' → Q' v H') → ta σ H Q → ta σ H Q') : ∀ σ H (Q Q' : VK), (∀ v H', Q v H' → Q' v H') → tUn (rU fun i => V.int (-i)) ta σ H Q → tUn (rU fun i => V.int (-i)) ta σ H Q' :=
  mono_un (fun _ _ _ _ m h => by
    obtain ⟨i, e, q⟩ := h
    exact ⟨i, e, m _ _ q⟩) h
theorem upd_swap {H : Hp} {a d : Addr} {o1 o2 o3 : HO} (n : d ≠ a) : upd (upd (upd H d o1) a o2) d o3 = upd (upd H d o3) a o2 := by
  funext b
  by_cases h1 : b = d
  · subst h1
    rw [upd_same, upd_ne n, upd_same]
  · by_cases h2 : b = a
    · subst h2
      rw [upd_ne h1, upd_same, upd_same]
    · rw [upd_ne h1, upd_ne h2, upd_ne h1, upd_ne h2, upd_ne h1]
/-- a call of the def that slot i holds, within a try -/
def Held (P : Program) (w : World) (K : PySem.W.Frag) (mg : Str → Option Value) (base : Heap) (k : Nat) (f : Addr) (sp : Sp) : Prop :=
  ∃ (fd : FuncData) (ps : List Str), FnOk P w K mg base (L2.CX P w) k f fd ps sp ∧ PySem.W.keepIn K (.ref f) = true ∧ Binds K fd ps []
def tCallLS (i : Nat) (S : Addr → Sp → Prop) (W : WX) (t : TA) : TE := fun σ H Q => ∃ f sp, σ[i]? = some (some (.ref f)) ∧ S f sp ∧ t σ H fun vs H1 => sp vs H1 Q (WE W σ)
theorem pe_lcl {X : Cx} {S : Addr → Sp → Prop} {W : WX} {k i : Nat} {x : Str} {p pos : PySem.Pos} {e : Expr} {es : List Expr} {t : TA} (A : ∀ f sp, S f sp → Held X.prog X.w X.K X.mg X.base k f sp) (hr : Room k X.A) (tk : Takes X W) (hN : X.N[i]? = some x) (hv : Vis X.env.scope x) (ha : PA X (e :: es) t)
    (hdb : (x == ("__debug__" : Str)) = false := by decide) (hcd : (x == ("__classdict__" : Str)) = false := by decide)
    (he : starEach (e :: es) X.env = (false, eval e X.env) :: starEach es X.env := by rfl) (hpl : (backTo pos (starEach es X.env)).any (·.1) = false := by rfl) : PE X (.Call (.Name x p) (e :: es) [] pos) (tCallLS i S W t) := by
  refine ⟨fun pins s σ H Q I h => ?_⟩
  obtain ⟨f, sp, hs, hS, ht⟩ := h
  obtain ⟨fd, ps, F, hk, hb⟩ := A f sp hS
  have hvar := (pe_var (pos := p) hN hv hdb hcd).run pins s σ H (fun v H1 => v = .ref f ∧ H1 = H) I ⟨.ref f, hs, rfl, rfl⟩
  refine wpAny_Call_Name_kw (thn hvar fun u s1 hu => ?_)
  obtain ⟨v, H1, I1, r1, e1, e2⟩ := hu
  subst e1 e2
  cases r1
  refine PySem.W.callWith_K (h₀ := X.base) I.ok.mod.kin hk (thn (ha.run pos pins s1 σ _ _ I1 ht) fun us s2 hq => ?_) he hpl
  obtain ⟨vs, H2, I2, r, q⟩ := hq
  exact ⟨I2.kIn, run_fnS (E := WE W) F hr hb (passAt tk σ) I2 r q⟩
end Lay

namespace Lay
open PySem PySem.Spec PyProof.Rows L2
def CPowW (i j : Int) : Prop := 0 ≤ j ∧ (Builtin.Int.intBits i : Int) * j ≤ 2 ^ 27
theorem op_powW {X : Cx} : OpR X (binaryOp .Pow) (rI CPowW fun i j => .int (i ^ j.toNat)) := opI fun _ _ _ _ _ _ _ hc q => pow_int hc.1 hc.2 q
/-- for i, x in enumerate(xs) -/
theorem for_enum {K : PySem.W.Frag} {a : Addr} {xs : List V} {g : TG} {tb : TS} {D : Ends} {σ : L2.St} {H : Hp} (Pv : Nat → L2.St → Hp → Prop) (h0 : Pv 0 σ H) (hl : ∀ i σ H, i ≤ xs.length → Pv i σ H → SqL K H a xs)
    (hs : ∀ (i : Nat) x T σ H, xs[i]? = some x → Pv i σ H → H T = none → g (.ref T) σ (upd H T (.tup [.int (i : Int), x])) fun σ2 H2 => tb { D with nx := Pv (i + 1), ct := Pv (i + 1), bk := D.nx } σ2 H2) (hd : ∀ σ H, Pv xs.length σ H → D.nx σ H) :
    ∃ W : Nat → Nat → L2.St → Hp → Prop, (∃ m, W 0 m σ H) ∧ ∀ i m σ H, W i m σ H →
      ((Ite K a).stop i H ∧ D.nx σ H) ∨ ((Ite K a).go i H ∧ ∃ N : L2.St → Hp → Prop, (∀ σ' H', N σ' H' → ∃ m', m' < m ∧ W (i + 1) m' σ' H') ∧ ∀ x H', (Ite K a).yld i H x H' → g x σ H' fun σ2 H2 => tb { D with nx := N, ct := N, bk := D.nx } σ2 H2) := by
  refine ⟨fun i m σ H => m + i = xs.length ∧ Pv i σ H, ⟨xs.length, by omega, h0⟩, fun i m σ H hW => ?_⟩
  obtain ⟨e, p⟩ := hW
  have q := hl i σ H (by omega) p
  by_cases hi : i < xs.length
  · have g1 : xs[i]? = some xs[i] := List.getElem?_eq_getElem hi
    refine .inr ⟨⟨xs, xs[i], q, g1⟩, Pv (i + 1), fun σ' H' p' => ⟨m - 1, by omega, by omega, p'⟩, fun v H' y => ?_⟩
    obtain ⟨T, x, rfl, nT, rfl, f⟩ := y
    have ex : x = xs[i] := Option.some.inj ((f xs q).symm.trans g1)
    rw [ex]
    exact hs i xs[i] T σ H g1 p nT
  · have ei : i = xs.length := by omega
    subst ei
    exact .inl ⟨⟨xs, q, Nat.le_refl _⟩, hd σ H p⟩
/-! ## numbers in groups of six bits -/
def groups (n : Nat) : List Int := if n < 64 then [(n : Int)] else ((64 + n % 64 : Nat) : Int) :: groups (n / 64)
termination_by n
decreasing_by omega
theorem groups_small {n : Nat} (h : n < 64) : groups n = [(n : Int)] := by
  rw [groups, if_pos h]
theorem groups_more {n : Nat} (h : ¬ n < 64) : groups n = ((64 + n % 64 : Nat) : Int) :: groups (n / 64) := by
  rw [groups, if_neg h]
theorem groups_pos (n : Nat) : 0 < (groups n).length := by
  by_cases h : n < 64
  · rw [groups_small h]; exact Nat.one_pos
  · rw [groups_more h]; exact Nat.succ_pos _
theorem groups_range (n : Nat) : ∀ g ∈ groups n, 0 ≤ g ∧ g < 128 := by
  induction n using Nat.strongRecOn with
  | ind n ih =>
    intro g hg
    by_cases h : n < 64
    · rw [groups_small h] at hg
      have e : g = (n : Int) := by simpa using hg
      rw [e]
      omega
    · rw [groups_more h] at hg
      rcases List.mem_cons.mp hg with e | hg
      · rw [e]
        omega
      · exact ih (n / 64) (by omega) g hg
theorem groups_len (k : Nat) : ∀ n : Nat, n < 64 ^ (k + 1) → (groups n).length ≤ k + 1 := by
  induction k with
  | zero =>
    intro n h
    rw [groups_small (by simpa using h)]
    exact Nat.le_refl _
  | succ k ih =>
    intro n h
    by_cases h0 : n < 64
    · rw [groups_small h0]
      show 1 ≤ _
      omega
    · rw [groups_more h0, List.length_cons]
      have h1 : n / 64 < 64 ^ (k + 1) := by
        rw [Nat.pow_succ] at h
        exact Nat.div_lt_of_lt_mul (by rw [Nat.mul_comm]; exact h)
      have := ih _ h1
      omega
/-- the last group is not 0, but of 0 alone -/
theorem groups_last : ∀ n : Nat, ∃ ys z, groups n = ys ++ [z] ∧ (ys = [] ∨ 0 < z) := by
  intro n
  induction n using Nat.strongRecOn with
  | ind n ih =>
    by_cases h : n < 64
    · exact ⟨[], n, groups_small h, .inl rfl⟩
    · obtain ⟨ys, z, e, hz⟩ := ih (n / 64) (by omega)
      refine ⟨((64 + n % 64 : Nat) : Int) :: ys, z, by rw [groups_more h, e]; rfl, .inr ?_⟩
      rcases hz with hz | hz
      · subst hz
        by_cases h2 : n / 64 < 64
        · rw [groups_small h2] at e
          have e2 : z = ((n / 64 : Nat) : Int) := by simpa using e.symm
          omega
        · rw [groups_more h2] at e
          have e2 := congrArg List.length e
          have e3 := groups_pos (n / 64 / 64)
          simp at e2
          rw [e2] at e3
          exact absurd e3 (by decide)
      · exact hz
theorem B8_groups (n : Nat) : ∀ g ∈ groups n, 0 ≤ g ∧ g < 256 := fun g hg => by
  have := groups_range n g hg
  omega
end Lay

namespace Lay
open PySem PySem.Spec PyProof.Rows L2
/-! ## own exceptions as values -/
section
open PySem.HandSPX
variable {prog : Program} {w : World} {A : Around} {E : Value → Shared → Prop} {R : Result → Shared → Prop} {h : Heap} {g : Array GenState} {d : PySem.Drawn} {t : Nat} {os : OsState}
variable {nm q : Str} {C N : Addr} {bs bm bmB : List Value} {hdct : Bool} {sn : List Str} {sub : List Value} {ab : Bool} {col : Option Bool} {dd : Option Addr} {k0 k1 k2 k3 k5 : Option Value} {B newId initId : String} {us : List Value} {kw : List (Str × Value)}
theorem chk_kw {M : Model} (F : ExcBaseFacts B newId initId bmB) (hT : ∀ X : String, bm.contains (.type X) = bmB.contains (.type X)) {Q : Unit → Shared → Prop} (hC : h.get? C = some (excClassObj nm q C N bs bm hdct sn sub ab col dd k0 k1 k2 k3 k5 newId)) (z : Q () ⟨h, g, d, t, os⟩)
    (hb : ∀ (a b : String) (n : Nat), Bind.check ⟨.any, B, B, .cls, [⟨"args", .varPos, false⟩, ⟨"kwargs", .varKw, false⟩]⟩ a b n (kw.map (·.1)) = pure ()) : wpAny M A (checkBuiltinCall newId ⟨.ref C :: us, kw⟩) Q E ⟨h, g, d, t, os⟩ := by
  have c1 : (Value.ref C :: bm).contains (.type B) = true := (List.contains_cons ..).trans ((congrArg (_ || ·) ((hT B).trans F.hasB)).trans (Bool.or_true _))
  have c2 := F.noStar
  simp only [checkBuiltinCall, F.newKind, F.newSplit, F.newRow, hb]
  repeat (first | refine wpAny_loadPart_at hC ?_ | (refine wpAny_isSubtype_exc hC ?_; rw [c1]) | refine wpAny_staticBase_exc hC ?_ | refine wpAny_madeBy_exc hC ?_ | simp only [bne_self_eq_false, Bool.false_eq_true, if_false] | wp_step)
  exact z
theorem new_kw (F : ExcBaseFacts B newId initId bmB) (hT : ∀ X : String, bm.contains (.type X) = bmB.contains (.type X)) (hC : h.get? C = some (excClassObj nm q C N bs bm hdct sn sub ab col dd k0 k1 k2 k3 k5 newId))
    (z : R (.ok (.ret (.ref (h.objs.size + 1)))) ⟨(h.push (PySem.W.kdv_tup us)).push (excO C h.objs.size), g, d, t, os⟩) (hl : us.length ≤ sizeLine) :
    codeAny (model prog w) A (.builtin newId ⟨.ref C :: us, kw⟩) R ⟨h, g, d, t, os⟩ := by
  have c1 : (Value.ref C :: bm).contains (.type B) = true := (List.contains_cons ..).trans ((congrArg (_ || ·) ((hT B).trans F.hasB)).trans (Bool.or_true _))
  have c2 : (Value.ref C :: bm).contains (.type "AttributeError") = false := (List.contains_cons ..).trans ((congrArg (_ || ·) ((hT _).trans F.noAttr)).trans rfl)
  have c3 : (Value.ref C :: bm).contains (.type "NameError") = false := (List.contains_cons ..).trans ((congrArg (_ || ·) ((hT _).trans F.noName)).trans rfl)
  have c4 := F.ends
  refine codeAny_builtinAt F.entry ?_
  unfold Builtin.«BaseException.__new__»
  refine PySem.wpAt_bind ?_
  show PySem.wpAt _ _ _ (stack >>= _) _ _ _
  refine PySem.wpAt_bind (PySem.wpAt_stack fun _ _ => PySem.wpAt_of_wpAny ?_)
  wp_walk
  refine PySem.wpAt_of_wpAny ?_
  rw [F.owner]
  repeat (first | with_reducible refine wpAny_madeHere_exc F.canon hC ?_ | with_reducible refine wpAny_loadPart_at hC ?_ | (with_reducible refine wpAny_isSubtype_exc hC ?_; first | rw [c1] | rw [c2] | rw [c3]) | wp_step)
  show R _ _
  rw [Heap.size_push]
  exact z
theorem tcall_kw (F : ExcBaseFacts B newId initId bmB) (hT : ∀ X : String, bm.contains (.type X) = bmB.contains (.type X)) {fI : Addr} {Q : Fin → Shared → Prop} (hC : h.get? C = some (excClassObj nm q C N bs bm hdct sn sub ab col dd k0 k1 k2 k3 k5 newId))
    (hb0 : ∀ (a b : String) (n : Nat), Bind.check ⟨.any, B, B, .cls, [⟨"args", .varPos, false⟩, ⟨"kwargs", .varKw, false⟩]⟩ a b n (kw.map (·.1)) = pure ())
    (hi : PySem.W.Looks (model prog w) h (typeLookup (.ref C) "__init__") (some (.ref fI))) (hb : ∀ self, PySem.W.Looks (model prog w) h (bindSpecial (.ref fI) self) (.ref fI, [self])) (hl : us.length ≤ sizeLine)
    (z : codeAny (model prog w) A (.call (.ref fI) ⟨.ref (h.objs.size + 1) :: us, kw⟩) (fun r s' => match r with | .ok (.ret v) => v = .none ∧ Q (.done (.ret (.ref (h.objs.size + 1)))) s' | .ok _ => False | .error e => E e s') ⟨(h.push (PySem.W.kdv_tup us)).push (excO C h.objs.size), g, d, t, os⟩) :
    wpAny (model prog w) A (Builtin.«type.__call__» ⟨.ref C :: us, kw⟩) Q E ⟨h, g, d, t, os⟩ := by
  repeat (first | with_reducible refine wpAny_loadPart_at hC ?_ | with_reducible refine wpAny_madeBy_exc hC ?_ | wp_step)
  refine codeAny_call_builtin_code (Code.quiet_builtin _ F.quiet) (chk_kw F hT hC ?_ hb0)
  refine new_kw F hT hC ?_ hl
  show wpAny _ _ _ _ _ _
  have kk : ∀ b o, h.get? b = some o → ((h.push (PySem.W.kdv_tup us)).push (excO C h.objs.size)).get? b = some o := fun _ _ e => Heap.get?_push_of_some _ (Heap.get?_push_of_some _ e)
  have g1 := kk _ _ hC
  have g2 : ((h.push (PySem.W.kdv_tup us)).push (excO C h.objs.size)).get? (h.objs.size + 1) = some (excO C h.objs.size) := by heap_get
  have g3 : (Value.ref C :: bm).contains (.ref C) = true := by simp
  have i1 := hi.keeps kk
  have b1 := (hb (.ref (h.objs.size + 1))).keeps kk
  unfold isInstance
  repeat (first | with_reducible refine wpAny_loadPart_at g2 ?_ | (with_reducible refine wpAny_isSubtype_exc g1 ?_; rw [g3]) | wp_step)
  show wpAny _ _ (typeLookup (.ref C) _) _ _ _
  refine i1.at (wpAny_holding (wpAny_bind (b1.at (wpAny_bind (wpAny_call (codeAny_mono z fun r s' y => ?_))))))
  rcases r with e | (v | _ | _ | _) <;> first | exact y | exact y.elim | skip
  obtain ⟨rfl, y⟩ := y
  first
    | exact wpAny_pure (wpAny_pure y)
    | (wp_walk; exact y)
/-- C(.., k = v, ..) for an own exception class whose __init__ is the def at fI -/
theorem call_kw (F : ExcBaseFacts B newId initId bmB) (hT : ∀ X : String, bm.contains (.type X) = bmB.contains (.type X)) {fI : Addr} (hC : h.get? C = some (excClassObj nm q C N bs bm hdct sn sub ab col dd k0 k1 k2 k3 k5 newId))
    (hb0 : ∀ (a b : String) (n : Nat), Bind.check ⟨.any, B, B, .cls, [⟨"args", .varPos, false⟩, ⟨"kwargs", .varKw, false⟩]⟩ a b n (kw.map (·.1)) = pure ())
    (hi : PySem.W.Looks (model prog w) h (typeLookup (.ref C) "__init__") (some (.ref fI))) (hb : ∀ self, PySem.W.Looks (model prog w) h (bindSpecial (.ref fI) self) (.ref fI, [self])) (hl : us.length ≤ sizeLine)
    (z : codeAny (model prog w) (A.under (.builtin "type.__call__" ⟨.ref C :: us, kw⟩)) (.call (.ref fI) ⟨.ref (h.objs.size + 1) :: us, kw⟩) (PySem.W.InitBack (h.objs.size + 1) R) ⟨(h.push (PySem.W.kdv_tup us)).push (excO C h.objs.size), g, d, t, os⟩) :
    codeAny (model prog w) A (.call (.ref C) ⟨us, kw⟩) R ⟨h, g, d, t, os⟩ := by
  have f1 := tc_lookup
  have f2 := tc_bind (.ref C)
  have f3 : (⟨h, g, d, t, os⟩ : Shared).TypeIs (.ref C) "type" := ⟨_, hC, rfl⟩
  refine codeAny_of_tree ?_
  show wpAny _ _ (callAny (.ref C) _) _ _ _
  repeat (any_goals (first | assumption | with_reducible refine wpAny_loadPart_at hC ?_ | wp_step))
  refine ⟨rfl, ?_⟩
  have ty : PySem.W.Looks (model prog w) h (isInstance (.ref C) (.type "type")) true := ((PySem.W.Looks.ld (part := none) hC).andThen .now).andThen (PySem.W.Looks.of_pure tc_sub)
  refine codeAny_call_builtin_at (Code.quiet_builtin _ (by decide +kernel)) entry_typeCall (PySem.W.check_slot (s := ⟨h, g, d, t, os⟩) tc_kind tc_split ty (PySem.W.tc_args _ _ _) (tcall_kw F hT hC hb0 hi hb hl ?_))
  refine codeAny_mono z fun r s' y => ?_
  rcases r with e | (v | _ | _ | _) <;> exact y
end
end Lay

namespace Lay
open PySem PySem.Spec PyProof.Rows L2
/-! ## isinstance of a held exception -/
section
open PySem.W PySem.Calls
variable {prog : Program} {w : World} {A : Around} {E : Value → Shared → Prop} {s : Shared} {K : Frag} {x D : Addr} {ox : Obj} {od : Option Obj}
theorem fo_data {C : Addr} {name : Str} {a v : Value} (hc : (clsIn K C).isSome = true) (ha : findIn K (.ref C) name = some (some a)) (hv : specialIn K a "__get__" = some (some v)) (ht : takesIn K a = some true) : findObj K C od name = some (.bind v a) := by
  cases od with
  | none => exact findObj_dataN hc ha hv ht
  | some o => exact findObj_data hc ha hv ht
theorem cls_held {Q : Option Value → Shared → Prop} (T : ExcC K D) (X : K.In s.heap) (I : InstAt s.heap x ox D od) (z : Q (some (.ref D)) { s with toks := s.toks + 1 }) : wpAny (model prog w) A (getAttr? (.ref x) "__class__") Q E s := by
  have hf : findObj K D od "__class__" = some (.bind (.builtin "getset_descriptor.__get__") (.builtin "object.__class__")) := fo_data (by obtain ⟨cd, hc, _⟩ := any_some T.hd; exact Option.isSome_iff_exists.mpr ⟨_, hc⟩) T.ha T.hn T.ht
  obtain ⟨hp, g, d, t, os⟩ := s
  have l0 := I.type (M := model prog w)
  have l1 := looks_findIn (M := model prog w) X T.hg
  have l2 := looks_findIn (M := model prog w) X T.hk
  have l3 := looks_find (M := model prog w) X I hf
  have l4 : Looks (model prog w) hp (isInstance (.ref x) (.type "BaseException")) true := l0.andThen (looks_subIn X T.hs)
  have n1 : (Value.builtin "BaseException.__getattribute__" == Value.builtin "object.__getattribute__") = false := by decide +kernel
  have n0 : (onTheHeap (Value.ref D) && Value.builtin "BaseException.__getattribute__" == Value.builtin "object.__getattribute__") = false := (congrArg (_ && ·) n1).trans rfl
  have n2 : (false && onTheHeap (Value.builtin "BaseException.__getattribute__")) = false := rfl
  unfold getAttr? getAttrBy? getAttrBy
  refine wpAny_bind (wpAny_mkText (wpAny_bind (wpAny_attempt (wpAny_holding (wpAny_bind (l0.at (wpAny_bind (l1.at ?_))))))))
  show wpAny _ _ (if (onTheHeap (Value.ref D) && Value.builtin "BaseException.__getattribute__" == Value.builtin "object.__getattribute__") = true then _ else _) _ _ _
  rw [n0, if_neg Bool.false_ne_true]
  unfold getAttrByItsOwn hookBefore
  refine wpAny_bind ?_
  rw [if_pos (show onTheHeap (Value.ref D) = true from rfl)]
  refine l2.at (wpAny_bind (wpAny_attempt (wpAny_holding ?_)))
  unfold callGetattribute
  rw [n2, if_neg Bool.false_ne_true]
  unfold boundAndCalled
  rw [PySem.F.excAttr_ValueError.ga.bind (.ref x)]
  refine wpAny_bind (wpAny_pure ?_)
  show wpAny _ _ (call (.builtin "BaseException.__getattribute__") [.ref x, .str "__class__" t]) _ _ _
  refine wpAny_call (codeAny_call_builtin PySem.F.excAttr_ValueError.ga.plain PySem.F.entry_bexc_ga (@check_slot (model prog w) _ _ ⟨hp, g, d, t + 1, os⟩ "BaseException.__getattribute__" "BaseException" "__getattribute__" (.ref x) [.str "__class__" t] [] _ (by decide +kernel) (by decide +kernel) l4 (PySem.F.args_bexc_ga (.ref x) (.str "__class__" t)) ?_))
  unfold Builtin.«object.__getattribute__»
  refine wpAny_bind (wpAny_of_eq (a := ((Value.ref x : Value), [Value.str "__class__" t])) (by first | rfl | (simp only [slotArgs]; rfl)) (wpAny_bind (wpAny_pure (wpAny_bind (l0.at (wpAny_bind (l3.at ?_)))))))
  show wpAny _ _ (holding [Value.builtin "object.__class__"] (call (.builtin "getset_descriptor.__get__") [.builtin "object.__class__", .ref x, .ref D]) >>= ret) _ _ _
  refine wpAny_bind (wpAny_holding (wpAny_call (class_get (s := ⟨hp, g, d, t + 1, os⟩) (ox := ox) (od := od) X I T.hm (wpAny_pure ?_))))
  show wpAny _ _ (handedOut (.ref D)) _ _ _
  rw [handedOut_of (v := .ref D) rfl]
  first
    | exact wpAny_pure (wpAny_pure z)
    | exact wpAny_pure z
    | exact wpAny_pure (wpAny_bind (wpAny_pure (wpAny_pure z)))
theorem kit_held (T : ExcC K D) : KitX K (.ref x) (.ref D) (fun h => InstAt h x ox D od) where
  ty := fun _ _ _ I => I.type
  it := fun _ _ X _ => by
    obtain ⟨cd, hc, _⟩ := any_some T.hd
    unfold clsIn at hc
    split at hc
    · intro A' Q' E' s' k q
      rename_i ho
      unfold isType loadHead
      exact wpAny_bind (wpAny_loadPart (k _ _ (X _ _ ho)) (wpAny_pure q))
    · cases hc
  ne := fun h tp dd its n sl X htp => by
    obtain ⟨cd, hc, _⟩ := any_some T.hd
    refine Bool.eq_false_iff.mpr fun q => ?_
    obtain rfl : D = tp := Value.ref.inj (beq_iff_eq.mp q)
    unfold clsIn at hc
    split at hc
    · rename_i ho
      cases (X _ _ ho).symm.trans htp
    · cases hc
  ca := fun X I k => cls_held T X I k
end
/-! ## the facts of such a class, by one look -/
def xcB (K : PySem.W.Frag) (C : Addr) : Bool := xfB K C && (decide (PySem.W.findIn K (.ref C) "__class__" = some (some (.builtin "object.__class__"))) && (decide (PySem.W.specialIn K (.builtin "object.__class__") "__get__" = some (some (.builtin "getset_descriptor.__get__"))) &&
  (decide (PySem.W.takesIn K (.builtin "object.__class__") = some true) && decide (PySem.W.mroIn K C (.type "object") = some true))))
theorem xcB_ok {K : PySem.W.Frag} {C : Addr} (h : xcB K C = true) : ExcC K C ∧ XfC K C := by
  obtain ⟨h1, h⟩ := He.ba h
  obtain ⟨h2, h⟩ := He.ba h
  obtain ⟨h3, h⟩ := He.ba h
  obtain ⟨h4, h5⟩ := He.ba h
  have x := xfB_ok h1
  exact ⟨⟨x.ga, x.gg, x.exC, x.hdC, of_decide_eq_true h2, of_decide_eq_true h3, of_decide_eq_true h4, of_decide_eq_true h5⟩, x⟩
/-- an exception of the class C at v, with the fields fs -/
def ExV (H : Hp) (v : V) (C : Addr) (fs : List (Str × V)) : Prop := ∃ (a : Addr) (d : Option Addr), v = .ref a ∧ H a = some (exo a C d) ∧ ((d = none ∧ fs = []) ∨ ∃ dx, d = some dx ∧ H dx = some (exd dx fs))
theorem ExV.same {H H' : Hp} {v : V} {C : Addr} {fs : List (Str × V)} (e : ExV H v C fs) (s : Same H H') : ExV H' v C fs := by
  obtain ⟨a, d, rfl, ha, hd⟩ := e
  refine ⟨a, d, rfl, s _ _ ha, ?_⟩
  rcases hd with hd | ⟨dx, rfl, hd⟩
  · exact .inl hd
  · exact .inr ⟨dx, rfl, s _ _ hd⟩
theorem inst_at {P : Program} {w : World} {H : Hp} {h : Heap} {a C : Addr} {d : Option Addr} {fs : List (Str × V)} (hok : HOk P w H h) (ha : H a = some (exo a C d)) (hd : (d = none ∧ fs = []) ∨ ∃ dx, d = some dx ∧ H dx = some (exd dx fs)) : ∃ ox od, PySem.W.InstAt h a ox C od := by
  obtain ⟨t1, ho⟩ := exo_at hok ha
  rcases hd with ⟨rfl, _⟩ | ⟨dx, rfl, hd⟩
  · exact ⟨_, none, ho, rfl, rfl, trivial⟩
  · obtain ⟨mA, hns, _⟩ := exd_at hok hd
    obtain ⟨od, hod, _⟩ := lookIn_ns hns
    exact ⟨_, some od, ho, rfl, rfl, hod⟩
/-- isinstance(x, c), x such an exception -/
def rIsV (K : PySem.W.Frag) : List V → Hp → VK → Prop := fun xs H Q => ∃ (x c : V) (C : Addr) (fs : List (Str × V)) (u : Value) (b : Bool), xs = [x, c] ∧ ExV H x C fs ∧ ExcC K C ∧ ClsV c u ∧ PySem.W.kitOne K (.ref C) u = some b ∧ Q (.bl b) H
section
variable {X : Cx}
theorem call_isV : CallR X (.builtin "isinstance") (rIsV X.K) := by
  intro pins s σ H xs us Q I r h
  obtain ⟨x, c, C, fs, u, b, rfl, ⟨a, d, rfl, ha, hd⟩, T, k, e, q⟩ := h
  obtain ⟨u1, u2, rfl, r1, r2⟩ := vals2 r
  obtain rfl : u1 = Value.ref a := r1
  obtain rfl := k.eq r2
  obtain ⟨ox, od, J⟩ := inst_at I.hok ha hd
  exact PySem.W.kia_one (kit_held T) I.kIn J e (fun z => nomatch z) fun tk => ⟨.bl b, H, I.tok tk, rfl, q⟩
/-- x.f, x such an exception -/
def tXv (K : PySem.W.Frag) (f : Str) (te : TE) : TE := fun σ H Q => te σ H fun x H1 => ∃ (C : Addr) (fs : List (Str × V)) (v : V), XfC K C ∧ PySem.W.findIn K (.ref C) f = some none ∧ ExV H1 x C fs ∧ fs.lookup f = some v ∧ Q v H1
theorem pe_xv {e : Expr} {te : TE} {pos : PySem.Pos} {n : Str} (he : PE X e te) (hb : attributeBase e n X.env (eval e X.env) = eval e X.env := by rfl) : PE X (.Attribute e n pos) (tXv X.K n te) := by
  refine ⟨fun pins s σ H Q I h => attr_of hb (thn (he.run pins s σ H _ I h) fun u s1 hh => ?_)⟩
  obtain ⟨x, H1, I1, rx, C, fs, v, T, hno, ⟨a, d, rfl, ha, hd⟩, l, q⟩ := hh
  obtain rfl : u = Value.ref a := rx
  rcases hd with ⟨_, rfl⟩ | ⟨dx, rfl, hd⟩
  · cases l
  obtain ⟨t1, ho⟩ := exo_at I1.hok ha
  obtain ⟨mA, hns, hr⟩ := exd_at I1.hok hd
  obtain ⟨od, hod, hl⟩ := lookIn_ns hns
  obtain ⟨y, hy, ry⟩ := RelO.some_of (v := v) (o := mA n) (by rw [← l]; exact hr n)
  have J : PySem.W.InstAt s1.heap a _ C (some od) := ⟨ho, rfl, rfl, hod⟩
  exact HandSPX.exc_get I1.kIn J T.ga T.gg T.exC (PySem.W.findObj_own T.hdC hno rfl (by rw [hl, hy])) (handed_of ry) ⟨v, H1, I1.tok _, ry, q⟩
end
/-! ## made as values -/
section
variable {X : Cx} {CX : CXT} {k : Nat} {fI C : Addr} {fd : FuncData} {ps ks : List Str} {sp : Sp} {x f g : Str} {p pos : PySem.Pos} {e : Expr} {es : List Expr} {ta tk : TA} {kws : List Keyword}
theorem run_mkV {pins : List (Addr × Obj)} {σ : L2.St} {H : Hp} {s : Shared} {Q : VK} {us : List Value} {kw : List (Str × Value)} (T : OexC X.K C) (iC : PySem.W.findIn X.K (.ref C) "__init__" = some (some (.ref fI))) (tI : PySem.W.typeIn X.K (.ref fI) = some (.type "function"))
    (F1 : FnOk X.prog X.w X.K X.mg X.base CX k fI fd ps sp) (hr : Room (k + 1) X.A) (hx : Passes CX X (fun _ _ _ => False)) (I : Inv X pins σ H s) (hl : us.length ≤ sizeLine)
    (hbk : ∀ (a b : String) (n : Nat), Bind.check ⟨.any, "ValueError", "ValueError", .cls, [⟨"args", .varPos, false⟩, ⟨"kwargs", .varKw, false⟩]⟩ a b n (kw.map (·.1)) = pure ())
    (h : ∀ a, H a = none → ∃ rs vs, (∀ s' : Shared, X.K.In s'.heap → BindsTo s' fd ⟨.ref a :: us, kw⟩ (ps.zip rs)) ∧ Vals vs rs ∧ sp vs (upd H a (exo a C none)) (fun v H2 => v = .non ∧ Q (.ref a) H2) (fun _ _ _ => False)) :
    wpAny (model X.prog X.w) X.A (call (.ref C) us kw) (EP X pins σ Q) X.xe s := by
  obtain ⟨nm, q, N, bs, bm, sn, sub, ab, col, dd, k0, k1, k2, k3, k5, hC, hbm⟩ := T.cls
  obtain ⟨hp, gg, dr, tk, os⟩ := s
  have z1 : hp.objs.size ≤ hp.objs.size + 1 := Nat.le_succ _
  obtain ⟨rs, vs, hto, r2, hq⟩ := h (hp.objs.size + 1) (I.hok.fresh z1)
  have z2 : ∀ b o, hp.get? b = some o → ((hp.push (PySem.W.kdv_tup us)).push (PySem.HandSPX.excO C hp.objs.size)).get? b = some o := fun b o e => Heap.get?_push_of_some _ (Heap.get?_push_of_some _ e)
  have z3 : ((hp.push (PySem.W.kdv_tup us)).push (PySem.HandSPX.excO C hp.objs.size)).get? (hp.objs.size + 1) = some (PySem.HandSPX.excO C hp.objs.size) := by heap_get
  have I2 := I.laid (t' := tk) (a := hp.objs.size + 1) (o := exo (hp.objs.size + 1) C none) z2 z1 (exo_ok z3)
  refine wpAny_call (call_kw F.excBase_ValueError (fun Y => PySem.HandSPX.refsVE_contains Y bm hbm) (I.kIn _ _ hC) hbk (PySem.W.looks_findIn I.kIn iC) (fun self => PySem.W.bind_fn I.kIn self tI) hl
    (codeAny_mono (F1.run _ X.stack _ _ ⟨Value.ref (hp.objs.size + 1) :: us, kw⟩ rs _ _ (fun _ _ _ => False) (hr.make C us kw) (I2.env0.make C us kw) (hto _ I2.kIn) r2 hq) fun r s' hq' => ?_))
  cases r with
  | error er => exact hx pins σ _ _ er s' I2 hq'
  | ok fl =>
    cases fl with
    | ret u =>
      obtain ⟨v, H', I3, rv, ev, q3⟩ := I2.after hq'
      subst ev
      exact ⟨rv, ⟨V.ref _, H', I3, rfl, q3⟩⟩
    | next => exact False.elim hq'
    | brk => exact False.elim hq'
    | cont => exact False.elim hq'
theorem upd_mk {H : Hp} {a d : Addr} {o1 o2 o3 : HO} : upd (upd (upd H a o1) d o2) a o3 = upd (upd H d o2) a o3 := by
  funext b
  by_cases h1 : b = a
  · subst h1
    rw [upd_same, upd_same]
  · rw [upd_ne h1, upd_ne h1]
    by_cases h2 : b = d
    · subst h2
      rw [upd_same, upd_same]
    · rw [upd_ne h2, upd_ne h2, upd_ne h1]
/-- a new exception of the class C with these fields -/
def NewX (C : Addr) (fs : List (Str × V)) (H1 : Hp) (Q : VK) : Prop := ∀ a d, H1 a = none → H1 d = none → d ≠ a → Q (.ref a) (upd (upd H1 d (exd d fs)) a (exo a C (some d)))
def tV1 (C : Addr) (f : Str) (ta : TA) : TE := fun σ H Q => ta σ H fun vs H1 => ∃ v, vs = [v] ∧ NewX C [(f, v)] H1 Q
def tV2 (C : Addr) (f g : Str) (ta : TA) : TE := fun σ H Q => ta σ H fun vs H1 => ∃ v u, vs = [v, u] ∧ NewX C [(g, u), (f, v)] H1 Q
theorem sp1 {H : Hp} {a : Addr} {v : V} {Q : VK} {E : XK} (ha : H a = none) (h : NewX C [(f, v)] H Q) : spInit1 C f [.ref a, v] (upd H a (exo a C none)) (fun v H2 => v = .non ∧ Q (.ref a) H2) E :=
  ⟨a, v, rfl, upd_same, fun dx n ne => ⟨rfl, by rw [upd_mk]; exact h a dx ha (fr2 n) ne⟩⟩
theorem sp2 {H : Hp} {a : Addr} {v u : V} {Q : VK} {E : XK} (ha : H a = none) (h : NewX C [(g, u), (f, v)] H Q) : spInit2 C f g [.ref a, v, u] (upd H a (exo a C none)) (fun v H2 => v = .non ∧ Q (.ref a) H2) E :=
  ⟨a, v, u, rfl, upd_same, fun dx n ne => ⟨rfl, by rw [upd_mk]; exact h a dx ha (fr2 n) ne⟩⟩
theorem chk0 (a b : String) (n : Nat) : Bind.check ⟨.any, "ValueError", "ValueError", .cls, [⟨"args", .varPos, false⟩, ⟨"kwargs", .varKw, false⟩]⟩ a b n ((([] : List (Str × Value)).map (·.1))) = pure () := by kernel_rfl
variable {fs : List Str}
theorem pe_v1 (T : ExcF X.K X.mg x fs) (I0 : IOk X.prog X.w X.K X.mg X.base k x ["self", f] (spInit1 (He.ga X.K x) f)) (hr : Room (k + 1) X.A) (hg : Gl X x) (ha : PA X [e] ta) (hdb : (x == ("__debug__" : Str)) = false := by decide)
    (he : starEach [e] X.env = (false, eval e X.env) :: starEach [] X.env := by rfl) (hpl : (backTo pos (starEach [] X.env)).any (·.1) = false := by rfl) : PE X (.Call (.Name x p) [e] [] pos) (tV1 (He.ga X.K x) f ta) := by
  refine ⟨fun pins s σ H Q I h => wpAny_Call_Name_kw (ld_glob I hg T.g ?_ hdb)⟩
  obtain ⟨fd, F, b⟩ := I0
  refine PySem.W.callWith_K (h₀ := X.base) I.ok.mod.kin T.ox.kC (thn (ha.run pos pins s σ H _ I h) fun us s1 ⟨vs, H1, I1, r1, v, ev, q1⟩ => ⟨I1.kIn, ?_⟩) he hpl
  subst ev
  obtain ⟨u1, rfl, r2⟩ : ∃ u1, us = [u1] ∧ RelV v u1 := by
    cases r1 with
    | cons r t => cases t; exact ⟨_, rfl, r⟩
  exact run_mkV (us := [u1]) (kw := []) T.ox T.ic T.it F hr (fun _ _ _ _ _ _ _ z => z.elim) I1 (by show 1 ≤ sizeLine; decide) chk0 fun a na => ⟨[.ref a, u1], [.ref a, v], fun s' K' => b s' [.ref a, u1] K' rfl, .cons rfl (.cons r2 .nil), sp1 na q1⟩
theorem pe_v2 {e1 e2 : Expr} (T : ExcF X.K X.mg x fs) (I0 : IOk X.prog X.w X.K X.mg X.base k x ["self", f, g] (spInit2 (He.ga X.K x) f g)) (hr : Room (k + 1) X.A) (hg : Gl X x) (ha : PA X [e1, e2] ta) (hdb : (x == ("__debug__" : Str)) = false := by decide)
    (he : starEach [e1, e2] X.env = (false, eval e1 X.env) :: starEach [e2] X.env := by rfl) (hpl : (backTo pos (starEach [e2] X.env)).any (·.1) = false := by rfl) : PE X (.Call (.Name x p) [e1, e2] [] pos) (tV2 (He.ga X.K x) f g ta) := by
  refine ⟨fun pins s σ H Q I h => wpAny_Call_Name_kw (ld_glob I hg T.g ?_ hdb)⟩
  obtain ⟨fd, F, b⟩ := I0
  refine PySem.W.callWith_K (h₀ := X.base) I.ok.mod.kin T.ox.kC (thn (ha.run pos pins s σ H _ I h) fun us s1 ⟨vs, H1, I1, r1, v, u, ev, q1⟩ => ⟨I1.kIn, ?_⟩) he hpl
  subst ev
  obtain ⟨u1, u2, rfl, r1, r2⟩ := vals2 r1
  exact run_mkV (us := [u1, u2]) (kw := []) T.ox T.ic T.it F hr (fun _ _ _ _ _ _ _ z => z.elim) I1 (by show 2 ≤ sizeLine; decide) chk0 fun a na => ⟨[.ref a, u1, u2], [.ref a, v, u], fun s' K' => b s' [.ref a, u1, u2] K' rfl, .cons rfl (.cons r1 (.cons r2 .nil)), sp2 na q1⟩
/-- f(k = v): the keywords in this order, no defaults -/
theorem kb0 {K : PySem.W.Frag} {qual : Str} {params : Arguments} {body : List Stmt} {scope : Scope} {kws : List (Str × V)} {f : Addr} (F : FunD K x qual params body scope [] kws f fd) {us : List Value} {kw : List (Str × Value)} {r : List (Str × Value)}
    (h : ∀ (kV doc pm : Value) (an : Option Addr) (cdv ct : Value), bindArgs (PySem.W.fnOf x qual params body scope .none kV doc pm an cdv ct) ⟨us, kw⟩ = pure r) (s : Shared) : BindsTo s fd ⟨us, kw⟩ r := by
  obtain ⟨oc, od, dV, kV, doc, pm, an, cdv, ct, osl, rfl, lk, hcd, hD, hK⟩ := F.ex
  rcases hD with ⟨_, rfl⟩ | ⟨e, _⟩
  · exact .of_eq (h kV doc pm an cdv ct)
  · exact absurd rfl e
/-- the __init__ of x called by names: the values zs in the order ks -/
def KOk (P : Program) (w : World) (K : PySem.W.Frag) (mg : Str → Option Value) (base : Heap) (k : Nat) (x : Str) (ps ks : List Str) (gV : {α : Type} → List α → List α) (sp : Sp) : Prop :=
  ∃ fd, FnOk P w K mg base CX0 k (He.ma K (He.ga K x) "__init__") fd ps sp ∧ ∀ (s : Shared) (a : Value) (ws : List Value), ws.length = ks.length → BindsTo s fd ⟨[a], ks.zip ws⟩ (ps.zip (a :: gV ws))
theorem pe_vk1 (T : ExcF X.K X.mg x fs) (I0 : KOk X.prog X.w X.K X.mg X.base k x ["self", f] [f] (fun l => l) (spInit1 (He.ga X.K x) f)) (hr : Room (k + 1) X.A) (hg : Gl X x) (hkw : PK X kws tk) (hk1 : ∀ (a b : String) (n : Nat), Bind.check ⟨.any, "ValueError", "ValueError", .cls, [⟨"args", .varPos, false⟩, ⟨"kwargs", .varKw, false⟩]⟩ a b n [f] = pure ())
    (hall : (backToKw pos (keywordEach kws X.env)).all (·.1.isSome) = true := by rfl) (hks : (backToKw pos (keywordEach kws X.env)).filterMap (·.1) = [f] := by rfl) (hdb : (x == ("__debug__" : Str)) = false := by decide)
    (hpl : ((backTo pos (starEach [] X.env)).any (·.1) || (backToKw pos (keywordEach kws X.env)).any (·.1.isNone)) = false := by rfl) : PE X (.Call (.Name x p) [] kws pos) (tV1 (He.ga X.K x) f tk) := by
  refine ⟨fun pins s σ H Q I h => wpAny_Call_Name_kw (ld_glob I hg T.g (PySem.W.callWith_KW0 (h₀ := X.base) I.ok.mod.kin T.ox.kC hall ?_ hpl) hdb)⟩
  obtain ⟨fd, F, b⟩ := I0
  refine thn (hkw.run pos pins s σ H _ I h) fun us s1 ⟨vs, H1, I1, r1, v, ev, q1⟩ => ⟨I1.kIn, ?_⟩
  subst ev
  obtain ⟨u1, rfl, r2⟩ : ∃ u1, us = [u1] ∧ RelV v u1 := by
    cases r1 with
    | cons r t => cases t; exact ⟨_, rfl, r⟩
  rw [hks]
  exact run_mkV (us := []) (kw := [(f, u1)]) T.ox T.ic T.it F hr (fun _ _ _ _ _ _ _ z => z.elim) I1 (by show 0 ≤ sizeLine; decide) hk1 fun a na => ⟨[.ref a, u1], [.ref a, v], fun s' K' => b s' (.ref a) [u1] rfl, .cons rfl (.cons r2 .nil), sp1 na q1⟩
theorem pe_vk2 (T : ExcF X.K X.mg x fs) (I0 : KOk X.prog X.w X.K X.mg X.base k x ["self", f, g] [g, f] (fun l => l.reverse) (spInit2 (He.ga X.K x) f g)) (hr : Room (k + 1) X.A) (hg : Gl X x) (hkw : PK X kws tk) (hk1 : ∀ (a b : String) (n : Nat), Bind.check ⟨.any, "ValueError", "ValueError", .cls, [⟨"args", .varPos, false⟩, ⟨"kwargs", .varKw, false⟩]⟩ a b n [g, f] = pure ())
    (hall : (backToKw pos (keywordEach kws X.env)).all (·.1.isSome) = true := by rfl) (hks : (backToKw pos (keywordEach kws X.env)).filterMap (·.1) = [g, f] := by rfl) (hdb : (x == ("__debug__" : Str)) = false := by decide)
    (hpl : ((backTo pos (starEach [] X.env)).any (·.1) || (backToKw pos (keywordEach kws X.env)).any (·.1.isNone)) = false := by rfl) : PE X (.Call (.Name x p) [] kws pos) (fun σ H Q => tk σ H fun vs H1 => ∃ v u, vs = [u, v] ∧ NewX (He.ga X.K x) [(g, u), (f, v)] H1 Q) := by
  refine ⟨fun pins s σ H Q I h => wpAny_Call_Name_kw (ld_glob I hg T.g (PySem.W.callWith_KW0 (h₀ := X.base) I.ok.mod.kin T.ox.kC hall ?_ hpl) hdb)⟩
  obtain ⟨fd, F, b⟩ := I0
  refine thn (hkw.run pos pins s σ H _ I h) fun us s1 ⟨vs, H1, I1, r1, v, u, ev, q1⟩ => ⟨I1.kIn, ?_⟩
  subst ev
  obtain ⟨u1, u2, rfl, r1, r2⟩ := vals2 r1
  rw [hks]
  exact run_mkV (us := []) (kw := [(g, u1), (f, u2)]) T.ox T.ic T.it F hr (fun _ _ _ _ _ _ _ z => z.elim) I1 (by show 0 ≤ sizeLine; decide) hk1 fun a na => ⟨[.ref a, u2, u1], [.ref a, v, u], fun s' K' => b s' (.ref a) [u1, u2] rfl, .cons rfl (.cons r2 (.cons r1 .nil)), sp2 na q1⟩
def New0 (C : Addr) (H1 : Hp) (Q : VK) : Prop := ∀ a, H1 a = none → Q (.ref a) (upd H1 a (exo a C none))
/-- X(), an own class without an __init__ of its own -/
theorem pe_v0 {bmB : List Value} (q : PySem.W.excIn X.K C bmB "ValueError.__new__" = true) (F0 : ExcBaseFacts "ValueError" "ValueError.__new__" "ValueError.__init__" bmB) (gC : X.mg x = some (.ref C)) (kC : PySem.W.keepIn X.K (.ref C) = true) (hg : Gl X x) (hdb : (x == ("__debug__" : Str)) = false := by decide) :
    PE X (.Call (.Name x p) [] [] pos) (fun _ H Q => True ∧ New0 C H Q) := by
  refine ⟨fun pins s σ H Q I h => wpAny_Call_Name_kw (ld_glob I hg gC (PySem.W.callWith_K0 I.kIn kC ?_) hdb)⟩
  obtain ⟨bm, N, nm, qn, bs, hdct, sn, sub, ab, col, dd, k0, k1, k2, k3, k5, mN, hC, hN, hni, T⟩ := exc_obj I.kIn q
  obtain ⟨_, h⟩ := h
  refine wpAny_call_exc_subT F0 T hC hN hni (fun h' a hm => ?_) (by show 0 ≤ sizeLine; decide)
  obtain ⟨t, ht, _, _⟩ := hm.there
  exact ⟨.ref a, _, I.laidN hm.keeps hm.new (I.hok.gone hm.new) (exo_ok ht), rfl, h a (I.hok.gone hm.new)⟩
end
/-! ## a family of such classes, all apart -/
def kindsB (K : PySem.W.Frag) (ns : List Str) (top : Str) : Bool := ns.all fun x => xcB K (He.ga K x) && (decide (PySem.W.kitOne K (.ref (He.ga K x)) (.ref (He.ga K top)) = some true) && (decide (PySem.W.kitOne K (.ref (He.ga K x)) (.type "ValueError") = some true) &&
  ns.all fun y => decide (PySem.W.kitOne K (.ref (He.ga K x)) (.ref (He.ga K y)) = some (x == y))))
structure KindsF (K : PySem.W.Frag) (ns : List Str) (top : Str) : Prop where
  c : ∀ x ∈ ns, ExcC K (He.ga K x) ∧ XfC K (He.ga K x)
  t : ∀ x ∈ ns, PySem.W.kitOne K (.ref (He.ga K x)) (.ref (He.ga K top)) = some true
  v : ∀ x ∈ ns, PySem.W.kitOne K (.ref (He.ga K x)) (.type "ValueError") = some true
  a : ∀ x ∈ ns, ∀ y ∈ ns, PySem.W.kitOne K (.ref (He.ga K x)) (.ref (He.ga K y)) = some (x == y)
theorem kindsF_of {K : PySem.W.Frag} {ns : List Str} {top : Str} (h : kindsB K ns top = true) : KindsF K ns top := by
  have h0 := fun x hx => List.all_eq_true.mp h x hx
  refine ⟨fun x hx => xcB_ok (He.ba (h0 x hx)).1, fun x hx => ?_, fun x hx => ?_, fun x hx y hy => ?_⟩
  · exact of_decide_eq_true (He.ba (He.ba (h0 x hx)).2).1
  · exact of_decide_eq_true (He.ba (He.ba (He.ba (h0 x hx)).2).2).1
  · exact of_decide_eq_true (List.all_eq_true.mp (He.ba (He.ba (He.ba (h0 x hx)).2).2).2 y hy)
def bareB (K : PySem.W.Frag) (x : Str) : Bool := PySem.W.excIn K (He.ga K x) [.type "ValueError", .type "Exception", .type "BaseException", .type "object"] "ValueError.__new__" && PySem.W.keepIn K (.ref (He.ga K x))
theorem newX {C : Addr} {fs : List (Str × V)} {H : Hp} {Q : VK} (h : ∀ H' v, Same H H' → ExV H' v C fs → Q v H') : NewX C fs H Q := fun a d na nd ne =>
  h _ _ ((same_new nd).trans (same_new (by rw [upd_ne (Ne.symm ne)]; exact na))) ⟨a, some d, rfl, upd_same, .inr ⟨d, rfl, by rw [upd_ne ne, upd_same]⟩⟩
theorem new0 {C : Addr} {H : Hp} {Q : VK} (h : ∀ H' v, Same H H' → ExV H' v C [] → Q v H') : New0 C H Q := fun a na => h _ _ (same_new na) ⟨a, none, rfl, upd_same, .inl ⟨rfl, rfl⟩⟩
/-- all of these stand -/
def AllX (H : Hp) (l : List (V × Addr × List (Str × V))) : Prop := ∀ p ∈ l, ExV H p.1 p.2.1 p.2.2
theorem AllX.same {H H' : Hp} {l : List (V × Addr × List (Str × V))} (h : AllX H l) (s : Same H H') : AllX H' l := fun p hp => (h p hp).same s
theorem AllX.nil {H : Hp} : AllX H [] := fun _ h => nomatch h
theorem AllX.snoc {H H' : Hp} {l : List (V × Addr × List (Str × V))} {v : V} {C : Addr} {fs : List (Str × V)} (h : AllX H l) (s : Same H H') (e : ExV H' v C fs) : AllX H' (l ++ [(v, C, fs)]) := fun p hp => by
  rcases List.mem_append.mp hp with hp | hp
  · exact (h p hp).same s
  · obtain rfl := List.mem_singleton.mp hp
    exact e
end Lay

namespace K03
open PySem PySem.Spec PyProof.Rows L2 Lay
def topS (i : Nat) : Stmt := PySem.Challenge.pw_codespans_k03_errors_apart.main.body.getD i (.Pass ⟨0, 0, 0, 0⟩)
abbrev s_BadTable_init : Stmt := inClass (topS 2) 0
abbrev s_BadLine_init : Stmt := inClass (topS 3) 0
abbrev s_BadSpan_init : Stmt := inClass (topS 4) 0
abbrev s_BadStep_init : Stmt := inClass (topS 5) 0
abbrev s_BadCount_init : Stmt := inClass (topS 6) 0
abbrev s_BadText_init : Stmt := inClass (topS 7) 0
abbrev s_l_kinds : Stmt := topS 10
abbrev s_law : Stmt := topS 11
theorem sc_BadTable_init : FnScope ["self", "at", "why"] ["self", "at", "why"] (defScope s_BadTable_init) := ⟨rfl, rfl, rfl, by decide +kernel, rfl, by decide +kernel, by decide +kernel⟩
theorem sc_BadLine_init : FnScope ["self", "line"] ["self", "line"] (defScope s_BadLine_init) := ⟨rfl, rfl, rfl, by decide +kernel, rfl, by decide +kernel, by decide +kernel⟩
theorem sc_BadSpan_init : FnScope ["self", "at"] ["self", "at"] (defScope s_BadSpan_init) := ⟨rfl, rfl, rfl, by decide +kernel, rfl, by decide +kernel, by decide +kernel⟩
theorem sc_BadStep_init : FnScope ["self", "step"] ["self", "step"] (defScope s_BadStep_init) := ⟨rfl, rfl, rfl, by decide +kernel, rfl, by decide +kernel, by decide +kernel⟩
theorem sc_BadCount_init : FnScope ["self", "many"] ["self", "many"] (defScope s_BadCount_init) := ⟨rfl, rfl, rfl, by decide +kernel, rfl, by decide +kernel, by decide +kernel⟩
theorem sc_BadText_init : FnScope ["self", "at"] ["self", "at"] (defScope s_BadText_init) := ⟨rfl, rfl, rfl, by decide +kernel, rfl, by decide +kernel, by decide +kernel⟩
theorem sc_l_kinds : FnScope ["_law_e"] ["_law_e"] (defScope s_l_kinds) := ⟨rfl, rfl, rfl, by decide +kernel, rfl, by decide +kernel, by decide +kernel⟩
theorem sc_law : FnScope ["_law_script", "_law_cell", "_law_number", "_law_thing", "_law_some", "_law_k", "_law_e", "_law_kept", "_law_other"] ["_law_script"] (defScope s_law) := ⟨rfl, rfl, rfl, by decide +kernel, rfl, by decide +kernel, by decide +kernel⟩
def d_BadTable_init : He5.DefA := { at_ := fun K => He.ma K (He.ga K "BadTable") "__init__", name := "__init__", qual := "BadTable.__init__", params := defArgs s_BadTable_init, body := defBody s_BadTable_init, scope := defScope s_BadTable_init }
def d_BadLine_init : He5.DefA := { at_ := fun K => He.ma K (He.ga K "BadLine") "__init__", name := "__init__", qual := "BadLine.__init__", params := defArgs s_BadLine_init, body := defBody s_BadLine_init, scope := defScope s_BadLine_init }
def d_BadSpan_init : He5.DefA := { at_ := fun K => He.ma K (He.ga K "BadSpan") "__init__", name := "__init__", qual := "BadSpan.__init__", params := defArgs s_BadSpan_init, body := defBody s_BadSpan_init, scope := defScope s_BadSpan_init }
def d_BadStep_init : He5.DefA := { at_ := fun K => He.ma K (He.ga K "BadStep") "__init__", name := "__init__", qual := "BadStep.__init__", params := defArgs s_BadStep_init, body := defBody s_BadStep_init, scope := defScope s_BadStep_init }
def d_BadCount_init : He5.DefA := { at_ := fun K => He.ma K (He.ga K "BadCount") "__init__", name := "__init__", qual := "BadCount.__init__", params := defArgs s_BadCount_init, body := defBody s_BadCount_init, scope := defScope s_BadCount_init }
def d_BadText_init : He5.DefA := { at_ := fun K => He.ma K (He.ga K "BadText") "__init__", name := "__init__", qual := "BadText.__init__", params := defArgs s_BadText_init, body := defBody s_BadText_init, scope := defScope s_BadText_init }
def d_l_kinds : He5.DefA := { at_ := fun K => He.ga K "_law_kinds", name := "_law_kinds", qual := "_law_kinds", params := defArgs s_l_kinds, body := defBody s_l_kinds, scope := defScope s_l_kinds }
def d_law : He5.DefA := { at_ := fun K => He.ga K "law", name := "law", qual := "law", params := defArgs s_law, body := defBody s_law, scope := defScope s_law }
def fn : List He5.DefA := [d_BadTable_init, d_BadLine_init, d_BadSpan_init, d_BadStep_init, d_BadCount_init, d_BadText_init, d_l_kinds, d_law]
def fa : List He.Fa := [.glo "_law_kinds", .glo "law", .free "isinstance", .free "int", .free "enumerate", .free "ValueError", .free "range", .glo "TableError", .glo "BadTable", .glo "BadLine", .glo "BadSpan", .glo "BadStep", .glo "BadCount", .glo "BadText", .glo "TooLong"]
def ex (K : PySem.W.Frag) : Bool := excB K "BadTable" ["at", "why"] && (excB K "BadLine" ["line"] && (excB K "BadSpan" ["at"] && (excB K "BadStep" ["step"] && (excB K "BadCount" ["many"] && (excB K "BadText" ["at"] && (kindsB K ["BadTable", "BadLine", "BadSpan", "BadStep", "BadCount", "BadText", "TooLong"] "TableError" && (bareB K "TooLong" && (true))))))))
/-- the written part behind the top -/
structure Wd (K : PySem.W.Frag) (mg : Str → Option Value) : Prop where
  i : ∃ h : Heap, K.In h ∧ h.Ns mainGlobals mg
  c : Told fa fn ex K
section
variable {K : PySem.W.Frag} {mg : Str → Option Value}
theorem g_l_kinds (W : Wd K mg) : mg "_law_kinds" = some (.ref (He.ga K "_law_kinds")) := by
  obtain ⟨h, X, G⟩ := W.i
  exact He.glo_ok X G (W.c.a.fact 0 rfl)
theorem g_law (W : Wd K mg) : mg "law" = some (.ref (He.ga K "law")) := by
  obtain ⟨h, X, G⟩ := W.i
  exact He.glo_ok X G (W.c.a.fact 1 rfl)
theorem g_isinstance (W : Wd K mg) : mg "isinstance" = none := by
  obtain ⟨h, X, G⟩ := W.i
  exact He.free_ok X G (W.c.a.fact 2 rfl)
theorem g_int (W : Wd K mg) : mg "int" = none := by
  obtain ⟨h, X, G⟩ := W.i
  exact He.free_ok X G (W.c.a.fact 3 rfl)
theorem g_enumerate (W : Wd K mg) : mg "enumerate" = none := by
  obtain ⟨h, X, G⟩ := W.i
  exact He.free_ok X G (W.c.a.fact 4 rfl)
theorem g_ValueError (W : Wd K mg) : mg "ValueError" = none := by
  obtain ⟨h, X, G⟩ := W.i
  exact He.free_ok X G (W.c.a.fact 5 rfl)
theorem g_range (W : Wd K mg) : mg "range" = none := by
  obtain ⟨h, X, G⟩ := W.i
  exact He.free_ok X G (W.c.a.fact 6 rfl)
theorem g_TableError (W : Wd K mg) : mg "TableError" = some (.ref (He.ga K "TableError")) := by
  obtain ⟨h, X, G⟩ := W.i
  exact He.glo_ok X G (W.c.a.fact 7 rfl)
theorem g_BadTable (W : Wd K mg) : mg "BadTable" = some (.ref (He.ga K "BadTable")) := by
  obtain ⟨h, X, G⟩ := W.i
  exact He.glo_ok X G (W.c.a.fact 8 rfl)
theorem g_BadLine (W : Wd K mg) : mg "BadLine" = some (.ref (He.ga K "BadLine")) := by
  obtain ⟨h, X, G⟩ := W.i
  exact He.glo_ok X G (W.c.a.fact 9 rfl)
theorem g_BadSpan (W : Wd K mg) : mg "BadSpan" = some (.ref (He.ga K "BadSpan")) := by
  obtain ⟨h, X, G⟩ := W.i
  exact He.glo_ok X G (W.c.a.fact 10 rfl)
theorem g_BadStep (W : Wd K mg) : mg "BadStep" = some (.ref (He.ga K "BadStep")) := by
  obtain ⟨h, X, G⟩ := W.i
  exact He.glo_ok X G (W.c.a.fact 11 rfl)
theorem g_BadCount (W : Wd K mg) : mg "BadCount" = some (.ref (He.ga K "BadCount")) := by
  obtain ⟨h, X, G⟩ := W.i
  exact He.glo_ok X G (W.c.a.fact 12 rfl)
theorem g_BadText (W : Wd K mg) : mg "BadText" = some (.ref (He.ga K "BadText")) := by
  obtain ⟨h, X, G⟩ := W.i
  exact He.glo_ok X G (W.c.a.fact 13 rfl)
theorem g_TooLong (W : Wd K mg) : mg "TooLong" = some (.ref (He.ga K "TooLong")) := by
  obtain ⟨h, X, G⟩ := W.i
  exact He.glo_ok X G (W.c.a.fact 14 rfl)
theorem x_BadTable (W : Wd K mg) : ExcF K mg "BadTable" ["at", "why"] := by
  obtain ⟨h, X, G⟩ := W.i
  have c := W.c.b
  exact excF_of X G (He.ba c).1
theorem x_BadLine (W : Wd K mg) : ExcF K mg "BadLine" ["line"] := by
  obtain ⟨h, X, G⟩ := W.i
  have c := W.c.b
  have c := (He.ba c).2
  exact excF_of X G (He.ba c).1
theorem x_BadSpan (W : Wd K mg) : ExcF K mg "BadSpan" ["at"] := by
  obtain ⟨h, X, G⟩ := W.i
  have c := W.c.b
  have c := (He.ba c).2
  have c := (He.ba c).2
  exact excF_of X G (He.ba c).1
theorem x_BadStep (W : Wd K mg) : ExcF K mg "BadStep" ["step"] := by
  obtain ⟨h, X, G⟩ := W.i
  have c := W.c.b
  have c := (He.ba c).2
  have c := (He.ba c).2
  have c := (He.ba c).2
  exact excF_of X G (He.ba c).1
theorem x_BadCount (W : Wd K mg) : ExcF K mg "BadCount" ["many"] := by
  obtain ⟨h, X, G⟩ := W.i
  have c := W.c.b
  have c := (He.ba c).2
  have c := (He.ba c).2
  have c := (He.ba c).2
  have c := (He.ba c).2
  exact excF_of X G (He.ba c).1
theorem x_BadText (W : Wd K mg) : ExcF K mg "BadText" ["at"] := by
  obtain ⟨h, X, G⟩ := W.i
  have c := W.c.b
  have c := (He.ba c).2
  have c := (He.ba c).2
  have c := (He.ba c).2
  have c := (He.ba c).2
  have c := (He.ba c).2
  exact excF_of X G (He.ba c).1
theorem x_kinds (W : Wd K mg) : KindsF K ["BadTable", "BadLine", "BadSpan", "BadStep", "BadCount", "BadText", "TooLong"] "TableError" := by
  obtain ⟨h, X, G⟩ := W.i
  have c := W.c.b
  have c := (He.ba c).2
  have c := (He.ba c).2
  have c := (He.ba c).2
  have c := (He.ba c).2
  have c := (He.ba c).2
  have c := (He.ba c).2
  exact kindsF_of (He.ba c).1
theorem x_TooLong (W : Wd K mg) : PySem.W.excIn K (He.ga K "TooLong") [.type "ValueError", .type "Exception", .type "BaseException", .type "object"] "ValueError.__new__" = true ∧ PySem.W.keepIn K (.ref (He.ga K "TooLong")) = true := by
  obtain ⟨h, X, G⟩ := W.i
  have c := W.c.b
  have c := (He.ba c).2
  have c := (He.ba c).2
  have c := (He.ba c).2
  have c := (He.ba c).2
  have c := (He.ba c).2
  have c := (He.ba c).2
  have c := (He.ba c).2
  exact He.ba (He.ba c).1
theorem F_BadTable_init (W : Wd K mg) : ∃ fd, FunD K "__init__" "BadTable.__init__" (defArgs s_BadTable_init) (defBody s_BadTable_init) (defScope s_BadTable_init) [] [] (He.ma K (He.ga K "BadTable") "__init__") fd := W.c.a.def_ 0 (d := d_BadTable_init) rfl
theorem F_BadLine_init (W : Wd K mg) : ∃ fd, FunD K "__init__" "BadLine.__init__" (defArgs s_BadLine_init) (defBody s_BadLine_init) (defScope s_BadLine_init) [] [] (He.ma K (He.ga K "BadLine") "__init__") fd := W.c.a.def_ 1 (d := d_BadLine_init) rfl
theorem F_BadSpan_init (W : Wd K mg) : ∃ fd, FunD K "__init__" "BadSpan.__init__" (defArgs s_BadSpan_init) (defBody s_BadSpan_init) (defScope s_BadSpan_init) [] [] (He.ma K (He.ga K "BadSpan") "__init__") fd := W.c.a.def_ 2 (d := d_BadSpan_init) rfl
theorem F_BadStep_init (W : Wd K mg) : ∃ fd, FunD K "__init__" "BadStep.__init__" (defArgs s_BadStep_init) (defBody s_BadStep_init) (defScope s_BadStep_init) [] [] (He.ma K (He.ga K "BadStep") "__init__") fd := W.c.a.def_ 3 (d := d_BadStep_init) rfl
theorem F_BadCount_init (W : Wd K mg) : ∃ fd, FunD K "__init__" "BadCount.__init__" (defArgs s_BadCount_init) (defBody s_BadCount_init) (defScope s_BadCount_init) [] [] (He.ma K (He.ga K "BadCount") "__init__") fd := W.c.a.def_ 4 (d := d_BadCount_init) rfl
theorem F_BadText_init (W : Wd K mg) : ∃ fd, FunD K "__init__" "BadText.__init__" (defArgs s_BadText_init) (defBody s_BadText_init) (defScope s_BadText_init) [] [] (He.ma K (He.ga K "BadText") "__init__") fd := W.c.a.def_ 5 (d := d_BadText_init) rfl
theorem F_l_kinds (W : Wd K mg) : ∃ fd, FunD K "_law_kinds" "_law_kinds" (defArgs s_l_kinds) (defBody s_l_kinds) (defScope s_l_kinds) [] [] (He.ga K "_law_kinds") fd := W.c.a.def_ 6 (d := d_l_kinds) rfl
theorem F_law (W : Wd K mg) : ∃ fd, FunD K "law" "law" (defArgs s_law) (defBody s_law) (defScope s_law) [] [] (He.ga K "law") fd := W.c.a.def_ 7 (d := d_law) rfl
end
theorem i_BadTable {P : Program} {w : World} {K : PySem.W.Frag} {mg : Str → Option Value} {base : Heap} (W : Wd K mg) : IOk P w K mg base 1 "BadTable" ["self", "at", "why"] (spInit2 (He.ga K "BadTable") "at" "why") := by
  obtain ⟨fd, F⟩ := F_BadTable_init W
  refine ⟨fd, ?_, F.bindsN fun _ _ _ _ _ _ us hl => match us, hl with | [_, _, _], _ => rfl⟩
  refine F.ok sc_BadTable_init (fun vs H Q E h => ?_) (fun cdv A outer s H vs Q E hr h => ?_)
  · obtain ⟨a, v, u, rfl, _⟩ := h
    rfl
  · obtain ⟨a, v, u, rfl, ha, q⟩ := h
    refine ⟨_, PSs.nox (pss_cons (ps_ost (pv 0) (pv 1)) (pss_one (ps_ost (pv 0) (pv 2)))), ?_⟩
    refine ⟨v, rfl, .ref a, rfl, a, _, rfl, (x_BadTable W).ox, (x_BadTable W).no _ (by simp), .inl ⟨ha, fun dx n ne => ?_⟩⟩
    refine ⟨u, rfl, .ref a, rfl, a, _, rfl, (x_BadTable W).ox, (x_BadTable W).no _ (by simp), .inr ⟨dx, _, upd_same, by rw [upd_ne ne, upd_same], by show 1 ≤ 900; decide, ?_⟩⟩
    rw [upd_swap ne]
    exact q dx n ne
theorem i_BadLine {P : Program} {w : World} {K : PySem.W.Frag} {mg : Str → Option Value} {base : Heap} (W : Wd K mg) : IOk P w K mg base 1 "BadLine" ["self", "line"] (spInit1 (He.ga K "BadLine") "line") := by
  obtain ⟨fd, F⟩ := F_BadLine_init W
  refine ⟨fd, ?_, F.bindsN fun _ _ _ _ _ _ us hl => match us, hl with | [_, _], _ => rfl⟩
  refine F.ok sc_BadLine_init (fun vs H Q E h => ?_) (fun cdv A outer s H vs Q E hr h => ?_)
  · obtain ⟨a, v, rfl, _⟩ := h
    rfl
  · obtain ⟨a, v, rfl, ha, q⟩ := h
    refine ⟨_, PSs.nox (pss_one (ps_ost (pv 0) (pv 1))), ?_⟩
    exact ⟨v, rfl, .ref a, rfl, a, _, rfl, (x_BadLine W).ox, (x_BadLine W).no _ (by simp), .inl ⟨ha, q⟩⟩
theorem i_BadSpan {P : Program} {w : World} {K : PySem.W.Frag} {mg : Str → Option Value} {base : Heap} (W : Wd K mg) : IOk P w K mg base 1 "BadSpan" ["self", "at"] (spInit1 (He.ga K "BadSpan") "at") := by
  obtain ⟨fd, F⟩ := F_BadSpan_init W
  refine ⟨fd, ?_, F.bindsN fun _ _ _ _ _ _ us hl => match us, hl with | [_, _], _ => rfl⟩
  refine F.ok sc_BadSpan_init (fun vs H Q E h => ?_) (fun cdv A outer s H vs Q E hr h => ?_)
  · obtain ⟨a, v, rfl, _⟩ := h
    rfl
  · obtain ⟨a, v, rfl, ha, q⟩ := h
    refine ⟨_, PSs.nox (pss_one (ps_ost (pv 0) (pv 1))), ?_⟩
    exact ⟨v, rfl, .ref a, rfl, a, _, rfl, (x_BadSpan W).ox, (x_BadSpan W).no _ (by simp), .inl ⟨ha, q⟩⟩
theorem i_BadStep {P : Program} {w : World} {K : PySem.W.Frag} {mg : Str → Option Value} {base : Heap} (W : Wd K mg) : IOk P w K mg base 1 "BadStep" ["self", "step"] (spInit1 (He.ga K "BadStep") "step") := by
  obtain ⟨fd, F⟩ := F_BadStep_init W
  refine ⟨fd, ?_, F.bindsN fun _ _ _ _ _ _ us hl => match us, hl with | [_, _], _ => rfl⟩
  refine F.ok sc_BadStep_init (fun vs H Q E h => ?_) (fun cdv A outer s H vs Q E hr h => ?_)
  · obtain ⟨a, v, rfl, _⟩ := h
    rfl
  · obtain ⟨a, v, rfl, ha, q⟩ := h
    refine ⟨_, PSs.nox (pss_one (ps_ost (pv 0) (pv 1))), ?_⟩
    exact ⟨v, rfl, .ref a, rfl, a, _, rfl, (x_BadStep W).ox, (x_BadStep W).no _ (by simp), .inl ⟨ha, q⟩⟩
theorem i_BadCount {P : Program} {w : World} {K : PySem.W.Frag} {mg : Str → Option Value} {base : Heap} (W : Wd K mg) : IOk P w K mg base 1 "BadCount" ["self", "many"] (spInit1 (He.ga K "BadCount") "many") := by
  obtain ⟨fd, F⟩ := F_BadCount_init W
  refine ⟨fd, ?_, F.bindsN fun _ _ _ _ _ _ us hl => match us, hl with | [_, _], _ => rfl⟩
  refine F.ok sc_BadCount_init (fun vs H Q E h => ?_) (fun cdv A outer s H vs Q E hr h => ?_)
  · obtain ⟨a, v, rfl, _⟩ := h
    rfl
  · obtain ⟨a, v, rfl, ha, q⟩ := h
    refine ⟨_, PSs.nox (pss_one (ps_ost (pv 0) (pv 1))), ?_⟩
    exact ⟨v, rfl, .ref a, rfl, a, _, rfl, (x_BadCount W).ox, (x_BadCount W).no _ (by simp), .inl ⟨ha, q⟩⟩
theorem i_BadText {P : Program} {w : World} {K : PySem.W.Frag} {mg : Str → Option Value} {base : Heap} (W : Wd K mg) : IOk P w K mg base 1 "BadText" ["self", "at"] (spInit1 (He.ga K "BadText") "at") := by
  obtain ⟨fd, F⟩ := F_BadText_init W
  refine ⟨fd, ?_, F.bindsN fun _ _ _ _ _ _ us hl => match us, hl with | [_, _], _ => rfl⟩
  refine F.ok sc_BadText_init (fun vs H Q E h => ?_) (fun cdv A outer s H vs Q E hr h => ?_)
  · obtain ⟨a, v, rfl, _⟩ := h
    rfl
  · obtain ⟨a, v, rfl, ha, q⟩ := h
    refine ⟨_, PSs.nox (pss_one (ps_ost (pv 0) (pv 1))), ?_⟩
    exact ⟨v, rfl, .ref a, rfl, a, _, rfl, (x_BadText W).ox, (x_BadText W).no _ (by simp), .inl ⟨ha, q⟩⟩
theorem k_BadTable {P : Program} {w : World} {K : PySem.W.Frag} {mg : Str → Option Value} {base : Heap} (W : Wd K mg) : KOk P w K mg base 1 "BadTable" ["self", "at", "why"] ["why", "at"] (fun l => l.reverse) (spInit2 (He.ga K "BadTable") "at" "why") := by
  obtain ⟨fd, F⟩ := F_BadTable_init W
  refine ⟨fd, ?_, fun s a ws hl => match ws, hl with | [_, _], _ => kb0 F (fun _ _ _ _ _ _ => by rfl) s⟩
  refine F.ok sc_BadTable_init (fun vs H Q E h => ?_) (fun cdv A outer s H vs Q E hr h => ?_)
  · obtain ⟨a, v, u, rfl, _⟩ := h
    rfl
  · obtain ⟨a, v, u, rfl, ha, q⟩ := h
    refine ⟨_, PSs.nox (pss_cons (ps_ost (pv 0) (pv 1)) (pss_one (ps_ost (pv 0) (pv 2)))), ?_⟩
    refine ⟨v, rfl, .ref a, rfl, a, _, rfl, (x_BadTable W).ox, (x_BadTable W).no _ (by simp), .inl ⟨ha, fun dx n ne => ?_⟩⟩
    refine ⟨u, rfl, .ref a, rfl, a, _, rfl, (x_BadTable W).ox, (x_BadTable W).no _ (by simp), .inr ⟨dx, _, upd_same, by rw [upd_ne ne, upd_same], by show 1 ≤ 900; decide, ?_⟩⟩
    rw [upd_swap ne]
    exact q dx n ne
theorem k_BadLine {P : Program} {w : World} {K : PySem.W.Frag} {mg : Str → Option Value} {base : Heap} (W : Wd K mg) : KOk P w K mg base 1 "BadLine" ["self", "line"] ["line"] (fun l => l) (spInit1 (He.ga K "BadLine") "line") := by
  obtain ⟨fd, F⟩ := F_BadLine_init W
  refine ⟨fd, ?_, fun s a ws hl => match ws, hl with | [_], _ => kb0 F (fun _ _ _ _ _ _ => by rfl) s⟩
  refine F.ok sc_BadLine_init (fun vs H Q E h => ?_) (fun cdv A outer s H vs Q E hr h => ?_)
  · obtain ⟨a, v, rfl, _⟩ := h
    rfl
  · obtain ⟨a, v, rfl, ha, q⟩ := h
    refine ⟨_, PSs.nox (pss_one (ps_ost (pv 0) (pv 1))), ?_⟩
    exact ⟨v, rfl, .ref a, rfl, a, _, rfl, (x_BadLine W).ox, (x_BadLine W).no _ (by simp), .inl ⟨ha, q⟩⟩
theorem k_BadSpan {P : Program} {w : World} {K : PySem.W.Frag} {mg : Str → Option Value} {base : Heap} (W : Wd K mg) : KOk P w K mg base 1 "BadSpan" ["self", "at"] ["at"] (fun l => l) (spInit1 (He.ga K "BadSpan") "at") := by
  obtain ⟨fd, F⟩ := F_BadSpan_init W
  refine ⟨fd, ?_, fun s a ws hl => match ws, hl with | [_], _ => kb0 F (fun _ _ _ _ _ _ => by rfl) s⟩
  refine F.ok sc_BadSpan_init (fun vs H Q E h => ?_) (fun cdv A outer s H vs Q E hr h => ?_)
  · obtain ⟨a, v, rfl, _⟩ := h
    rfl
  · obtain ⟨a, v, rfl, ha, q⟩ := h
    refine ⟨_, PSs.nox (pss_one (ps_ost (pv 0) (pv 1))), ?_⟩
    exact ⟨v, rfl, .ref a, rfl, a, _, rfl, (x_BadSpan W).ox, (x_BadSpan W).no _ (by simp), .inl ⟨ha, q⟩⟩
theorem k_BadStep {P : Program} {w : World} {K : PySem.W.Frag} {mg : Str → Option Value} {base : Heap} (W : Wd K mg) : KOk P w K mg base 1 "BadStep" ["self", "step"] ["step"] (fun l => l) (spInit1 (He.ga K "BadStep") "step") := by
  obtain ⟨fd, F⟩ := F_BadStep_init W
  refine ⟨fd, ?_, fun s a ws hl => match ws, hl with | [_], _ => kb0 F (fun _ _ _ _ _ _ => by rfl) s⟩
  refine F.ok sc_BadStep_init (fun vs H Q E h => ?_) (fun cdv A outer s H vs Q E hr h => ?_)
  · obtain ⟨a, v, rfl, _⟩ := h
    rfl
  · obtain ⟨a, v, rfl, ha, q⟩ := h
    refine ⟨_, PSs.nox (pss_one (ps_ost (pv 0) (pv 1))), ?_⟩
    exact ⟨v, rfl, .ref a, rfl, a, _, rfl, (x_BadStep W).ox, (x_BadStep W).no _ (by simp), .inl ⟨ha, q⟩⟩
theorem k_BadCount {P : Program} {w : World} {K : PySem.W.Frag} {mg : Str → Option Value} {base : Heap} (W : Wd K mg) : KOk P w K mg base 1 "BadCount" ["self", "many"] ["many"] (fun l => l) (spInit1 (He.ga K "BadCount") "many") := by
  obtain ⟨fd, F⟩ := F_BadCount_init W
  refine ⟨fd, ?_, fun s a ws hl => match ws, hl with | [_], _ => kb0 F (fun _ _ _ _ _ _ => by rfl) s⟩
  refine F.ok sc_BadCount_init (fun vs H Q E h => ?_) (fun cdv A outer s H vs Q E hr h => ?_)
  · obtain ⟨a, v, rfl, _⟩ := h
    rfl
  · obtain ⟨a, v, rfl, ha, q⟩ := h
    refine ⟨_, PSs.nox (pss_one (ps_ost (pv 0) (pv 1))), ?_⟩
    exact ⟨v, rfl, .ref a, rfl, a, _, rfl, (x_BadCount W).ox, (x_BadCount W).no _ (by simp), .inl ⟨ha, q⟩⟩
theorem k_BadText {P : Program} {w : World} {K : PySem.W.Frag} {mg : Str → Option Value} {base : Heap} (W : Wd K mg) : KOk P w K mg base 1 "BadText" ["self", "at"] ["at"] (fun l => l) (spInit1 (He.ga K "BadText") "at") := by
  obtain ⟨fd, F⟩ := F_BadText_init W
  refine ⟨fd, ?_, fun s a ws hl => match ws, hl with | [_], _ => kb0 F (fun _ _ _ _ _ _ => by rfl) s⟩
  refine F.ok sc_BadText_init (fun vs H Q E h => ?_) (fun cdv A outer s H vs Q E hr h => ?_)
  · obtain ⟨a, v, rfl, _⟩ := h
    rfl
  · obtain ⟨a, v, rfl, ha, q⟩ := h
    refine ⟨_, PSs.nox (pss_one (ps_ost (pv 0) (pv 1))), ?_⟩
    exact ⟨v, rfl, .ref a, rfl, a, _, rfl, (x_BadText W).ox, (x_BadText W).no _ (by simp), .inl ⟨ha, q⟩⟩
end K03
namespace K03
open PySem PySem.Spec PyProof.Rows L2 Lay
abbrev N7 : List Str := ["BadTable", "BadLine", "BadSpan", "BadStep", "BadCount", "BadText", "TooLong"]
theorem kn {K : PySem.W.Frag} {mg : Str → Option Value} (W : Wd K mg) : KindsF K N7 "TableError" := x_kinds W
/-- what a value is not, or is -/
def kl (x : Str) : List V := N7.map fun y => V.bl (x == y)
def sp_kinds (K : PySem.W.Frag) : Sp := fun vs H Q _ => ∃ (v : V) (x : Str) (fs : List (Str × V)), vs = [v] ∧ x ∈ N7 ∧ ExV H v (He.ga K x) fs ∧ ∀ p, H p = none → Q (.ref p) (upd H p (.lst (kl x)))
theorem ok_l_kinds {P : Program} {w : World} {K : PySem.W.Frag} {mg : Str → Option Value} {base : Heap} (W : Wd K mg) : FOk P w K mg base CX0 1 "_law_kinds" ["_law_e"] (sp_kinds K) :=
  fok (F_l_kinds W) (g_l_kinds W) (fun _ _ _ _ _ _ us hl => match us, hl with | [_], _ => rfl) fun fd F => by
  refine F.ok sc_l_kinds (fun vs H Q E h => ?_) (fun cdv A outer s H vs Q E hr h => ?_)
  · obtain ⟨v, x, fs, rfl, _⟩ := h
    rfl
  · obtain ⟨v, x, fs, rfl, hx, hv, q⟩ := h
    refine ⟨_, PSs.nox (pss_one (ps_ret (pe_lst (pa_cons (pe_callB call_isV (by rfl) (g_isinstance W) (by decide +kernel) (pa_cons (pv 0) (pa_cons (pe_glob (v := .ref (He.ga K "BadTable")) rfl (g_BadTable W) rfl) pa_nil))) (pa_cons (pe_callB call_isV (by rfl) (g_isinstance W) (by decide +kernel) (pa_cons (pv 0) (pa_cons (pe_glob (v := .ref (He.ga K "BadLine")) rfl (g_BadLine W) rfl) pa_nil))) (pa_cons (pe_callB call_isV (by rfl) (g_isinstance W) (by decide +kernel) (pa_cons (pv 0) (pa_cons (pe_glob (v := .ref (He.ga K "BadSpan")) rfl (g_BadSpan W) rfl) pa_nil))) (pa_cons (pe_callB call_isV (by rfl) (g_isinstance W) (by decide +kernel) (pa_cons (pv 0) (pa_cons (pe_glob (v := .ref (He.ga K "BadStep")) rfl (g_BadStep W) rfl) pa_nil))) (pa_cons (pe_callB call_isV (by rfl) (g_isinstance W) (by decide +kernel) (pa_cons (pv 0) (pa_cons (pe_glob (v := .ref (He.ga K "BadCount")) rfl (g_BadCount W) rfl) pa_nil))) (pa_cons (pe_callB call_isV (by rfl) (g_isinstance W) (by decide +kernel) (pa_cons (pv 0) (pa_cons (pe_glob (v := .ref (He.ga K "BadText")) rfl (g_BadText W) rfl) pa_nil))) (pa_cons (pe_callB call_isV (by rfl) (g_isinstance W) (by decide +kernel) (pa_cons (pv 0) (pa_cons (pe_glob (v := .ref (He.ga K "TooLong")) rfl (g_TooLong W) rfl) pa_nil))) pa_nil)))))))))), ?_⟩
    refine ⟨v, rfl, v, _, _, fs, _, _, rfl, hv, ((kn W).c x hx).1, .own _, (kn W).a x hx "BadTable" (by simp), ⟨v, rfl, v, _, _, fs, _, _, rfl, hv, ((kn W).c x hx).1, .own _, (kn W).a x hx "BadLine" (by simp), ⟨v, rfl, v, _, _, fs, _, _, rfl, hv, ((kn W).c x hx).1, .own _, (kn W).a x hx "BadSpan" (by simp), ⟨v, rfl, v, _, _, fs, _, _, rfl, hv, ((kn W).c x hx).1, .own _, (kn W).a x hx "BadStep" (by simp), ⟨v, rfl, v, _, _, fs, _, _, rfl, hv, ((kn W).c x hx).1, .own _, (kn W).a x hx "BadCount" (by simp), ⟨v, rfl, v, _, _, fs, _, _, rfl, hv, ((kn W).c x hx).1, .own _, (kn W).a x hx "BadText" (by simp), ⟨v, rfl, v, _, _, fs, _, _, rfl, hv, ((kn W).c x hx).1, .own _, (kn W).a x hx "TooLong" (by simp), by show 7 ≤ sizeLine; decide, fun p np => q p np⟩⟩⟩⟩⟩⟩⟩
def sp_law (K : PySem.W.Frag) : Sp := fun vs H Q _ => ∃ (a : Addr) (ns : List Int), vs = [.ref a] ∧ SqL K H a (ns.map V.int) ∧ ns.length ≤ 63 ∧ ∀ H', Q (.bl true) H'
abbrev N14 : List Str := ["BadTable", "BadLine", "BadSpan", "BadStep", "BadCount", "BadText", "TooLong", "BadTable", "BadLine", "BadSpan", "BadStep", "BadCount", "BadText", "TooLong"]
/-- what is passed -/
def Th (H : Hp) (v : V) : Prop := v = .non ∨ (∃ i, v = .int i) ∨ v = .str "x" ∨ (∃ a, v = .ref a ∧ H a = some (.tup [.int 1, .int 2])) ∨ (∃ a, v = .ref a ∧ H a = some (.lst [.int 3]))
theorem Th.same {H H' : Hp} {v : V} (h : Th H v) (s : Same H H') : Th H' v := by
  rcases h with h | h | h | ⟨a, e, h⟩ | ⟨a, e, h⟩
  · exact .inl h
  · exact .inr (.inl h)
  · exact .inr (.inr (.inl h))
  · exact .inr (.inr (.inr (.inl ⟨a, e, s _ _ h⟩)))
  · exact .inr (.inr (.inr (.inr ⟨a, e, s _ _ h⟩)))
theorem Th.dp {K : PySem.W.Frag} {H : Hp} {v : V} (h : Th H v) (N : Int) : ∃ d, Dp K H v d ∧ SeqAt.shaped (.list [.int N, d, d, d, d, d, d]) = true ∧ PyData.eqv (.list [.int N, d, d, d, d, d, d]) (.list [.int N, d, d, d, d, d, d]) = true := by
  rcases h with rfl | ⟨i, rfl⟩ | rfl | ⟨a, rfl, h⟩ | ⟨a, rfl, h⟩
  · exact ⟨_, .non, rfl, by simp [PyData.eqv, PyData.eqvAll]⟩
  · exact ⟨_, .int i, rfl, by simp [PyData.eqv, PyData.eqvAll]⟩
  · exact ⟨_, .str _, by kernel_rfl, by simp [PyData.eqv, PyData.eqvAll]⟩
  · exact ⟨_, .tup (SqT.of h) (.cons (.int 1) (.cons (.int 2) .nil)), rfl, by simp [PyData.eqv, PyData.eqvAll]⟩
  · exact ⟨_, .lst (SqL.of h) (.cons (.int 3) .nil), rfl, by simp [PyData.eqv, PyData.eqvAll]⟩
theorem dp7 {K : PySem.W.Frag} {H : Hp} {p : Addr} {a b c d e f g : V} {xs : List V} (h : H p = some (.lst xs)) (e0 : xs = [a, b, c, d, e, f, g]) {da db dc dd de df dg : PyData} (h1 : Dp K H a da) (h2 : Dp K H b db) (h3 : Dp K H c dc) (h4 : Dp K H d dd) (h5 : Dp K H e de) (h6 : Dp K H f df) (h7 : Dp K H g dg) :
    Dp K H (.ref p) (.list [da, db, dc, dd, de, df, dg]) := by
  subst e0
  exact .lst (SqL.of h) (.cons h1 (.cons h2 (.cons h3 (.cons h4 (.cons h5 (.cons h6 (.cons h7 .nil)))))))
theorem eqv7 (a b c d e f g : Bool) : SeqAt.shaped (.list [.bool a, .bool b, .bool c, .bool d, .bool e, .bool f, .bool g]) = true ∧ PyData.eqv (.list [.bool a, .bool b, .bool c, .bool d, .bool e, .bool f, .bool g]) (.list [.bool a, .bool b, .bool c, .bool d, .bool e, .bool f, .bool g]) = true := ⟨rfl, by simp [PyData.eqv, PyData.eqvAll]⟩
theorem atI6 {xs : List V} (h : xs.length = 6) (n : Int) : ∃ v, atI xs (n % 6) = some v ∧ v ∈ xs := by
  have h0 : 0 ≤ n % 6 := Int.emod_nonneg _ (by decide)
  have h1 : n % 6 < 6 := Int.emod_lt_of_pos _ (by decide)
  have hl : (n % 6).toNat < xs.length := by omega
  refine ⟨xs[(n % 6).toNat], ?_, List.getElem_mem hl⟩
  unfold atI ixN
  rw [if_pos h0, if_pos (by rw [h]; exact h1)]
  exact List.getElem?_eq_getElem hl
theorem len14 {es : List V} (h : es.length = 14) : ∃ a b c d e f g a' b' c' d' e' f' g', es = [a, b, c, d, e, f, g, a', b', c', d', e', f', g'] :=
  match es, h with | [_, _, _, _, _, _, _, _, _, _, _, _, _, _], _ => ⟨_, _, _, _, _, _, _, _, _, _, _, _, _, _, rfl⟩
theorem get2 {es : List V} {i : Nat} {v : V} (h : es[i]? = some v) (hl : es.length = 14) : i < 14 := by
  rw [← hl]
  exact (List.getElem?_eq_some_iff.mp h).1
/-- the fields of the class x -/
def fl (N : Int) (th : V) (x : Str) : List (Str × V) :=
  if x = "BadTable" then [("why", th), ("at", .int N)] else if x = "BadLine" then [("line", th)] else if x = "BadStep" then [("step", th)] else if x = "BadCount" then [("many", th)] else if x = "TooLong" then [] else [("at", th)]
theorem fl1 {N : Int} {th : V} : fl N th "BadTable" = ([("why", th), ("at", .int N)] : List (Str × V)) := by kernel_rfl
theorem fl2 {N : Int} {th : V} : fl N th "BadLine" = ([("line", th)] : List (Str × V)) := by kernel_rfl
theorem fl3 {N : Int} {th : V} : fl N th "BadSpan" = ([("at", th)] : List (Str × V)) := by kernel_rfl
theorem fl4 {N : Int} {th : V} : fl N th "BadStep" = ([("step", th)] : List (Str × V)) := by kernel_rfl
theorem fl5 {N : Int} {th : V} : fl N th "BadCount" = ([("many", th)] : List (Str × V)) := by kernel_rfl
theorem fl6 {N : Int} {th : V} : fl N th "BadText" = ([("at", th)] : List (Str × V)) := by kernel_rfl
theorem fl7 {N : Int} {th : V} : fl N th "TooLong" = ([] : List (Str × V)) := by kernel_rfl
theorem lk1 {N : Int} {th : V} : (fl N th "BadTable").lookup ("at" : Str) = some (.int N) := by kernel_rfl
theorem lk2 {N : Int} {th : V} : (fl N th "BadTable").lookup ("why" : Str) = some th := by kernel_rfl
theorem lk3 {N : Int} {th : V} : (fl N th "BadLine").lookup ("line" : Str) = some th := by kernel_rfl
theorem lk4 {N : Int} {th : V} : (fl N th "BadSpan").lookup ("at" : Str) = some th := by kernel_rfl
theorem lk5 {N : Int} {th : V} : (fl N th "BadStep").lookup ("step" : Str) = some th := by kernel_rfl
theorem lk6 {N : Int} {th : V} : (fl N th "BadCount").lookup ("many" : Str) = some th := by kernel_rfl
theorem lk7 {N : Int} {th : V} : (fl N th "BadText").lookup ("at" : Str) = some th := by kernel_rfl
def AllE (K : PySem.W.Frag) (H : Hp) (N : Int) (th : V) : List V → List Str → Prop
  | v :: vs, x :: xs => ExV H v (He.ga K x) (fl N th x) ∧ AllE K H N th vs xs
  | [], [] => True
  | _, _ => False
theorem AllE.same {K : PySem.W.Frag} {H H' : Hp} {N : Int} {th : V} (s : Same H H') : ∀ {vs : List V} {xs : List Str}, AllE K H N th vs xs → AllE K H' N th vs xs
  | [], [], _ => True.intro
  | _ :: _, _ :: _, h => ⟨h.1.same s, AllE.same s h.2⟩
  | [], _ :: _, h => h.elim
  | _ :: _, [], h => h.elim
theorem AllE.snoc {K : PySem.W.Frag} {H H' : Hp} {N : Int} {th v : V} {x : Str} {vs : List V} {xs : List Str} (h : AllE K H N th vs xs) (s : Same H H') (e : ExV H' v (He.ga K x) (fl N th x)) : AllE K H' N th (vs ++ [v]) (xs ++ [x]) := by
  induction vs generalizing xs with
  | nil =>
    cases xs with
    | nil => exact ⟨e, True.intro⟩
    | cons _ _ => exact h.elim
  | cons _ _ ih =>
    cases xs with
    | nil => exact h.elim
    | cons _ _ => exact ⟨h.1.same s, ih h.2⟩
theorem AllE.get {K : PySem.W.Frag} {H : Hp} {N : Int} {th : V} : ∀ {vs : List V} {xs : List Str} {i : Nat} {v : V}, AllE K H N th vs xs → vs[i]? = some v → ∃ x, xs[i]? = some x ∧ ExV H v (He.ga K x) (fl N th x)
  | [], _, i, v, _, e => by simp at e
  | _ :: _, [], _, _, h, _ => h.elim
  | w :: vs, x :: xs, 0, v, h, e => by
    cases e
    exact ⟨x, rfl, h.1⟩
  | w :: vs, x :: xs, i + 1, v, h, e => AllE.get (vs := vs) (xs := xs) (i := i) h.2 (by simpa using e)
theorem AllE.len {K : PySem.W.Frag} {H : Hp} {N : Int} {th : V} : ∀ {vs : List V} {xs : List Str}, AllE K H N th vs xs → vs.length = xs.length
  | [], [], _ => rfl
  | _ :: _, _ :: _, h => congrArg Nat.succ (AllE.len h.2)
  | [], _ :: _, h => h.elim
  | _ :: _, [], h => h.elim
theorem n14_mem {i : Nat} {x : Str} (h : N14[i]? = some x) : x ∈ N7 := by
  have h1 : x ∈ N14 := List.mem_of_getElem? h
  have h2 : ∀ y ∈ N14, y ∈ N7 := by decide +kernel
  exact h2 x h1
theorem n14_kl {i : Nat} {x : Str} (h : N14[i]? = some x) : N7.map (fun y => (x == y)) = (List.range 7).map fun (o : Nat) => ((o : Int) == (i : Int) % 7) := by
  have hi : i < 14 := (List.getElem?_eq_some_iff.mp h).1
  have h2 : ∀ j : Nat, j < 14 → ∀ y, N14[j]? = some y → N7.map (fun z => (y == z)) = (List.range 7).map fun (o : Nat) => ((o : Int) == (j : Int) % 7) := by
    have h3 : ∀ j : Nat, j < 14 → N7.map (fun z => (N14.getD j "" == z)) = (List.range 7).map fun (o : Nat) => ((o : Int) == (j : Int) % 7) := by decide +kernel
    intro j hj y hy
    have e := h3 j hj
    rw [List.getD_eq_getElem?_getD, hy] at e
    exact e
  exact h2 i hi x h
theorem fn_law {P : Program} {w : World} {K : PySem.W.Frag} {mg : Str → Option Value} {base : Heap} (W : Wd K mg) {fd : FuncData} (F : FunD K "law" "law" (defArgs s_law) (defBody s_law) (defScope s_law) [] [] (He.ga K "law") fd) : FnOk P w K mg base CX0 3 (He.ga K "law") fd ["_law_script"] (sp_law K) := by
  refine F.ok sc_law (fun vs H Q E h => ?_) (fun cdv A outer s H vs Q E hr h => ?_)
  · obtain ⟨a, ns, rfl, _⟩ := h
    rfl
  · obtain ⟨a, ns, rfl, hS, hlen, k⟩ := h
    refine ⟨_, PSs.nox (pss_cons (ps_for PassesOwn.never rfl (pi_list (pe_op op_cat (pe_slice sl_list (pv 0) po_none (po_some pe_int)) (pe_lst (pa_cons pe_int pa_nil)))) (pg_name (i := 1) sc_law.nd rfl (Or.inl rfl)) (pss_mid (ps_set (i := 2) sc_law.nd rfl (Or.inl rfl) (pe_op op_sub (pe_op op_mod (pe_callTy call_int1 (by rfl) (g_int W) (by decide +kernel) (pa_cons (pv 1) pa_nil)) (pe_op op_add (pe_op op_mul pe_int (pe_op op_pow pe_int pe_int)) pe_int)) (pe_op op_pow pe_int pe_int))) (pss_mid (ps_set (i := 3) sc_law.nd rfl (Or.inl rfl) (pe_ix ix_list (pe_lst (pa_cons (pv 2) (pa_cons pe_non (pa_cons (pe_un un_neg pe_int) (pa_cons (pe_tup (pa_cons pe_int (pa_cons pe_int pa_nil))) (pa_cons pe_str (pa_cons (pe_lst (pa_cons pe_int pa_nil)) pa_nil))))))) (pe_op op_mod (pe_callTy call_int1 (by rfl) (g_int W) (by decide +kernel) (pa_cons (pv 2) pa_nil)) pe_int) (fun _ _ => rfl))) (pss_cons (ps_set (i := 4) sc_law.nd rfl (Or.inl rfl) (pe_lst (pa_cons (pe_v2 (x_BadTable W) (i_BadTable W) (hr.mono (by decide)) rfl (pa_cons (pv 2) (pa_cons (pv 3) pa_nil))) (pa_cons (pe_v1 (x_BadLine W) (i_BadLine W) (hr.mono (by decide)) rfl (pa_cons (pv 3) pa_nil)) (pa_cons (pe_v1 (x_BadSpan W) (i_BadSpan W) (hr.mono (by decide)) rfl (pa_cons (pv 3) pa_nil)) (pa_cons (pe_v1 (x_BadStep W) (i_BadStep W) (hr.mono (by decide)) rfl (pa_cons (pv 3) pa_nil)) (pa_cons (pe_v1 (x_BadCount W) (i_BadCount W) (hr.mono (by decide)) rfl (pa_cons (pv 3) pa_nil)) pa_nil))))))) (pss_cons (ps_set (i := 4) sc_law.nd rfl (Or.inl rfl) (pe_op op_cat (pv 4) (pe_lst (pa_cons (pe_v1 (x_BadText W) (i_BadText W) (hr.mono (by decide)) rfl (pa_cons (pv 3) pa_nil)) (pa_cons (pe_v0 (x_TooLong W).1 PySem.F.excBase_ValueError (g_TooLong W) (x_TooLong W).2 rfl) pa_nil))))) (pss_cons (ps_set (i := 4) sc_law.nd rfl (Or.inl rfl) (pe_op op_cat (pv 4) (pe_lst (pa_cons (pe_vk2 (x_BadTable W) (k_BadTable W) (hr.mono (by decide)) rfl (pk_cons (pv 3) (pk_cons (pv 2) pk_nil)) (fun _ _ _ => by kernel_rfl)) (pa_cons (pe_vk1 (x_BadLine W) (k_BadLine W) (hr.mono (by decide)) rfl (pk_cons (pv 3) pk_nil) (fun _ _ _ => by kernel_rfl)) (pa_cons (pe_vk1 (x_BadSpan W) (k_BadSpan W) (hr.mono (by decide)) rfl (pk_cons (pv 3) pk_nil) (fun _ _ _ => by kernel_rfl)) (pa_cons (pe_vk1 (x_BadStep W) (k_BadStep W) (hr.mono (by decide)) rfl (pk_cons (pv 3) pk_nil) (fun _ _ _ => by kernel_rfl)) pa_nil))))))) (pss_mid (ps_set (i := 4) sc_law.nd rfl (Or.inl rfl) (pe_op op_cat (pv 4) (pe_lst (pa_cons (pe_vk1 (x_BadCount W) (k_BadCount W) (hr.mono (by decide)) rfl (pk_cons (pv 3) pk_nil) (fun _ _ _ => by kernel_rfl)) (pa_cons (pe_vk1 (x_BadText W) (k_BadText W) (hr.mono (by decide)) rfl (pk_cons (pv 3) pk_nil) (fun _ _ _ => by kernel_rfl)) (pa_cons (pe_v0 (x_TooLong W).1 PySem.F.excBase_ValueError (g_TooLong W) (x_TooLong W).2 rfl) pa_nil)))))) (pss_mid (ps_for PassesOwn.never rfl (pi_enum (by rfl) (g_enumerate W) (pa_cons (pv 4) pa_nil)) (pg_tup rfl (pgs_cons (pg_name (i := 5) sc_law.nd rfl (Or.inr rfl)) (pgs_cons (pg_name (i := 6) sc_law.nd rfl (Or.inl rfl)) pgs_nil))) (pss_cons (ps_if (PW.pt (pw_or (pt_not (pt_val (pe_callB call_isV (by rfl) (g_isinstance W) (by decide +kernel) (pa_cons (pv 6) (pa_cons (pe_glob (v := .ref (He.ga K "TableError")) rfl (g_TableError W) rfl) pa_nil))))) (pw_or1 (pt_not (pt_val (pe_callB call_isV (by rfl) (g_isinstance W) (by decide +kernel) (pa_cons (pv 6) (pa_cons (pe_bltn (v := .ty "ValueError") rfl (g_ValueError W) (by decide +kernel) rfl) pa_nil)))))))) (pss_one (ps_ret pe_bl)) pss_nil) (pss_one (ps_if (pt_cmpR (op_neD hr.units) (pe_cl (ok_l_kinds W) (hr.mono (by decide)) (by rfl) pass0 (pa_cons (pv 6) pa_nil)) (pe_lc (own := [("_law_other", 8)]) (g := gName 8) (tt := tYes) rfl sc_law.nd (pi_range1 (by rfl) (g_range W) (pa_cons pe_int pa_nil)) (blkOk_by (N := ["_law_script", "_law_cell", "_law_number", "_law_thing", "_law_some", "_law_k", "_law_e", "_law_kept", "_law_other"]) (sc := defScope s_law) (by decide +kernel)) (fun _ _ _ _ _ => pg_name (i := 8) sc_law.nd rfl (Or.inl rfl)) (fun _ _ _ _ _ => pts_nil) (fun _ _ _ _ _ => (pe_cmpR op_eq (pv 8) (pe_op op_mod (pe_callTy call_int1 (by rfl) (g_int W) (by decide +kernel) (pa_cons (pv 5) pa_nil)) pe_int) (nomark _)))) (nomark _)) (pss_one (ps_ret pe_bl)) pss_nil)))) (pss_one (ps_for PassesOwn.never rfl (pi_list (pe_lst (pa_cons pe_int (pa_cons pe_int pa_nil)))) (pg_name (i := 5) sc_law.nd rfl (Or.inr rfl)) (pss_cons (ps_set (i := 7) sc_law.nd rfl (Or.inl rfl) (pe_lst (pa_cons (pe_xv (pe_ix ix_list (pv 4) (pv 5) (fun _ _ => rfl))) (pa_cons (pe_xv (pe_ix ix_list (pv 4) (pv 5) (fun _ _ => rfl))) (pa_cons (pe_xv (pe_ix ix_list (pv 4) (pe_op op_add (pv 5) pe_int) (fun _ _ => rfl))) (pa_cons (pe_xv (pe_ix ix_list (pv 4) (pe_op op_add (pv 5) pe_int) (fun _ _ => rfl))) (pa_cons (pe_xv (pe_ix ix_list (pv 4) (pe_op op_add (pv 5) pe_int) (fun _ _ => rfl))) (pa_cons (pe_xv (pe_ix ix_list (pv 4) (pe_op op_add (pv 5) pe_int) (fun _ _ => rfl))) pa_nil)))))))) (pss_one (ps_if (pt_cmpR (op_neD hr.units) (pe_op op_cat (pv 7) (pe_lst (pa_cons (pe_xv (pe_ix ix_list (pv 4) (pe_op op_add (pv 5) pe_int) (fun _ _ => rfl))) pa_nil))) (pe_op op_cat (pe_lst (pa_cons (pv 2) pa_nil)) (pe_op op_rep (pe_lst (pa_cons (pv 3) pa_nil)) pe_int)) (nomark _)) (pss_one (ps_ret pe_bl)) pss_nil))))))))))))) (pss_one (ps_ret pe_bl))), ?_⟩
    refine ⟨.ref a, rfl, 10, rfl, a, _, rfl, hS, fun p1 n1 => ?_⟩
    refine ⟨by show 1 ≤ sizeLine; decide, fun p2 n2 => ?_⟩
    refine ⟨p1, p2, _, _, rfl, rfl, up upd_same n2, upd_same, ?_, fun p3 n3 => ?_⟩
    · have h1 : (cutV (ns.map V.int) none (some 10)).length ≤ 63 := Nat.le_trans cut_len (by rw [List.length_map]; exact hlen)
      show _ + 1 ≤ sizeLine
      rw [sizeLine_eq]
      omega
    refine ⟨p3, rfl, ⟨_, SqL.of upd_same⟩, for_list (K := K) (a := p3) (xs := cutV (ns.map V.int) none (some 10) ++ [V.int 0]) (fun i σ H2 => ∃ x1 x2 x3 x4 x5 x6 x7 x8, σ = [some (.ref a), x1, x2, x3, x4, x5, x6, x7, x8] ∧ H2 p3 = some (.lst (cutV (ns.map V.int) none (some 10) ++ [V.int 0])))
      ⟨_, _, _, _, _, _, _, _, rfl, upd_same⟩ (fun i σ H2 _ hP => by obtain ⟨_, _, _, _, _, _, _, _, _, e⟩ := hP; exact SqL.of e) ?_ ?_⟩
    · rintro i x σ H2 hi ⟨x1, x2, x3, x4, x5, x6, x7, x8, rfl, e3⟩
      obtain ⟨c, rfl⟩ := cell_int (get_mem hi)
      generalize hcells : (HO.lst (cutV (ns.map V.int) none (some 10) ++ [V.int 0])) = cells at e3 ⊢
      refine ⟨fun σ H5 => ∃ (N : Int), σ = [some (.ref a), some (.int c), some (.int N), x3, x4, x5, x6, x7, x8] ∧ H5 p3 = some cells, ?_, ?_⟩
      · refine ⟨.int c, rfl, .inl ⟨c, rfl, ?_⟩⟩
        refine ⟨10, 40, rfl, rfl, ⟨by decide, by decide, by decide⟩, ?_⟩
        refine ⟨2, _, rfl, rfl, .inl ⟨by decide, by decide⟩, ?_⟩
        refine ⟨_, 1, rfl, rfl, ?_⟩
        refine ⟨c, _, rfl, rfl, (by decide +kernel : (0 : Int) < 2 * 10 ^ (40 : Int).toNat + 1), ?_⟩
        refine ⟨10, 40, rfl, rfl, ⟨by decide, by decide, by decide⟩, ?_⟩
        refine ⟨_, _, rfl, rfl, ?_⟩
        exact ⟨_, rfl, e3⟩
      · rintro σ H5 ⟨N, rfl, q5⟩
        refine ⟨fun σ H6 => ∃ th, σ = [some (.ref a), some (.int c), some (.int N), some th, x4, x5, x6, x7, x8] ∧ H6 p3 = some cells ∧ Th H6 th, ?_, ?_⟩
        · refine ⟨_, rfl, 1, rfl, by show 2 ≤ sizeLine; decide, fun t nt => ⟨by show 1 ≤ sizeLine; decide, fun l nl => ⟨by show 6 ≤ sizeLine; decide, fun p np => ?_⟩⟩⟩
          refine ⟨.int N, rfl, .inl ⟨N, rfl, N, 6, rfl, rfl, (by decide : (0 : Int) < 6), ?_⟩⟩
          obtain ⟨v, e1, hm⟩ := atI6 (xs := [.int N, .non, .int (-1), .ref t, .str "x", .ref l]) rfl N
          refine ⟨p, _, N % 6, v, rfl, rfl, SqL.of upd_same, e1, v, rfl, up (up (up q5 nt) nl) np, ?_⟩
          have ht : upd (upd (upd H5 t (.tup [.int 1, .int 2])) l (.lst [.int 3])) p (.lst [.int N, .non, .int (-1), .ref t, .str "x", .ref l]) t = some (.tup [.int 1, .int 2]) := up (up upd_same nl) np
          have hl : upd (upd (upd H5 t (.tup [.int 1, .int 2])) l (.lst [.int 3])) p (.lst [.int N, .non, .int (-1), .ref t, .str "x", .ref l]) l = some (.lst [.int 3]) := up upd_same np
          simp only [List.mem_cons, List.not_mem_nil, or_false] at hm
          rcases hm with rfl | rfl | rfl | rfl | rfl | rfl
          · exact .inr (.inl ⟨_, rfl⟩)
          · exact .inl rfl
          · exact .inr (.inl ⟨_, rfl⟩)
          · exact .inr (.inr (.inr (.inl ⟨_, rfl, ht⟩)))
          · exact .inr (.inr (.inl rfl))
          · exact .inr (.inr (.inr (.inr ⟨_, rfl, hl⟩)))
        · rintro σ H6 ⟨th, rfl, q6, t6⟩
          have A0 : AllE K H6 N th [] [] := True.intro
          refine ⟨.int N, rfl, th, rfl, _, _, rfl, newX fun G1 v1 s1 e1 => ?_⟩
          have A1 := A0.snoc (x := "BadTable") s1 (by rw [fl1]; exact e1)
          refine ⟨th, rfl, _, rfl, newX fun G2 v2 s2 e2 => ?_⟩
          have A2 := A1.snoc (x := "BadLine") s2 (by rw [fl2]; exact e2)
          refine ⟨th, rfl, _, rfl, newX fun G3 v3 s3 e3 => ?_⟩
          have A3 := A2.snoc (x := "BadSpan") s3 (by rw [fl3]; exact e3)
          refine ⟨th, rfl, _, rfl, newX fun G4 v4 s4 e4 => ?_⟩
          have A4 := A3.snoc (x := "BadStep") s4 (by rw [fl4]; exact e4)
          refine ⟨th, rfl, _, rfl, newX fun G5 v5 s5 e5 => ?_⟩
          have A5 := A4.snoc (x := "BadCount") s5 (by rw [fl5]; exact e5)
          refine ⟨by show 5 ≤ sizeLine; decide, fun q5 nq5 => ?_⟩
          have S5 := s1.trans (s2.trans (s3.trans (s4.trans (s5.trans (same_new (o := .lst [v1, v2, v3, v4, v5]) nq5)))))
          have L5 : upd G5 q5 (.lst [v1, v2, v3, v4, v5]) q5 = some (.lst [v1, v2, v3, v4, v5]) := upd_same
          have B5 := A5.same (same_new (o := .lst [v1, v2, v3, v4, v5]) nq5)
          generalize upd G5 q5 (.lst [v1, v2, v3, v4, v5]) = G5' at *
          have A5 := B5
          refine ⟨.ref q5, rfl, th, rfl, _, rfl, newX fun G6 v6 s6 e6 => ?_⟩
          have A6 := A5.snoc (x := "BadText") s6 (by rw [fl6]; exact e6)
          refine ⟨True.intro, new0 fun G7 v7 s7 e7 => ?_⟩
          have A7 := A6.snoc (x := "TooLong") s7 (by rw [fl7]; exact e7)
          refine ⟨by show 2 ≤ sizeLine; decide, fun q7 nq7 => ?_⟩
          have T7 := s6.trans <| s7.trans <| (same_new (o := .lst [v6, v7]) nq7)
          refine ⟨q5, q7, _, _, rfl, rfl, T7 _ _ L5, upd_same, by show 7 ≤ sizeLine; decide, fun r7 nr7 => ?_⟩
          have U7 := T7.trans (same_new (o := .lst [v1, v2, v3, v4, v5, v6, v7]) nr7)
          have S7 := S5.trans U7
          have L7 : upd (upd G7 q7 (.lst [v6, v7])) r7 (.lst [v1, v2, v3, v4, v5, v6, v7]) r7 = some (.lst [v1, v2, v3, v4, v5, v6, v7]) := upd_same
          have B7 := A7.same ((same_new (o := .lst [v6, v7]) nq7).trans (same_new (o := .lst [v1, v2, v3, v4, v5, v6, v7]) nr7))
          have z7 : True := True.intro
          generalize hz7 : upd (upd G7 q7 (.lst [v6, v7])) r7 (.lst [v1, v2, v3, v4, v5, v6, v7]) = G7' at S7 L7 B7
          have y7 : True := True.intro
          rw [show (upd (upd G7 q7 (.lst [v6, v7])) r7 (.lst ([v1, v2, v3, v4, v5] ++ [v6, v7]))) = G7' from hz7]
          have A7 := B7
          refine ⟨.ref r7, rfl, th, rfl, .int N, rfl, _, _, rfl, newX fun G8 v8 s8 e8 => ?_⟩
          have A8 := A7.snoc (x := "BadTable") s8 (by rw [fl1]; exact e8)
          refine ⟨th, rfl, _, rfl, newX fun G9 v9 s9 e9 => ?_⟩
          have A9 := A8.snoc (x := "BadLine") s9 (by rw [fl2]; exact e9)
          refine ⟨th, rfl, _, rfl, newX fun G10 v10 s10 e10 => ?_⟩
          have A10 := A9.snoc (x := "BadSpan") s10 (by rw [fl3]; exact e10)
          refine ⟨th, rfl, _, rfl, newX fun G11 v11 s11 e11 => ?_⟩
          have A11 := A10.snoc (x := "BadStep") s11 (by rw [fl4]; exact e11)
          refine ⟨by show 4 ≤ sizeLine; decide, fun q11 nq11 => ?_⟩
          have T11 := s8.trans <| s9.trans <| s10.trans <| s11.trans <| (same_new (o := .lst [v8, v9, v10, v11]) nq11)
          refine ⟨r7, q11, _, _, rfl, rfl, T11 _ _ L7, upd_same, by show 11 ≤ sizeLine; decide, fun r11 nr11 => ?_⟩
          have U11 := T11.trans (same_new (o := .lst [v1, v2, v3, v4, v5, v6, v7, v8, v9, v10, v11]) nr11)
          have S11 := S7.trans U11
          have L11 : upd (upd G11 q11 (.lst [v8, v9, v10, v11])) r11 (.lst [v1, v2, v3, v4, v5, v6, v7, v8, v9, v10, v11]) r11 = some (.lst [v1, v2, v3, v4, v5, v6, v7, v8, v9, v10, v11]) := upd_same
          have B11 := A11.same ((same_new (o := .lst [v8, v9, v10, v11]) nq11).trans (same_new (o := .lst [v1, v2, v3, v4, v5, v6, v7, v8, v9, v10, v11]) nr11))
          have z11 : True := True.intro
          generalize hz11 : upd (upd G11 q11 (.lst [v8, v9, v10, v11])) r11 (.lst [v1, v2, v3, v4, v5, v6, v7, v8, v9, v10, v11]) = G11' at S11 L11 B11
          have y11 : True := True.intro
          rw [show (upd (upd G11 q11 (.lst [v8, v9, v10, v11])) r11 (.lst ([v1, v2, v3, v4, v5, v6, v7] ++ [v8, v9, v10, v11]))) = G11' from hz11]
          refine ⟨fun σ H7 => ∃ es p, σ = [some (.ref a), some (.int c), some (.int N), some th, some (.ref p), x5, x6, x7, x8] ∧ H7 p3 = some cells ∧ Th H7 th ∧ H7 p = some (.lst es) ∧ AllE K H7 N th es N14, ?_, ?_⟩
          · have A11 := B11
            refine ⟨.ref r11, rfl, th, rfl, _, rfl, newX fun G12 v12 s12 e12 => ?_⟩
            have A12 := A11.snoc (x := "BadCount") s12 (by rw [fl5]; exact e12)
            refine ⟨th, rfl, _, rfl, newX fun G13 v13 s13 e13 => ?_⟩
            have A13 := A12.snoc (x := "BadText") s13 (by rw [fl6]; exact e13)
            refine ⟨True.intro, new0 fun G14 v14 s14 e14 => ?_⟩
            have A14 := A13.snoc (x := "TooLong") s14 (by rw [fl7]; exact e14)
            refine ⟨by show 3 ≤ sizeLine; decide, fun q14 nq14 => ?_⟩
            have T14 := s12.trans <| s13.trans <| s14.trans <| (same_new (o := .lst [v12, v13, v14]) nq14)
            refine ⟨r11, q14, _, _, rfl, rfl, T14 _ _ L11, upd_same, by show 14 ≤ sizeLine; decide, fun r14 nr14 => ?_⟩
            have U14 := T14.trans (same_new (o := .lst [v1, v2, v3, v4, v5, v6, v7, v8, v9, v10, v11, v12, v13, v14]) nr14)
            have S14 := S11.trans U14
            have L14 : upd (upd G14 q14 (.lst [v12, v13, v14])) r14 (.lst [v1, v2, v3, v4, v5, v6, v7, v8, v9, v10, v11, v12, v13, v14]) r14 = some (.lst [v1, v2, v3, v4, v5, v6, v7, v8, v9, v10, v11, v12, v13, v14]) := upd_same
            have B14 := A14.same ((same_new (o := .lst [v12, v13, v14]) nq14).trans (same_new (o := .lst [v1, v2, v3, v4, v5, v6, v7, v8, v9, v10, v11, v12, v13, v14]) nr14))
            have z14 : True := True.intro
            exact ⟨_, r14, rfl, S14 _ _ q6, t6.same S14, L14, B14⟩
          · rintro σ H7 ⟨es, p, rfl, q7, t7, hp, A⟩
            have hl : es.length = 14 := A.len
            refine ⟨fun σ H8 => ∃ x5 x6 x7 x8, σ = [some (.ref a), some (.int c), some (.int N), some th, some (.ref p), x5, x6, x7, x8] ∧ H8 p3 = some cells ∧ Th H8 th ∧ H8 p = some (.lst es) ∧ AllE K H8 N th es N14, ?_, ?_⟩
            · refine ⟨.ref p, rfl, p, _, rfl, SqL.of hp, for_enum (K := K) (xs := es) (fun i σ H8 => ∃ x5 x6 x7 x8, σ = [some (.ref a), some (.int c), some (.int N), some th, some (.ref p), x5, x6, x7, x8] ∧ H8 p3 = some cells ∧ Th H8 th ∧ H8 p = some (.lst es) ∧ AllE K H8 N th es N14)
                ⟨_, _, _, _, rfl, q7, t7, hp, A⟩ (fun i σ H2 _ hP => by obtain ⟨_, _, _, _, _, _, _, h, _⟩ := hP; exact SqL.of h) ?_ ?_⟩
              · rintro j v T σ H8 hj ⟨y5, y6, y7, y8, rfl, q8, t8, hp8, A8⟩ nT
                obtain ⟨x, hx14, hv0⟩ := A8.get hj
                have hx := n14_mem hx14
                have SS : Same H8 (upd H8 T (.tup [.int (j : Int), v])) := same_new nT
                have hv := hv0.same SS
                refine ⟨T, _, rfl, SqT.of upd_same, rfl, _, _, rfl, _, _, rfl, rfl, ?_⟩
                have q9 := SS _ _ q8
                have t9 := t8.same SS
                have p9 := SS _ _ hp8
                have A9 := A8.same SS
                generalize upd H8 T (.tup [.int (j : Int), v]) = H9 at *
                refine ⟨v, rfl, v, _, _, _, _, _, rfl, hv, ((kn W).c x hx).1, .own _, (kn W).t x hx, _, rfl, ?_⟩
                refine iteF ?_
                refine ⟨v, rfl, v, _, _, _, _, _, rfl, hv, ((kn W).c x hx).1, .ty _, (kn W).v x hx, _, rfl, ?_⟩
                refine iteF ?_
                refine ⟨v, rfl, v, x, _, rfl, hx, hv, fun r nr => ?_⟩
                refine ⟨7, rfl, by decide, by decide, fun D nD => lc_range (lo := 0) (n := 7) (fun m H' => H' = upd (upd H9 r (.lst (kl x))) D (.lst ((List.range m).map fun (o : Nat) => V.bl (decide (V.int (0 + (o : Int)) = V.int ((j : Int) % 7)))))) rfl ?_ ?_⟩
                · rintro m H' hm rfl
                  refine ⟨rfl, ?_⟩
                  simp only [tYes, if_true]
                  refine ⟨_, rfl, .int j, rfl, .inl ⟨j, rfl, j, 7, rfl, rfl, (by decide : (0 : Int) < 7), rfl, ?_⟩⟩
                  refine ⟨_, upd_same, ?_, ?_⟩
                  · rw [List.length_map, List.length_range]
                    exact Nat.lt_trans hm (by decide)
                  · rw [upd_upd, List.range_succ, List.map_append]
                    rfl
                · rintro H' rfl
                  have e1 : kl x = [V.bl (((0 : Nat) : Int) == (j : Int) % 7), V.bl (((1 : Nat) : Int) == (j : Int) % 7), V.bl (((2 : Nat) : Int) == (j : Int) % 7), V.bl (((3 : Nat) : Int) == (j : Int) % 7), V.bl (((4 : Nat) : Int) == (j : Int) % 7), V.bl (((5 : Nat) : Int) == (j : Int) % 7), V.bl (((6 : Nat) : Int) == (j : Int) % 7)] :=
                    congrArg (List.map V.bl) (n14_kl hx14)
                  have e2 : ((List.range 7).map fun (o : Nat) => V.bl (decide (V.int (0 + (o : Int)) = V.int ((j : Int) % 7)))) = [V.bl (((0 : Nat) : Int) == (j : Int) % 7), V.bl (((1 : Nat) : Int) == (j : Int) % 7), V.bl (((2 : Nat) : Int) == (j : Int) % 7), V.bl (((3 : Nat) : Int) == (j : Int) % 7), V.bl (((4 : Nat) : Int) == (j : Int) % 7), V.bl (((5 : Nat) : Int) == (j : Int) % 7), V.bl (((6 : Nat) : Int) == (j : Int) % 7)] := by
                    have e3 : ∀ o : Nat, V.bl (decide (V.int (0 + (o : Int)) = V.int ((j : Int) % 7))) = V.bl ((o : Int) == (j : Int) % 7) := fun o => by rw [dec_int, Int.zero_add]
                    simp only [e3]
                    rfl
                  have z := eqv7 (((0 : Nat) : Int) == (j : Int) % 7) (((1 : Nat) : Int) == (j : Int) % 7) (((2 : Nat) : Int) == (j : Int) % 7) (((3 : Nat) : Int) == (j : Int) % 7) (((4 : Nat) : Int) == (j : Int) % 7) (((5 : Nat) : Int) == (j : Int) % 7) (((6 : Nat) : Int) == (j : Int) % 7)
                  refine ⟨_, _, dp7 (up upd_same nD) e1 (.bl _) (.bl _) (.bl _) (.bl _) (.bl _) (.bl _) (.bl _), dp7 upd_same e2 (.bl _) (.bl _) (.bl _) (.bl _) (.bl _) (.bl _) (.bl _), z.1, z.1, _, rfl, ?_⟩
                  rw [z.2]
                  refine iteF ?_
                  have S2 := (same_new (o := .lst (kl x)) nr).trans (same_new (o := .lst ((List.range 7).map fun (o : Nat) => V.bl (decide (V.int (0 + (o : Int)) = V.int ((j : Int) % 7))))) nD)
                  exact ⟨_, _, _, _, rfl, S2 _ _ q9, t9.same S2, S2 _ _ p9, A9.same S2⟩
              · rintro σ H8 h
                exact h
            · rintro σ H8 ⟨y5, y6, y7, y8, rfl, q8, t8, hp8, A8⟩
              obtain ⟨w1, w2, w3, w4, w5, w6, w7, w8, w9, w10, w11, w12, w13, w14, rfl⟩ := len14 hl
              refine ⟨by show 2 ≤ sizeLine; decide, fun l nl => ?_⟩
              have S1 := same_new (o := .lst [.int 0, .int 7]) nl
              refine ⟨l, rfl, ⟨_, SqL.of upd_same⟩, for_list (K := K) (a := l) (xs := [V.int 0, V.int 7]) (fun i σ H9 => ∃ x5 x6 x7 x8, σ = [some (.ref a), some (.int c), some (.int N), some th, some (.ref p), x5, x6, x7, x8] ∧ H9 p3 = some cells ∧ Th H9 th ∧ H9 p = some (.lst [w1, w2, w3, w4, w5, w6, w7, w8, w9, w10, w11, w12, w13, w14]) ∧ AllE K H9 N th [w1, w2, w3, w4, w5, w6, w7, w8, w9, w10, w11, w12, w13, w14] N14 ∧ H9 l = some (.lst [V.int 0, V.int 7]))
                ⟨_, _, _, _, rfl, S1 _ _ q8, t8.same S1, S1 _ _ hp8, A8.same S1, upd_same⟩ (fun i σ H2 _ hP => by obtain ⟨_, _, _, _, _, _, _, _, _, e⟩ := hP; exact SqL.of e) ?_ ?_⟩
              · rintro i y σ H9 hi ⟨y5, y6, y7, y8, rfl, q9, t9, hp9, A9, hl9⟩
                generalize hes : [w1, w2, w3, w4, w5, w6, w7, w8, w9, w10, w11, w12, w13, w14] = es at hp9 ⊢
                obtain ⟨k, u1, u2, u3, u4, u5, u6, rfl, a1, a2, a3, a4, a5, a6, g1, g2, g3, g4, g5, g6⟩ : ∃ (k : Int) (u1 u2 u3 u4 u5 u6 : V), y = .int k ∧ atI es k = some u1 ∧ atI es (k + 1) = some u2 ∧ atI es (k + 2) = some u3 ∧ atI es (k + 3) = some u4 ∧ atI es (k + 4) = some u5 ∧ atI es (k + 5) = some u6 ∧
                    ExV H9 u1 (He.ga K "BadTable") (fl N th "BadTable") ∧ ExV H9 u2 (He.ga K "BadLine") (fl N th "BadLine") ∧ ExV H9 u3 (He.ga K "BadSpan") (fl N th "BadSpan") ∧ ExV H9 u4 (He.ga K "BadStep") (fl N th "BadStep") ∧ ExV H9 u5 (He.ga K "BadCount") (fl N th "BadCount") ∧ ExV H9 u6 (He.ga K "BadText") (fl N th "BadText") := by
                  obtain ⟨f1, f2, f3, f4, f5, f6, f7, f8, f9, f10, f11, f12, f13, f14, _⟩ := A9
                  subst hes
                  have hy := get_mem hi
                  simp only [List.mem_cons, List.not_mem_nil, or_false] at hy
                  rcases hy with rfl | rfl
                  · exact ⟨0, w1, w2, w3, w4, w5, w6, rfl, rfl, rfl, rfl, rfl, rfl, rfl, f1, f2, f3, f4, f5, f6⟩
                  · exact ⟨7, w8, w9, w10, w11, w12, w13, rfl, rfl, rfl, rfl, rfl, rfl, rfl, f8, f9, f10, f11, f12, f13⟩
                have SL := SqL.of (K := K) hp9
                refine ⟨.ref p, rfl, .int k, rfl, p, es, k, u1, rfl, rfl, SL, a1, _, _, .int N, ((kn W).c "BadTable" (by simp)).2, (x_BadTable W).no "at" (by simp), g1, lk1, ?_⟩
                refine ⟨.ref p, rfl, .int k, rfl, p, es, k, u1, rfl, rfl, SL, a1, _, _, th, ((kn W).c "BadTable" (by simp)).2, (x_BadTable W).no "why" (by simp), g1, lk2, ?_⟩
                refine ⟨.ref p, rfl, .int k, rfl, k, 1, rfl, rfl, p, es, k + 1, u2, rfl, rfl, SL, a2, _, _, th, ((kn W).c "BadLine" (by simp)).2, (x_BadLine W).no "line" (by simp), g2, lk3, ?_⟩
                refine ⟨.ref p, rfl, .int k, rfl, k, 2, rfl, rfl, p, es, k + 2, u3, rfl, rfl, SL, a3, _, _, th, ((kn W).c "BadSpan" (by simp)).2, (x_BadSpan W).no "at" (by simp), g3, lk4, ?_⟩
                refine ⟨.ref p, rfl, .int k, rfl, k, 3, rfl, rfl, p, es, k + 3, u4, rfl, rfl, SL, a4, _, _, th, ((kn W).c "BadStep" (by simp)).2, (x_BadStep W).no "step" (by simp), g4, lk5, ?_⟩
                refine ⟨.ref p, rfl, .int k, rfl, k, 4, rfl, rfl, p, es, k + 4, u5, rfl, rfl, SL, a5, _, _, th, ((kn W).c "BadCount" (by simp)).2, (x_BadCount W).no "many" (by simp), g5, lk6, ?_⟩
                refine ⟨by show 6 ≤ sizeLine; decide, fun q nq => ?_⟩
                have T1 := same_new (o := .lst [.int N, th, th, th, th, th]) nq
                refine ⟨.ref q, rfl, .ref p, rfl, .int k, rfl, k, 5, rfl, rfl, p, es, k + 5, u6, rfl, rfl, SqL.of (T1 _ _ hp9), a6, _, _, th, ((kn W).c "BadText" (by simp)).2, (x_BadText W).no "at" (by simp), g6.same T1, lk7, ?_⟩
                refine ⟨by show 1 ≤ sizeLine; decide, fun b1 m1 => ⟨q, b1, _, _, rfl, rfl, up upd_same m1, upd_same, by show 7 ≤ sizeLine; decide, fun b2 m2 => ?_⟩⟩
                refine ⟨.int N, rfl, by show 1 ≤ sizeLine; decide, fun b3 m3 => ?_⟩
                refine ⟨th, rfl, by show 1 ≤ sizeLine; decide, fun b4 m4 => ⟨b4, 6, _, rfl, rfl, upd_same, by decide, by decide, by show 6 ≤ sizeLine; decide, fun b5 m5 => ?_⟩⟩
                refine ⟨b3, b5, _, _, rfl, rfl, up (up upd_same m4) m5, upd_same, by show 7 ≤ sizeLine; decide, fun b6 m6 => ?_⟩
                have TT := (((((T1.trans (same_new m1)).trans (same_new m2)).trans (same_new m3)).trans (same_new m4)).trans (same_new m5)).trans (same_new (o := .lst ([V.int N] ++ (List.replicate (6 : Int).toNat [th]).flatten)) m6)
                obtain ⟨d, hd, hs, he⟩ := (t9.same TT).dp (K := K) N
                refine ⟨_, _, dp7 (up (up (up (up upd_same m3) m4) m5) m6) rfl (.int N) hd hd hd hd hd hd, dp7 upd_same rfl (.int N) hd hd hd hd hd hd, hs, hs, _, rfl, ?_⟩
                rw [he]
                refine iteF ?_
                exact ⟨_, _, _, _, rfl, TT _ _ q9, t9.same TT, TT _ _ hp9, hes ▸ A9.same TT, TT _ _ hl9⟩
              · rintro σ H9 ⟨y5, y6, y7, y8, rfl, q9, _⟩
                exact ⟨_, _, _, _, _, _, _, _, rfl, q9⟩
    · rintro σ H2 ⟨_, _, _, _, _, _, _, _, rfl, _⟩
      exact k H2
/-! ### the head -/
abbrev R : PySem.W.OpenRow := PySem.W.OpenLaw.row PySem.Challenge.rw_codespans_k03_errors_apart
def names0 : List Str := ["TableError", "BadTable", "BadLine", "BadSpan", "BadStep", "BadCount", "BadText", "TooLong", "_law_kinds"]
abbrev names : List Str := names0
def ob (s : PySem.W.SharedT) : LookT := lookAt fa fn ex (partOf 4 (HandSHeadRun.getT s))
theorem run (w : World) : HandSHeadRun.RunEq R (PySem.W.view R.prog [11]) (hk 4 fa fn ex) ob 4000 names w := by
  intro os
  kernel_rfl
end K03
namespace K03
open PySem PySem.Spec PyProof.Rows L2 Lay
theorem law_facts {P : Program} {w : World} {K : PySem.W.Frag} {h : Heap} {mg : Str → Option Value} {f : Addr} (X : K.In h) (G : h.Ns mainGlobals mg) (hfa : mg ("law" : Str) = some (.ref f)) (c : Told fa fn ex K) :
    ∃ fd : FuncData, (∀ (s : Shared) (v : Value), BindsTo s fd ⟨[v], []⟩ [("_law_script", v)]) ∧ ∀ base : Heap, K.In base → base.Ns mainGlobals mg → FnOk P w K mg base CX0 3 f fd ["_law_script"] (sp_law K) := by
  have W : Wd K mg := ⟨⟨h, X, G⟩, c⟩
  obtain ⟨fd, F⟩ := F_law W
  have e := hfa.symm.trans (g_law W)
  cases e
  have b := FunD.bindsA (ps := ["_law_script"]) F fun _ _ _ _ _ _ us hl => match us, hl with | [_], _ => rfl
  exact ⟨fd, fun s v => b s [v] rfl, fun base _ _ => fn_law W F⟩
end K03
open PySem PySem.W PySem.Calls PyProof.Rows
set_option maxRecDepth 100000 in
set_option maxHeartbeats 0 in
theorem PySem.Challenge.cw_codespans_k03_errors_apart_holds : PySem.Challenge.rw_codespans_k03_errors_apart.Holds := by
  w_on; o_law
  refine HandSHeadRun.head_any (r := OpenLaw.row PySem.Challenge.rw_codespans_k03_errors_apart) (q := view (OpenLaw.row PySem.Challenge.rw_codespans_k03_errors_apart).prog [11]) (H := Lay.hk 4 K03.fa K03.fn K03.ex) (ob := K03.ob) (M := 4000) (loose := K03.names) (d := HandSHeadRun.topDef (OpenLaw.row PySem.Challenge.rw_codespans_k03_errors_apart).prog 11) (kwd := []) (fun s => Lay.look_eq s)
    (by kernel_rfl) (fun s => by kernel_rfl) K03.run (by kernel_rfl) (by kernel_rfl) (by kernel_rfl) (by rfl) (by first | assumption | decide +kernel) (by decide +kernel) ⟨rfl, rfl, rfl, rfl, rfl, by decide +kernel⟩ ?hw ?hc
  case hw => w_witness2
  case hc =>
    refine L2.walk_ofE (l := PySem.Challenge.rw_codespans_k03_errors_apart) (n := 63) (k := 3) (x := "_law_script") (CX := L2.CX0) rfl (by decide) (by kernel_rfl) ⟨rfl, by decide, by decide⟩ ?F (fun _ _ _ _ z => z)
    intro w mg fa h Y G hmg0
    obtain ⟨K, KX, c⟩ := Y
    have hmg : mg ("law" : PySem.Str) = some (.ref fa) := by
      have e : (HandSHeadRun.topDef (OpenLaw.row PySem.Challenge.rw_codespans_k03_errors_apart).prog 11).name = ("law" : PySem.Str) := by kernel_rfl
      rw [← e]
      exact hmg0
    obtain ⟨fd, hb, hF⟩ := K03.law_facts (P := (PySem.Challenge.rw_codespans_k03_errors_apart).prog) (w := w) KX G hmg c
    exact ⟨K, fd, K03.sp_law K, KX, hb, fun H a ns hl _ hS => ⟨a, ns, rfl, hS, hl, fun _ => rfl⟩, hF⟩
