import PyProof.Rows.All
import Wide.All
import OpenK.AllK
import Wide.FinOn
import PySem.Challenge.RW_forkspan_k03_words_and_operations
import HandS.ForMost
import HandS.ForExc
import HandS.Flow
import HandS.IsInst
import HandS.ExcInit
import HandS.ExcField
import HandS.ExcCtx
import HandS.HotCalls
import HandS.ExcInitHot
import HandS.Style
import HandS.TupAny
import HandS.Wide
import HandS.Steps
import HandS.Deep
import HandS.Conv
import HandS.Iter
import HandS.DictComp
import HandS.More
import HandS.MakeKwOnly
import HandS.List
import HandS.SortInts
import HandS.Dict
import HandS.Set
import HandS.Strs
import PyProof.Rows.SetFrom
import PyProof.Rows.SortShellAny
import KE.GoesEnum
import HandS.SetFor
import PyProof.ListRange
import HandS.Sort
import KE.DataMinMax
import HandS.SortKw
import HandS.RevRange
set_option Elab.async false
set_option linter.all false
set_option maxRecDepth 100000
set_option maxHeartbeats 8000000
namespace L2
open PySem PySem.Spec PyProof.Rows

abbrev D := PyData
abbrev Kf := PySem.W.Frag
/-! ### the heap without what is owned -/
def hid (H : Hp) (L : List Addr) : Hp := fun a => if a ∈ L then none else H a
theorem hid_in {H : Hp} {L : List Addr} {a : Addr} (h : a ∈ L) : hid H L a = none := if_pos h
theorem hid_out {H : Hp} {L : List Addr} {a : Addr} (h : a ∉ L) : hid H L a = H a := if_neg h
theorem hid_nil {H : Hp} : hid H [] = H := by
  funext a
  exact hid_out (by simp)
theorem hid_some {H : Hp} {L : List Addr} {a : Addr} {o : HO} (h : hid H L a = some o) : a ∉ L ∧ H a = some o := by
  by_cases e : a ∈ L
  · rw [hid_in e] at h; cases h
  · rw [hid_out e] at h; exact ⟨e, h⟩
theorem hid_same {H : Hp} {L : List Addr} : Same (hid H L) H := fun _ _ h => (hid_some h).2
theorem hid_less {H : Hp} {L L' : List Addr} (h : ∀ a ∈ L', a ∈ L) : Same (hid H L) (hid H L') := fun a o e => by
  obtain ⟨n, e⟩ := hid_some e
  rw [hid_out fun z => n (h a z)]
  exact e
theorem hid_mono {H H' : Hp} {L : List Addr} (s : Same H H') : Same (hid H L) (hid H' L) := fun a o e => by
  obtain ⟨n, e⟩ := hid_some e
  rw [hid_out n]
  exact s a o e
/-- what is owned may change -/
theorem hid_upd {H : Hp} {L : List Addr} {a : Addr} {o : HO} (h : a ∈ L) : hid (upd H a o) L = hid H L := by
  funext b
  by_cases e : b ∈ L
  · rw [hid_in e, hid_in e]
  · rw [hid_out e, hid_out e, upd_ne (fun z => e (by rw [z]; exact h))]
/-- a new object is laid -/
theorem hid_new {H : Hp} {L : List Addr} {a : Addr} {o : HO} (n : H a = none) : Same (hid H L) (hid (upd H a o) (a :: L)) := fun b u e => by
  obtain ⟨m, e⟩ := hid_some e
  have hb : b ≠ a := ne_of_none e n
  rw [hid_out (by simp [hb, m]), upd_ne hb]
  exact e
theorem same_new {H : Hp} {a : Addr} {o : HO} (n : H a = none) : Same H (upd H a o) := fun b u e => by
  rw [upd_ne (ne_of_none e n)]
  exact e

/-! ### data -/
/- as Dp, every list tracked; the script -/
def scrD (ns : List Int) : D := .dict [(.none, .list (ns.map .int))]
/-- the key as data -/
def kD : Key → D
  | .inl i => .int i
  | .inr s => .str s
/-- what hangs on no heap -/
inductive AtV : V → D → Prop
  | non : AtV .non .none
  | bl (b : Bool) : AtV (.bl b) (.bool b)
  | int (i : Int) : AtV (.int i) (.int i)
  | str (x : Str) : AtV (.str x) (.str x)
/-- a dict whose values hang on no heap -/
abbrev KA : List (Key × V) → List (Key × D) → Prop := Paired fun p q => p.1 = q.1 ∧ AtV p.2 q.2
mutual
inductive Dq (K : Kf) (H : Hp) : V → D → Prop
  | non : Dq K H .non .none
  | bl (b : Bool) : Dq K H (.bl b) (.bool b)
  | int (i : Int) : Dq K H (.int i) (.int i)
  | str (x : Str) : Dq K H (.str x) (.str x)
  | lst {a : Addr} {xs : List V} {ds : List D} : H a = some (.lst xs) → DqAll K H xs ds → Dq K H (.ref a) (.list ds)
  | tup {a : Addr} {xs : List V} {ds : List D} : SqT K H a xs → DqAll K H xs ds → Dq K H (.ref a) (.tuple ds)
  | scr {a : Addr} {ns : List Int} : SqL K H a (ns.map V.int) → Dq K H (.ref a) (.dict [(.none, .list (ns.map .int))])
  | dct {a : Addr} {kvs : List (Key × V)} {kds : List (Key × D)} : H a = some (.dK kvs) → KA kvs kds → Dq K H (.ref a) (.dict (kds.map fun p => (kD p.1, p.2)))
inductive DqAll (K : Kf) (H : Hp) : List V → List D → Prop
  | nil : DqAll K H [] []
  | cons {v : V} {vs : List V} {d : D} {ds : List D} : Dq K H v d → DqAll K H vs ds → DqAll K H (v :: vs) (d :: ds)
end
/- data without the script -/
mutual
def plain : D → Bool
  | .none => true
  | .bool _ => true
  | .int _ => true
  | .str _ => true
  | .list ds => plains ds
  | .tuple ds => plains ds
  | .dict _ => false
def plains : List D → Bool
  | [] => true
  | d :: ds => plain d && plains ds
end
mutual
theorem Dq.dp {K : Kf} {H : Hp} : ∀ (d : D) {v : V}, plain d = true → Dq K H v d → Dp K H v d
  | .none, _, _, h => by cases h; exact .non
  | .bool b, _, _, h => by cases h; exact .bl b
  | .int i, _, _, h => by cases h; exact .int i
  | .str x, _, _, h => by cases h; exact .str x
  | .list ds, _, p, h => by
    cases h with
    | lst hs ha => exact .lst (.of hs) (DqAll.dp ds (by simpa [plain] using p) ha)
  | .tuple ds, _, p, h => by
    cases h with
    | tup hs ha => exact .tup hs (DqAll.dp ds (by simpa [plain] using p) ha)
  | .dict _, _, p, _ => by simp [plain] at p
theorem DqAll.dp {K : Kf} {H : Hp} : ∀ (ds : List D) {vs : List V}, plains ds = true → DqAll K H vs ds → DpAll K H vs ds
  | [], _, _, h => by cases h; exact .nil
  | d :: ds, _, p, h => by
    simp only [plains, Bool.and_eq_true] at p
    cases h with
    | cons h1 h2 => exact .cons (Dq.dp d p.1 h1) (DqAll.dp ds p.2 h2)
end
theorem rd_mono {H H' : Hp} {a : Addr} {u : HO} (s : Same H H') (h : Rd H a u) : Rd H' a u := by
  rcases h with h | ⟨o, h⟩
  · exact .inl (s _ _ h)
  · exact .inr ⟨o, s _ _ h⟩
mutual
theorem Dq.mono {K : Kf} {H H' : Hp} (s : Same H H') : ∀ (d : D) {v : V}, Dq K H v d → Dq K H' v d
  | .none, _, h => by cases h; exact .non
  | .bool b, _, h => by cases h; exact .bl b
  | .int i, _, h => by cases h; exact .int i
  | .str x, _, h => by cases h; exact .str x
  | .list ds, _, h => by
    cases h with
    | lst hs ha => exact .lst (s _ _ hs) (DqAll.mono s ds ha)
  | .tuple ds, _, h => by
    cases h with
    | tup hs ha =>
      refine .tup ?_ (DqAll.mono s ds ha)
      rcases hs with (h | ⟨o, h⟩) | h
      · exact .inl (.inl (s _ _ h))
      · exact .inl (.inr ⟨o, s _ _ h⟩)
      · exact .inr h
  | .dict _, _, h => by
    cases h with
    | scr hs => exact .scr (s.seq hs)
    | dct ho hk => exact .dct (s _ _ ho) hk
theorem DqAll.mono {K : Kf} {H H' : Hp} (s : Same H H') : ∀ (ds : List D) {vs : List V}, DqAll K H vs ds → DqAll K H' vs ds
  | [], _, h => by cases h; exact .nil
  | d :: ds, _, h => by
    cases h with
    | cons h1 h2 => exact .cons (Dq.mono s d h1) (DqAll.mono s ds h2)
end
theorem sqT_mono {K : Kf} {H H' : Hp} {a : Addr} {xs : List V} (s : Same H H') (hs : SqT K H a xs) : SqT K H' a xs := by
  rcases hs with (h | ⟨o, h⟩) | h
  · exact .inl (.inl (s _ _ h))
  · exact .inl (.inr ⟨o, s _ _ h⟩)
  · exact .inr h
/- no list within -/
mutual
def flat : D → Bool
  | .none => true
  | .bool _ => true
  | .int _ => true
  | .str _ => true
  | .list _ => false
  | .tuple ds => flats ds
  | .dict _ => false
def flats : List D → Bool
  | [] => true
  | d :: ds => flat d && flats ds
end
/-- lists (dicts) stand at the owned places -/
def Owns (H : Hp) (L : List Addr) : Prop := ∀ a ∈ L, (∃ xs, H a = some (.lst xs)) ∨ ∃ kvs, H a = some (.dK kvs)
mutual
theorem Dq.flat_hid {K : Kf} {H : Hp} {L : List Addr} (w : Owns H L) : ∀ (d : D) {v : V}, flat d = true → Dq K H v d → Dq K (hid H L) v d
  | .none, _, _, h => by cases h; exact .non
  | .bool b, _, _, h => by cases h; exact .bl b
  | .int i, _, _, h => by cases h; exact .int i
  | .str x, _, _, h => by cases h; exact .str x
  | .list ds, _, f, h => by simp [flat] at f
  | .tuple ds, _, f, h => by
    cases h with
    | @tup a xs _ hs ha =>
      refine .tup ?_ (DqAll.flat_hid w ds (by simpa [flat] using f) ha)
      have key : ∀ o, H a = some o → (∀ xs, o ≠ .lst xs) → (∀ kvs, o ≠ .dK kvs) → hid H L a = some o := fun o e n1 n2 => by
        rw [hid_out fun z => ?_]
        · exact e
        · rcases w a z with ⟨xs, q⟩ | ⟨kvs, q⟩
          · rw [e] at q; exact n1 _ (Option.some.inj q)
          · rw [e] at q; exact n2 _ (Option.some.inj q)
      rcases hs with (h | ⟨o, h⟩) | h
      · exact .inl (.inl (key _ h (fun _ z => by cases z) fun _ z => by cases z))
      · exact .inl (.inr ⟨o, key _ h (fun _ z => by cases z) fun _ z => by cases z⟩)
      · exact .inr h
  | .dict _, _, f, _ => by simp [flat] at f
theorem DqAll.flat_hid {K : Kf} {H : Hp} {L : List Addr} (w : Owns H L) : ∀ (ds : List D) {vs : List V}, flats ds = true → DqAll K H vs ds → DqAll K (hid H L) vs ds
  | [], _, _, h => by cases h; exact .nil
  | d :: ds, _, f, h => by
    simp only [flats, Bool.and_eq_true] at f
    cases h with
    | cons h1 h2 => exact .cons (Dq.flat_hid w d f.1 h1) (DqAll.flat_hid w ds f.2 h2)
end
theorem DqAll.length {K : Kf} {H : Hp} : ∀ {vs : List V} {ds : List D}, DqAll K H vs ds → vs.length = ds.length
  | _, _, .nil => rfl
  | _, _, .cons _ h => congrArg (· + 1) h.length
theorem DqAll.get {K : Kf} {H : Hp} : ∀ {vs : List V} {ds : List D} {i : Nat} {d : D}, DqAll K H vs ds → ds[i]? = some d → ∃ v, vs[i]? = some v ∧ Dq K H v d
  | _, _, _, _, .nil, e => by simp at e
  | _, _, 0, _, .cons h _, e => by simp at e; subst e; exact ⟨_, rfl, h⟩
  | _, _, i + 1, _, .cons _ t, e => by
    obtain ⟨v, h1, h2⟩ := DqAll.get (i := i) t (by simpa using e)
    exact ⟨v, by simpa using h1, h2⟩
theorem DqAll.getv {K : Kf} {H : Hp} : ∀ {vs : List V} {ds : List D} {i : Nat} {v : V}, DqAll K H vs ds → vs[i]? = some v → ∃ d, ds[i]? = some d ∧ Dq K H v d
  | _, _, _, _, .nil, e => by simp at e
  | _, _, 0, _, .cons h _, e => by simp at e; subst e; exact ⟨_, rfl, h⟩
  | _, _, i + 1, _, .cons _ t, e => by
    obtain ⟨v, h1, h2⟩ := DqAll.getv (i := i) t (by simpa using e)
    exact ⟨v, by simpa using h1, h2⟩
theorem DqAll.append {K : Kf} {H : Hp} : ∀ {vs ws : List V} {ds es : List D}, DqAll K H vs ds → DqAll K H ws es → DqAll K H (vs ++ ws) (ds ++ es)
  | _, _, _, _, .nil, h => h
  | _, _, _, _, .cons h t, h2 => .cons h (DqAll.append t h2)
theorem DqAll.take {K : Kf} {H : Hp} : ∀ {vs : List V} {ds : List D} (n : Nat), DqAll K H vs ds → DqAll K H (vs.take n) (ds.take n)
  | _, _, 0, _ => .nil
  | _, _, _ + 1, .nil => .nil
  | _, _, n + 1, .cons h t => .cons h (DqAll.take n t)
theorem DqAll.drop {K : Kf} {H : Hp} : ∀ {vs : List V} {ds : List D} (n : Nat), DqAll K H vs ds → DqAll K H (vs.drop n) (ds.drop n)
  | _, _, 0, h => h
  | _, _, _ + 1, .nil => .nil
  | _, _, n + 1, .cons _ t => DqAll.drop n t
theorem DqAll.dropLast {K : Kf} {H : Hp} : ∀ {vs : List V} {ds : List D}, DqAll K H vs ds → DqAll K H vs.dropLast ds.dropLast
  | _, _, .nil => .nil
  | _, _, .cons _ .nil => .nil
  | _, _, .cons h (.cons h2 t) => .cons h (DqAll.dropLast (.cons h2 t))
theorem DqAll.reverse {K : Kf} {H : Hp} : ∀ {vs : List V} {ds : List D}, DqAll K H vs ds → DqAll K H vs.reverse ds.reverse
  | _, _, .nil => .nil
  | _, _, .cons h t => by
    rw [List.reverse_cons, List.reverse_cons]
    exact (DqAll.reverse t).append (.cons h .nil)
theorem DqAll.set {K : Kf} {H : Hp} {v : V} {d : D} (h : Dq K H v d) : ∀ {vs : List V} {ds : List D} (i : Nat), DqAll K H vs ds → DqAll K H (vs.set i v) (ds.set i d)
  | _, _, _, .nil => .nil
  | _, _, 0, .cons _ t => .cons h t
  | _, _, i + 1, .cons q t => .cons q (DqAll.set h i t)

/-! ### what stands in a slot, what an expression gives -/
/-- an owned object -/
inductive OB where
  | lst (ds : List D)
  | dct (kvs : List (Key × D))
inductive SV where
  /-- data, seen by all -/
  | d (d : D)
  /-- an object that nobody else sees -/
  | own (o : OB)
  /-- the owned object of slot i -/
  | bor (i : Nat)
abbrev En := List (Option SV)
def KD (K : Kf) (H : Hp) : List (Key × V) → List (Key × D) → Prop := Paired fun p q => p.1 = q.1 ∧ Dq K H p.2 q.2
theorem AtV.dq {K : Kf} {H : Hp} {v : V} {d : D} (h : AtV v d) : Dq K H v d := by
  cases h <;> constructor
theorem KA.kd {K : Kf} {H : Hp} : ∀ {kvs : List (Key × V)} {kds : List (Key × D)}, KA kvs kds → KD K H kvs kds
  | _, _, .nil => .nil
  | _, _, .cons h t => .cons ⟨h.1, h.2.dq⟩ (KA.kd t)
def isAt : D → Bool
  | .none => true
  | .bool _ => true
  | .int _ => true
  | .str _ => true
  | _ => false
theorem Dq.atv {K : Kf} {H : Hp} {v : V} {d : D} (h : Dq K H v d) (f : isAt d = true) : AtV v d := by
  cases h <;> first | (cases f; done) | constructor
theorem KD.ka {K : Kf} {H : Hp} : ∀ {kvs : List (Key × V)} {kds : List (Key × D)}, KD K H kvs kds → (kds.all fun p => isAt p.2) = true → KA kvs kds
  | _, _, .nil, _ => .nil
  | _, _, .cons h t, f => by
    simp only [List.all_cons, Bool.and_eq_true] at f
    exact .cons ⟨h.1, h.2.atv f.1⟩ (KD.ka t f.2)
def ObR (K : Kf) (H : Hp) : HO → OB → Prop
  | .lst xs, .lst ds => DqAll K H xs ds
  | .dK kvs, .dct kds => KD K H kvs kds
  | _, _ => False
theorem KD.mono {K : Kf} {H H' : Hp} (s : Same H H') {a : List (Key × V)} {b : List (Key × D)} (h : KD K H a b) : KD K H' a b :=
  Paired.mapP h fun _ _ ⟨e, q⟩ => ⟨e, Dq.mono s _ q⟩
theorem ObR.mono {K : Kf} {H H' : Hp} (s : Same H H') {o : HO} {b : OB} (h : ObR K H o b) : ObR K H' o b := by
  cases o with
  | lst xs => cases b with
    | lst ds => exact DqAll.mono s _ h
    | dct _ => exact h.elim
  | dK kvs => cases b with
    | lst ds => exact h.elim
    | dct _ => exact KD.mono s h
  | _ => exact h.elim
theorem ObR.owns {K : Kf} {H : Hp} {o : HO} {b : OB} (h : ObR K H o b) : (∃ xs, o = .lst xs) ∨ ∃ kvs, o = .dK kvs := by
  cases o with
  | lst xs => exact .inl ⟨xs, rfl⟩
  | dK kvs => exact .inr ⟨kvs, rfl⟩
  | _ => exact h.elim
def SlotR (P : Option Addr) (K : Kf) (H : Hp) (L : List Addr) (so : Option (Option V)) : SV → Prop
  | .d d => ∃ v, so = some (some v) ∧ Dq K (hid H L) v d
  | .own b => ∃ a o, so = some (some (.ref a)) ∧ a ∈ L ∧ H a = some o ∧ ObR K (hid H L) o b
  | .bor _ => ∃ a, P = some a ∧ so = some (some (.ref a))
/-- an exception: the name of its class, its fields in the order in which they were put, last first -/
structure Xc where
  cls : Str
  fs : List (Str × D)
/-- what is fixed through a body: B, what callers hide, as HB has it -/
structure Gs where
  K : Kf
  mg : Str → Option Value
  H0 : Hp
  W : WX
  B : List Addr
  HB : Hp
  /-- the exception that a suite holds -/
  px : Option Addr
structure RelS (G : Gs) (L : List Addr) (σ : St) (H : Hp) (en : En) : Prop where
  own : Owns H L
  same : Same G.H0 (hid H L)
  len : σ.length = en.length
  slot : ∀ (i : Nat) (sv : SV), en[i]? = some (some sv) → SlotR G.px G.K H L σ[i]? sv
  apart : ∀ (i j : Nat) (b c : OB) (a : Addr), i ≠ j → en[i]? = some (some (SV.own b)) → en[j]? = some (some (SV.own c)) → σ[i]? = some (some (V.ref a)) → σ[j]? = some (some (V.ref a)) → False
  base : ∀ a ∈ G.B, a ∈ L ∧ H a = G.HB a ∧ ∀ (i : Nat) (c : OB), en[i]? = some (some (SV.own c)) → σ[i]? ≠ some (some (V.ref a))
/-- what an expression's value is -/
def RV (G : Gs) (L : List Addr) (σ : St) (H : Hp) (en : En) (v : V) : SV → Prop
  | .d d => Dq G.K (hid H L) v d
  | .own b => ∃ a o, v = .ref a ∧ a ∈ L ∧ a ∉ G.B ∧ H a = some o ∧ ObR G.K (hid H L) o b ∧ ∀ (i : Nat) (c : OB), en[i]? = some (some (SV.own c)) → σ[i]? ≠ some (some (V.ref a))
  | .bor i => σ[i]? = some (some v) ∧ ∃ b : OB, en[i]? = some (some (SV.own b))
def XR (K : Kf) (mg : Str → Option Value) (x : Xc) (cls : Value) (d : Option Addr) (H : Hp) : Prop :=
  ∃ (C dd : Addr) (fv : List (Str × V)), mg x.cls = some (.ref C) ∧ cls = .ref C ∧ d = some dd ∧ H dd = some (.xd fv) ∧ Paired (fun p q => p.1 = q.1 ∧ Dq K H p.2 q.2) fv x.fs
inductive Rs (α : Type) where
  | ok (a : α) (e : En)
  | exc (x : Xc) (e : En)
  | stuck
abbrev M (α : Type) := En → Rs α
def PostX (G : Gs) (σ0 : St → Prop) (H : Hp) (L : List Addr) (x : Xc) (en' : En) : Prop :=
  ∀ cls d σ H' L', σ0 σ → RelS G L' σ H' en' → Same (hid H L) (hid H' L') → XR G.K G.mg x cls d (hid H' L') → G.W cls d σ H'
def PostE (G : Gs) (σ : St) (H : Hp) (L : List Addr) (r : Rs SV) (Q : VK) : Prop :=
  match r with
  | .ok sv en' => ∀ v H' L', RelS G L' σ H' en' → Same (hid H L) (hid H' L') → RV G L' σ H' en' v sv → Q v H'
  | .exc x en' => PostX G (· = σ) H L x en'
  | .stuck => False
def tE (G : Gs) (m : M SV) : TE := fun σ H Q => ∃ en L, RelS G L σ H en ∧ PostE G σ H L (m en) Q
def PostT (G : Gs) (σ : St) (H : Hp) (L : List Addr) (r : Rs Bool) (Q : Bool → Hp → Prop) : Prop :=
  match r with
  | .ok b en' => ∀ H' L', RelS G L' σ H' en' → Same (hid H L) (hid H' L') → Q b H'
  | .exc x en' => PostX G (· = σ) H L x en'
  | .stuck => False
def tT (G : Gs) (m : M Bool) : TT := fun σ H Q => ∃ en L, RelS G L σ H en ∧ PostT G σ H L (m en) Q
/-- values of arguments: none of them owned -/
def RVs (G : Gs) (L : List Addr) (σ : St) (H : Hp) (en : En) : List V → List SV → Prop := Paired fun v sv => RV G L σ H en v sv ∧ ∀ b, sv ≠ .own b
def PostA (G : Gs) (σ : St) (H : Hp) (L : List Addr) (r : Rs (List SV)) (Q : List V → Hp → Prop) : Prop :=
  match r with
  | .ok svs en' => ∀ vs H' L', RelS G L' σ H' en' → Same (hid H L) (hid H' L') → RVs G L' σ H' en' vs svs → Q vs H'
  | .exc x en' => PostX G (· = σ) H L x en'
  | .stuck => False
def tA (G : Gs) (m : M (List SV)) : TA := fun σ H Q => ∃ en L, RelS G L σ H en ∧ PostA G σ H L (m en) Q
inductive Ct where
  | nx
  | rt (sv : SV)
  | bk
  | ct
/-- slots that are not written stay -/
def Keeps (wr : List Nat) (σ σ' : St) : Prop := ∀ j, j ∉ wr → σ'[j]? = σ[j]?
theorem Keeps.refl {wr : List Nat} {σ : St} : Keeps wr σ σ := fun _ _ => rfl
theorem Keeps.trans {w1 w2 : List Nat} {σ σ1 σ2 : St} (a : Keeps w1 σ σ1) (b : Keeps w2 σ1 σ2) : Keeps (w1 ++ w2) σ σ2 := fun j h =>
  (b j fun z => h (List.mem_append_right _ z)).trans (a j fun z => h (List.mem_append_left _ z))
theorem Keeps.mono {w1 w2 : List Nat} {σ σ1 : St} (a : Keeps w1 σ σ1) (h : ∀ j ∈ w1, j ∈ w2) : Keeps w2 σ σ1 := fun j n => a j fun z => n (h j z)
theorem Keeps.set {i : Nat} {v : Option V} {σ : St} : Keeps [i] σ (σ.set i v) := fun j h => List.getElem?_set_ne (fun z => h (by rw [z]; exact List.mem_singleton.mpr rfl))
def PostS (G : Gs) (wr : List Nat) (σ : St) (H : Hp) (L : List Addr) (r : Rs Ct) (E : Ends) : Prop :=
  match r with
  | .ok .nx en' => ∀ σ' H' L', RelS G L' σ' H' en' → Same (hid H L) (hid H' L') → Keeps wr σ σ' → E.nx σ' H'
  | .ok .bk en' => ∀ σ' H' L', RelS G L' σ' H' en' → Same (hid H L) (hid H' L') → Keeps wr σ σ' → E.bk σ' H'
  | .ok .ct en' => ∀ σ' H' L', RelS G L' σ' H' en' → Same (hid H L) (hid H' L') → Keeps wr σ σ' → E.ct σ' H'
  | .ok (.rt sv) en' => ∀ v σ' H' L', RelS G L' σ' H' en' → Same (hid H L) (hid H' L') → RV G L' σ' H' en' v sv → E.rt v H'
  | .exc x en' => PostX G (Keeps wr σ) H L x en'
  | .stuck => False
def tS (G : Gs) (wr : List Nat) (m : M Ct) : TS := fun E σ H => ∃ en L, RelS G L σ H en ∧ PostS G wr σ H L (m en) E

/-! ### weakening a reading -/
theorem PE.imp {X : Cx} {e : Expr} {t u : TE} (h : PE X e t) (k : ∀ σ H Q, u σ H Q → t σ H Q) : PE X e u := ⟨fun pins s σ H Q I q => h.run pins s σ H Q I (k _ _ _ q)⟩
theorem PT.imp {X : Cx} {e : Expr} {t u : TT} (h : PT X e t) (k : ∀ σ H Q, u σ H Q → t σ H Q) : PT X e u := ⟨fun pins s σ H Q I q => h.run pins s σ H Q I (k _ _ _ q)⟩
theorem PW.imp {X : Cx} {e : Expr} {t u : TT} (h : PW X e t) (k : ∀ σ H Q, u σ H Q → t σ H Q) : PW X e u := ⟨fun w pins s σ H Q I q => h.run w pins s σ H Q I (k _ _ _ q)⟩
theorem PA.imp {X : Cx} {e : List Expr} {t u : TA} (h : PA X e t) (k : ∀ σ H Q, u σ H Q → t σ H Q) : PA X e u := ⟨fun p pins s σ H Q I q => h.run p pins s σ H Q I (k _ _ _ q)⟩
theorem PS.imp {X : Cx} {e : Stmt} {t u : TS} (h : PS X e t) (k : ∀ E σ H, u E σ H → t E σ H) : PS X e u := ⟨fun pins s σ H E I q => h.run pins s σ H E I (k _ _ _ q)⟩
theorem PSs.imp {X : Cx} {e : List Stmt} {t u : TS} (h : PSs X e t) (k : ∀ E σ H, u E σ H → t E σ H) : PSs X e u := ⟨fun pins s σ H E I q => h.run pins s σ H E I (k _ _ _ q)⟩

/-! ### the state's relation -/
section
variable {G : Gs} {H H' : Hp} {L L' : List Addr} {σ : St} {en : En} {v : V} {sv : SV} {d : D}
theorem RelS.free (R : RelS G L σ H en) {a : Addr} (h : a ∈ L) : G.H0 a = none := R.same.free (hid_in h)
theorem RelS.fresh_out (R : RelS G L σ H en) {a : Addr} (h : H a = none) : a ∉ L := fun z => by
  rcases R.own a z with ⟨xs, q⟩ | ⟨kvs, q⟩ <;> (rw [h] at q; cases q)
theorem RelS.there (R : RelS G L σ H en) {a : Addr} (h : a ∈ L) : ∃ o, H a = some o := by
  rcases R.own a h with ⟨xs, q⟩ | ⟨kvs, q⟩
  · exact ⟨_, q⟩
  · exact ⟨_, q⟩
theorem RelS.fresh_base (R : RelS G L σ H en) {a : Addr} (h : H a = none) : a ∉ G.B := fun z => R.fresh_out h (R.base a z).1
/-- the heap grows -/
theorem RelS.grow (R : RelS G L σ H en) (s : Same H H') : RelS G L σ H' en where
  own := fun a h => by
    rcases R.own a h with ⟨xs, q⟩ | ⟨kvs, q⟩
    · exact .inl ⟨xs, s _ _ q⟩
    · exact .inr ⟨kvs, s _ _ q⟩
  same := R.same.trans (hid_mono s)
  len := R.len
  slot := fun i sv e => by
    have q := R.slot i sv e
    cases sv with
    | d dd => obtain ⟨v, e1, h⟩ := q; exact ⟨v, e1, Dq.mono (hid_mono s) _ h⟩
    | own b => obtain ⟨a, o, e1, m, ho, h⟩ := q; exact ⟨a, o, e1, m, s _ _ ho, h.mono (hid_mono s)⟩
    | bor _ => exact q
  apart := R.apart
  base := fun a m => by
    obtain ⟨h1, h2, h3⟩ := R.base a m
    obtain ⟨o, ho⟩ := R.there h1
    exact ⟨h1, (s _ _ ho).trans (ho.symm.trans h2), h3⟩
/-- more is hidden: a new object -/
theorem RelS.hide (R : RelS G L σ H en) {a : Addr} {o : HO} (n : H a = none) (w : (∃ xs, o = .lst xs) ∨ ∃ kvs, o = .dK kvs) : RelS G (a :: L) σ (upd H a o) en where
  own := fun b h => by
    rcases List.mem_cons.mp h with rfl | h
    · rcases w with ⟨xs, rfl⟩ | ⟨kvs, rfl⟩
      · exact .inl ⟨xs, upd_same⟩
      · exact .inr ⟨kvs, upd_same⟩
    · have hb : b ≠ a := fun z => R.fresh_out n (by rw [← z]; exact h)
      rw [upd_ne hb]
      exact R.own b h
  same := R.same.trans (hid_new n)
  len := R.len
  slot := fun i sv e => by
    have q := R.slot i sv e
    cases sv with
    | d dd => obtain ⟨v, e1, h⟩ := q; exact ⟨v, e1, Dq.mono (hid_new n) _ h⟩
    | own b => obtain ⟨c, u, e1, m, ho, h⟩ := q; exact ⟨c, u, e1, List.mem_cons_of_mem _ m, same_new n _ _ ho, h.mono (hid_new n)⟩
    | bor _ => exact q
  apart := R.apart
  base := fun b m => by
    obtain ⟨h1, h2, h3⟩ := R.base b m
    obtain ⟨u, hu⟩ := R.there h1
    exact ⟨List.mem_cons_of_mem _ h1, (same_new n _ _ hu).trans (hu.symm.trans h2), h3⟩
/-- less is hidden -/
theorem RelS.show (R : RelS G L σ H en) (h : ∀ a ∈ L', a ∈ L) (hb : ∀ a ∈ G.B, a ∈ L') (k : ∀ (i : Nat) (b : OB) (a : Addr), en[i]? = some (some (SV.own b)) → σ[i]? = some (some (V.ref a)) → a ∈ L → a ∈ L') : RelS G L' σ H en where
  own := fun a m => R.own a (h a m)
  same := R.same.trans (hid_less h)
  len := R.len
  slot := fun i sv e => by
    have q := R.slot i sv e
    cases sv with
    | d dd => obtain ⟨v, e1, q⟩ := q; exact ⟨v, e1, Dq.mono (hid_less h) _ q⟩
    | own b => obtain ⟨c, u, e1, m, ho, q⟩ := q; exact ⟨c, u, e1, k i b c e e1 m, ho, q.mono (hid_less h)⟩
    | bor _ => exact q
  apart := R.apart
  base := fun b m => by
    obtain ⟨h1, h2, h3⟩ := R.base b m
    exact ⟨hb b m, h2, h3⟩
end
end L2

namespace L2
open PySem PySem.Spec PyProof.Rows

/-! ### the mirror's steps -/
def mpure {α : Type} (a : α) : M α := fun en => .ok a en
def mbind {α β : Type} (m : M α) (f : α → M β) : M β := fun en => match m en with
  | .ok a en' => f a en'
  | .exc x en' => .exc x en'
  | .stuck => .stuck
def mstuck {α : Type} : M α := fun _ => .stuck
def dctD (kvs : List (Key × D)) : D := .dict (kvs.map fun p => (kD p.1, p.2))
/-- what an operand is worth -/
def look (en : En) : SV → Option D
  | .d d => some d
  | .own _ => none
  | .bor i => match en[i]? with
    | some (some (.own (.lst ds))) => some (.list ds)
    | some (some (.own (.dct kvs))) => some (dctD kvs)
    | _ => none
def looks (en : En) : List SV → Option (List D)
  | [] => some []
  | s :: r => match look en s, looks en r with
    | some d, some ds => some (d :: ds)
    | _, _ => none
/-- a new list is let be seen -/
def mfrz (m : M SV) : M SV := mbind m fun sv => match sv with
  | .own (.lst ds) => mpure (.d (.list ds))
  | .own (.dct _) => mstuck
  | sv => mpure sv
/-- .. and the list of a slot too, for good -/
def mkeep (m : M SV) : M SV := mbind (mfrz m) fun sv => match sv with
  | .bor i => fun en => match en[i]? with
    | some (some (.own (.lst ds))) => .ok (.d (.list ds)) (en.set i (some (.d (.list ds))))
    | _ => .stuck
  | sv => mpure sv

/-! ### operands -/
def Opd (K : Kf) (H : Hp) (L : List Addr) (x : V) (d : D) : Prop :=
  Dq K (hid H L) x d ∨ (∃ a xs ds, x = .ref a ∧ d = .list ds ∧ H a = some (.lst xs) ∧ DqAll K (hid H L) xs ds) ∨
    ∃ a kvs kds, x = .ref a ∧ d = dctD kds ∧ H a = some (.dK kvs) ∧ KD K (hid H L) kvs kds
abbrev OpdAll (K : Kf) (H : Hp) (L : List Addr) : List V → List D → Prop := Paired (Opd K H L)
section
variable {K : Kf} {H0 H H' : Hp} {L L' : List Addr} {σ : St} {en en' : En} {v x y : V} {sv : SV} {d : D}
theorem Opd.list (h : Opd K H L x (.list ds)) : ∃ a xs, x = .ref a ∧ H a = some (.lst xs) ∧ DqAll K (hid H L) xs ds := by
  rcases h with h | ⟨a, xs, es, rfl, e, h, q⟩ | ⟨a, _, _, _, e, _⟩
  · cases h with
    | lst hs ha => exact ⟨_, _, rfl, hid_same _ _ hs, ha⟩
  · cases e; exact ⟨a, xs, rfl, h, q⟩
  · exact nomatch e
theorem Opd.tuple (h : Opd K H L x (.tuple ds)) : ∃ a xs, x = .ref a ∧ SqT K H a xs ∧ DqAll K (hid H L) xs ds := by
  rcases h with h | ⟨a, xs, es, rfl, e, h, q⟩ | ⟨a, _, _, _, e, _⟩
  · cases h with
    | tup hs ha => exact ⟨_, _, rfl, sqT_mono hid_same hs, ha⟩
  · exact nomatch e
  · exact nomatch e
theorem Opd.int {i : Int} (h : Opd K H L x (.int i)) : x = .int i := by
  rcases h with h | ⟨a, xs, es, rfl, e, h, q⟩ | ⟨a, _, _, _, e, _⟩
  · cases h; rfl
  · exact nomatch e
  · exact nomatch e
theorem Opd.bool {i : Bool} (h : Opd K H L x (.bool i)) : x = .bl i := by
  rcases h with h | ⟨a, xs, es, rfl, e, h, q⟩ | ⟨a, _, _, _, e, _⟩
  · cases h; rfl
  · exact nomatch e
  · exact nomatch e
theorem Opd.str {i : Str} (h : Opd K H L x (.str i)) : x = .str i := by
  rcases h with h | ⟨a, xs, es, rfl, e, h, q⟩ | ⟨a, _, _, _, e, _⟩
  · cases h; rfl
  · exact nomatch e
  · exact nomatch e
theorem Opd.none (h : Opd K H L x .none) : x = .non := by
  rcases h with h | ⟨a, xs, es, rfl, e, h, q⟩ | ⟨a, _, _, _, e, _⟩
  · cases h; rfl
  · exact nomatch e
  · exact nomatch e
/-- data, seen by all or at hand -/
theorem Opd.dp (h : Opd K H L x d) (n : plain d = true) : Dp K H x d := by
  rcases h with h | ⟨a, xs, es, rfl, rfl, h, q⟩ | ⟨a, _, _, _, rfl, _⟩
  · exact Dq.dp _ n (Dq.mono hid_same _ h)
  · exact .lst (.of h) (DqAll.dp _ (by simpa [plain] using n) (DqAll.mono hid_same _ q))
  · simp [plain, dctD] at n
theorem Opd.scr {ns : List Int} (h : Opd K H L x (scrD ns)) : ∃ a, x = .ref a ∧ SqL K H a (ns.map V.int) := by
  have inj : ∀ {ms : List Int}, ms.map PyData.int = ns.map PyData.int → ms = ns := fun {ms} e => by
    have q := congrArg (List.map fun d => match d with | PyData.int i => i | _ => 0) e
    simpa [List.map_map, Function.comp_def] using q
  generalize e : scrD ns = d at h
  rcases h with h | ⟨a, xs, es, rfl, e2, h, q⟩ | ⟨a, kvs, kds, rfl, e2, h, q⟩
  · cases h with
    | @scr a ms hs =>
      unfold scrD at e
      injection e with e
      injection e with e _
      injection e with _ e
      injection e with e
      have z := inj e.symm
      subst z
      exact ⟨a, rfl, hid_same.seq hs⟩
    | @dct a kvs kds ho hk =>
      unfold scrD at e
      injection e with e
      cases kds with
      | nil => exact nomatch e
      | cons p r =>
        injection e with e _
        injection e with e _
        cases h1 : p.1 <;> (rw [h1] at e; exact nomatch e)
    | _ => exact nomatch e
  · subst e2; exact nomatch e
  · subst e2
    unfold scrD dctD at e
    injection e with e
    cases kds with
    | nil => exact nomatch e
    | cons p r =>
      injection e with e _
      injection e with e _
      cases h1 : p.1 <;> (rw [h1] at e; exact nomatch e)
/-- an operand that was evaluated before -/
theorem RV.opd {G : Gs} (R : RelS G L' σ H' en') (s : Same (hid H L) (hid H' L')) (r : RV G L σ H en v sv) (e : look en' sv = some d) : Opd G.K H' L' v d := by
  cases sv with
  | d dd =>
    simp only [look, Option.some.injEq] at e
    subst e
    exact .inl (Dq.mono s _ r)
  | own _ => simp [look] at e
  | bor i =>
    obtain ⟨e1, _⟩ := r
    simp only [look] at e
    cases q : en'[i]? with
    | none => rw [q] at e; simp at e
    | some o =>
      rw [q] at e
      cases o with
      | none => simp at e
      | some sv' =>
        cases sv' with
        | d _ => simp at e
        | bor _ => simp at e
        | own b =>
          have z := R.slot i _ q
          obtain ⟨a, o, e2, m, ho, hr⟩ := z
          rw [e1] at e2
          cases e2
          cases b with
          | lst ds =>
            simp only [Option.some.injEq] at e
            subst e
            cases o with
            | lst xs => exact .inr (.inl ⟨a, xs, ds, rfl, rfl, ho, hr⟩)
            | _ => exact hr.elim
          | dct kds =>
            simp only [Option.some.injEq] at e
            subst e
            cases o with
            | dK kvs => exact .inr (.inr ⟨a, kvs, kds, rfl, rfl, ho, hr⟩)
            | _ => exact hr.elim
theorem RVs.opd {G : Gs} (R : RelS G L' σ H' en') (s : Same (hid H L) (hid H' L')) : ∀ {vs : List V} {svs : List SV} {ds : List D}, RVs G L σ H en vs svs → looks en' svs = some ds → OpdAll G.K H' L' vs ds
  | _, _, _, .nil, e => by
    simp only [looks, Option.some.injEq] at e
    subst e
    exact .nil
  | _, s0 :: r0, _, .cons h t, e => by
    simp only [looks] at e
    split at e
    · rename_i d ds e1 e2
      simp only [Option.some.injEq] at e
      subst e
      exact .cons (RV.opd R s h.1 e1) (RVs.opd R s t e2)
    · cases e
end

/-! ### ends -/
section
variable {G : Gs} {H H1 : Hp} {L L1 : List Addr} {σ : St} {en : En} {v : V} {sv : SV} {d : D} {Q : VK}
theorem PostX.from {σ0 : St → Prop} {x : Xc} (s : Same (hid H L) (hid H1 L1)) (h : PostX G σ0 H L x en) : PostX G σ0 H1 L1 x en := fun cls d σ H' L' a b c e => h cls d σ H' L' a b (s.trans c) e
theorem PostE.from {r : Rs SV} (s : Same (hid H L) (hid H1 L1)) (h : PostE G σ H L r Q) : PostE G σ H1 L1 r Q := by
  cases r with
  | ok sv en' => exact fun v H' L' a b c => h v H' L' a (s.trans b) c
  | exc x en' => exact PostX.from s h
  | stuck => exact h
theorem PostT.from {r : Rs Bool} {Q : Bool → Hp → Prop} (s : Same (hid H L) (hid H1 L1)) (h : PostT G σ H L r Q) : PostT G σ H1 L1 r Q := by
  cases r with
  | ok sv en' => exact fun H' L' a b => h H' L' a (s.trans b)
  | exc x en' => exact PostX.from s h
  | stuck => exact h
theorem PostA.from {r : Rs (List SV)} {Q : List V → Hp → Prop} (s : Same (hid H L) (hid H1 L1)) (h : PostA G σ H L r Q) : PostA G σ H1 L1 r Q := by
  cases r with
  | ok sv en' => exact fun v H' L' a b c => h v H' L' a (s.trans b) c
  | exc x en' => exact PostX.from s h
  | stuck => exact h
theorem PostX.imp {σ0 σ1 : St → Prop} {x : Xc} (h : PostX G σ0 H L x en) (k : ∀ σ, σ1 σ → σ0 σ) : PostX G σ1 H L x en := fun cls d σ H' L' a b c e => h cls d σ H' L' (k σ a) b c e
theorem PostS.from {w1 w2 : List Nat} {σ1 : St} {r : Rs Ct} {E : Ends} (s : Same (hid H L) (hid H1 L1)) (k : Keeps w1 σ σ1) (h : PostS G (w1 ++ w2) σ H L r E) : PostS G w2 σ1 H1 L1 r E := by
  cases r with
  | ok c en' =>
    cases c with
    | nx => exact fun σ' H' L' a b c => h σ' H' L' a (s.trans b) (k.trans c)
    | bk => exact fun σ' H' L' a b c => h σ' H' L' a (s.trans b) (k.trans c)
    | ct => exact fun σ' H' L' a b c => h σ' H' L' a (s.trans b) (k.trans c)
    | rt sv => exact fun v σ' H' L' a b c => h v σ' H' L' a (s.trans b) c
  | exc x en' => exact (PostX.from s h).imp fun σ' k' => k.trans k'
  | stuck => exact h
theorem PostS.from0 {wr : List Nat} {r : Rs Ct} {E : Ends} (s : Same (hid H L) (hid H1 L1)) (h : PostS G wr σ H L r E) : PostS G wr σ H1 L1 r E := PostS.from (w1 := []) s Keeps.refl h
theorem PostS.less {w1 w2 : List Nat} {r : Rs Ct} {E : Ends} (l : ∀ j ∈ w1, j ∈ w2) (h : PostS G w2 σ H L r E) : PostS G w1 σ H L r E := by
  cases r with
  | ok c en' =>
    cases c with
    | nx => exact fun σ' H' L' a b c => h σ' H' L' a b (c.mono l)
    | bk => exact fun σ' H' L' a b c => h σ' H' L' a b (c.mono l)
    | ct => exact fun σ' H' L' a b c => h σ' H' L' a b (c.mono l)
    | rt sv => exact fun v σ' H' L' a b c => h v σ' H' L' a b c
  | exc x en' => exact PostX.imp h fun σ' k' => k'.mono l
  | stuck => exact h
theorem PostX.at {wr : List Nat} {x : Xc} (h : PostX G (Keeps wr σ) H L x en) : PostX G (· = σ) H L x en := h.imp fun σ' e => by rw [e]; exact Keeps.refl
/-- a value that stands in the heap as it is -/
theorem post_d (R : RelS G L σ H en) (h : Dq G.K (hid H L) v d) (q : PostE G σ H L (.ok (.d d) en) Q) : Q v H := q v H L R (Same.refl _) h
theorem post_tup {p : Addr} {xs : List V} {ds : List D} (R : RelS G L σ H en) (n : H p = none) (h : DqAll G.K (hid H L) xs ds) (q : PostE G σ H L (.ok (.d (.tuple ds)) en) Q) : Q (.ref p) (upd H p (.tup xs)) := by
  have s : Same H (upd H p (.tup xs)) := same_new n
  refine q _ _ L (R.grow s) (hid_mono s) ?_
  refine .tup (.of ?_) (DqAll.mono (hid_mono s) _ h)
  rw [hid_out (R.fresh_out n)]
  exact upd_same
theorem own_out (R : RelS G L σ H en) {p : Addr} (n : p ∉ L) (i : Nat) (c : OB) (e : en[i]? = some (some (SV.own c))) : σ[i]? ≠ some (some (V.ref p)) := fun z => by
  obtain ⟨a, o, e1, m, _⟩ := R.slot i _ e
  rw [z] at e1
  cases e1
  exact n m
theorem post_lst {p : Addr} {xs : List V} {ds : List D} (R : RelS G L σ H en) (n : H p = none) (h : DqAll G.K (hid H L) xs ds) (q : PostE G σ H L (.ok (.own (.lst ds)) en) Q) : Q (.ref p) (upd H p (.lst xs)) :=
  q _ _ (p :: L) (R.hide n (.inl ⟨xs, rfl⟩)) (hid_new n) ⟨p, .lst xs, rfl, List.mem_cons_self, R.fresh_base n, upd_same, DqAll.mono (hid_new n) _ h, own_out R (R.fresh_out n)⟩
/-- sequence -/
theorem seqE {ma : M SV} {f : SV → M SV} (R : RelS G L σ H en) (q : PostE G σ H L (mbind ma f en) Q) :
    tE G ma σ H fun x H1 => ∃ en1 L1 sv, RelS G L1 σ H1 en1 ∧ Same (hid H L) (hid H1 L1) ∧ RV G L1 σ H1 en1 x sv ∧ PostE G σ H1 L1 (f sv en1) Q := by
  refine ⟨en, L, R, ?_⟩
  unfold mbind at q
  cases e : ma en with
  | ok sv en' =>
    rw [e] at q
    exact fun v H' L' a b c => ⟨en', L', sv, a, b, c, q.from b⟩
  | exc x en' =>
    rw [e] at q
    exact q
  | stuck =>
    rw [e] at q
    exact q
theorem seqA {ma : M SV} {f : SV → M (List SV)} {Q : List V → Hp → Prop} (R : RelS G L σ H en) (q : PostA G σ H L (mbind ma f en) Q) :
    tE G ma σ H fun x H1 => ∃ en1 L1 sv, RelS G L1 σ H1 en1 ∧ Same (hid H L) (hid H1 L1) ∧ RV G L1 σ H1 en1 x sv ∧ PostA G σ H1 L1 (f sv en1) Q := by
  refine ⟨en, L, R, ?_⟩
  unfold mbind at q
  cases e : ma en with
  | ok sv en' =>
    rw [e] at q
    exact fun v H' L' a b c => ⟨en', L', sv, a, b, c, q.from b⟩
  | exc x en' =>
    rw [e] at q
    exact q
  | stuck =>
    rw [e] at q
    exact q
theorem seqAA {ma : M (List SV)} {f : List SV → M (List SV)} {Q : List V → Hp → Prop} (R : RelS G L σ H en) (q : PostA G σ H L (mbind ma f en) Q) :
    tA G ma σ H fun x H1 => ∃ en1 L1 sv, RelS G L1 σ H1 en1 ∧ Same (hid H L) (hid H1 L1) ∧ RVs G L1 σ H1 en1 x sv ∧ PostA G σ H1 L1 (f sv en1) Q := by
  refine ⟨en, L, R, ?_⟩
  unfold mbind at q
  cases e : ma en with
  | ok sv en' =>
    rw [e] at q
    exact fun v H' L' a b c => ⟨en', L', sv, a, b, c, q.from b⟩
  | exc x en' =>
    rw [e] at q
    exact q
  | stuck =>
    rw [e] at q
    exact q
theorem seqAE {ma : M (List SV)} {f : List SV → M SV} (R : RelS G L σ H en) (q : PostE G σ H L (mbind ma f en) Q) :
    tA G ma σ H fun x H1 => ∃ en1 L1 sv, RelS G L1 σ H1 en1 ∧ Same (hid H L) (hid H1 L1) ∧ RVs G L1 σ H1 en1 x sv ∧ PostE G σ H1 L1 (f sv en1) Q := by
  refine ⟨en, L, R, ?_⟩
  unfold mbind at q
  cases e : ma en with
  | ok sv en' =>
    rw [e] at q
    exact fun v H' L' a b c => ⟨en', L', sv, a, b, c, q.from b⟩
  | exc x en' =>
    rw [e] at q
    exact q
  | stuck =>
    rw [e] at q
    exact q
theorem seqET {ma : M SV} {f : SV → M Bool} {Q : Bool → Hp → Prop} (R : RelS G L σ H en) (q : PostT G σ H L (mbind ma f en) Q) :
    tE G ma σ H fun x H1 => ∃ en1 L1 sv, RelS G L1 σ H1 en1 ∧ Same (hid H L) (hid H1 L1) ∧ RV G L1 σ H1 en1 x sv ∧ PostT G σ H1 L1 (f sv en1) Q := by
  refine ⟨en, L, R, ?_⟩
  unfold mbind at q
  cases e : ma en with
  | ok sv en' =>
    rw [e] at q
    exact fun v H' L' a b c => ⟨en', L', sv, a, b, c, q.from b⟩
  | exc x en' =>
    rw [e] at q
    exact q
  | stuck =>
    rw [e] at q
    exact q
theorem seqTE {ma : M Bool} {f : Bool → M SV} (R : RelS G L σ H en) (q : PostE G σ H L (mbind ma f en) Q) :
    tT G ma σ H fun x H1 => ∃ en1 L1, RelS G L1 σ H1 en1 ∧ Same (hid H L) (hid H1 L1) ∧ PostE G σ H1 L1 (f x en1) Q := by
  refine ⟨en, L, R, ?_⟩
  unfold mbind at q
  cases e : ma en with
  | ok sv en' =>
    rw [e] at q
    exact fun H' L' a b => ⟨en', L', a, b, q.from b⟩
  | exc x en' =>
    rw [e] at q
    exact q
  | stuck =>
    rw [e] at q
    exact q
theorem seqTT {ma : M Bool} {f : Bool → M Bool} {Q : Bool → Hp → Prop} (R : RelS G L σ H en) (q : PostT G σ H L (mbind ma f en) Q) :
    tT G ma σ H fun x H1 => ∃ en1 L1, RelS G L1 σ H1 en1 ∧ Same (hid H L) (hid H1 L1) ∧ PostT G σ H1 L1 (f x en1) Q := by
  refine ⟨en, L, R, ?_⟩
  unfold mbind at q
  cases e : ma en with
  | ok sv en' =>
    rw [e] at q
    exact fun H' L' a b => ⟨en', L', a, b, q.from b⟩
  | exc x en' =>
    rw [e] at q
    exact q
  | stuck =>
    rw [e] at q
    exact q
end

/-! ### names and constants -/
def mVar (i : Nat) : M SV := fun en => match en[i]? with
  | some (some (.d d)) => .ok (.d d) en
  | some (some (.own _)) => .ok (.bor i) en
  | _ => .stuck
def mC (d : D) : M SV := mpure (.d d)
section
variable {X : Cx} {G : Gs} {e a b : Expr} {m ma mb : M SV} {pos : Pos}
theorem je_var (hK : X.K = G.K) (i : Nat) {x : Str} (hN : X.N[i]? = some x := by rfl) (hv : Vis X.env.scope x := by first | exact Or.inl rfl | exact Or.inr (Or.inl rfl) | exact Or.inr (Or.inr rfl)) (hd : (x == ("__debug__" : Str)) = false := by decide)
    (hcd : (x == ("__classdict__" : Str)) = false := by decide) : PE X (.Name x pos) (tE G (mVar i)) := by
  refine (pe_var hN hv hd hcd).imp fun σ H Q h => ?_
  obtain ⟨en, L, R, q⟩ := h
  unfold mVar at q
  cases e : en[i]? with
  | none => rw [e] at q; exact q.elim
  | some o =>
    rw [e] at q
    cases o with
    | none => exact q.elim
    | some sv =>
      have z := R.slot i sv e
      cases sv with
      | d d =>
        obtain ⟨v, e1, hv⟩ := z
        exact ⟨v, e1, q v H L R (Same.refl _) hv⟩
      | own o =>
        obtain ⟨a, ho, e1, _⟩ := z
        exact ⟨.ref a, e1, q _ H L R (Same.refl _) ⟨e1, o, e⟩⟩
      | bor _ => exact q.elim
theorem je_c {v : V} {d : D} (h : PE X e (tC v)) (hd : ∀ H, Dq G.K H v d) : PE X e (tE G (mC d)) := h.imp fun σ H Q h => by
  obtain ⟨en, L, R, q⟩ := h
  exact post_d R (hd _) q
theorem je_int {i : Int} {j} : PE X (.Constant (.int i) j pos) (tE G (mC (.int i))) := je_c pe_int fun _ => .int i
theorem je_str {i : Str} {j} : PE X (.Constant (.str i) j pos) (tE G (mC (.str i))) := je_c pe_str fun _ => .str i
theorem je_bl {i : Bool} {j} : PE X (.Constant (.bool i) j pos) (tE G (mC (.bool i))) := je_c pe_bl fun _ => .bl i
theorem je_non {j} : PE X (.Constant .none j pos) (tE G (mC .none)) := je_c pe_non fun _ => .non
/-- an object that nobody holds by a slot is let be seen -/
theorem own_show {G : Gs} {H : Hp} {L : List Addr} {σ : St} {en : En} {a : Addr} (R : RelS G L σ H en) (na : a ∉ G.B) (n : ∀ (i : Nat) (c : OB), en[i]? = some (some (SV.own c)) → σ[i]? ≠ some (some (V.ref a))) :
    RelS G (L.filter (· ≠ a)) σ H en ∧ Same (hid H L) (hid H (L.filter (· ≠ a))) ∧ a ∉ L.filter (· ≠ a) := by
  have h : ∀ b ∈ L.filter (· ≠ a), b ∈ L := fun b z => (List.mem_filter.mp z).1
  refine ⟨R.show h (fun b m => List.mem_filter.mpr ⟨(R.base b m).1, decide_eq_true fun z => na (z ▸ m)⟩) fun i b c e e1 m => List.mem_filter.mpr ⟨m, ?_⟩, hid_less h, fun z => ?_⟩
  · exact decide_eq_true fun z => n i b e (z ▸ e1)
  · have := (List.mem_filter.mp z).2
    simp at this
theorem je_frz (h : PE X e (tE G m)) : PE X e (tE G (mfrz m)) := h.imp fun σ H Q h => by
  obtain ⟨en, L, R, q⟩ := h
  obtain ⟨en1, L1, R1, q1⟩ := seqE (f := fun sv => match sv with
    | .own (.lst ds) => mpure (.d (.list ds))
    | .own (.dct _) => mstuck
    | sv => mpure sv) R q
  refine ⟨en1, L1, R1, ?_⟩
  cases e : m en1 with
  | stuck => rw [e] at q1; exact q1
  | exc x en' => rw [e] at q1; exact q1
  | ok sv en' =>
    rw [e] at q1
    intro v H' L' R' s r
    obtain ⟨en2, L2, sv2, R2, s2, r2, q2⟩ := q1 v H' L' R' s r
    cases sv2 with
    | d d => exact q2 v H' L2 R2 (Same.refl _) r2
    | bor i => exact q2 v H' L2 R2 (Same.refl _) r2
    | own o =>
      cases o with
      | dct _ => exact q2.elim
      | lst ds =>
        obtain ⟨a, o, rfl, ma, nb, ho, hr, n⟩ := r2
        obtain ⟨R3, s3, n3⟩ := own_show R2 nb n
        refine q2 _ H' _ R3 s3 ?_
        cases o with
        | lst xs =>
          refine .lst ?_ (DqAll.mono s3 _ hr)
          rw [hid_out n3]
          exact ho
        | _ => exact hr.elim
end
end L2

namespace L2
open PySem PySem.Spec PyProof.Rows

def mres (o : Option SV) : M SV := fun en => match o with
  | some sv => .ok sv en
  | none => .stuck
def mOp1 (f : D → M SV) (ma : M SV) : M SV := mbind (mfrz ma) fun a en => match look en a with
  | some x => f x en
  | none => .stuck
def mOp2 (f : D → D → M SV) (ma mb : M SV) : M SV := mbind (mfrz ma) fun a => mbind (mfrz mb) fun b en => match look en a, look en b with
  | some x, some y => f x y en
  | _, _ => .stuck
def Fits1 (G : Gs) (r : V → Hp → VK → Prop) (f : D → M SV) : Prop := ∀ σ H L en x dx Q, RelS G L σ H en → Opd G.K H L x dx → PostE G σ H L (f dx en) Q → r x H Q
def Fits2 (G : Gs) (r : R2) (f : D → D → M SV) : Prop := ∀ σ H L en x y dx dy Q, RelS G L σ H en → Opd G.K H L x dx → Opd G.K H L y dy → PostE G σ H L (f dx dy en) Q → r x y H Q
section
variable {X : Cx} {G : Gs} {e a b : Expr} {m ma mb : M SV} {pos : Pos} {r : R2} {f : D → D → M SV}
theorem op1_imp {r : V → Hp → VK → Prop} {f : D → M SV} (F : Fits1 G r f) (σ : St) (H : Hp) (Q : VK) (h : tE G (mOp1 f ma) σ H Q) : tUn r (tE G (mfrz ma)) σ H Q := by
  obtain ⟨en, L, R, q⟩ := h
  have z := seqE R q
  obtain ⟨en0, L0, R0, q0⟩ := z
  refine ⟨en0, L0, R0, ?_⟩
  cases e : mfrz ma en0 with
  | stuck => rw [e] at q0; exact q0
  | exc x en' => rw [e] at q0; exact q0
  | ok sv en' =>
    rw [e] at q0
    intro v H1 L1 R1 s1 r1
    obtain ⟨en2, L2, sv2, R2, s2, r2, q2⟩ := q0 v H1 L1 R1 s1 r1
    show r v H1 Q
    cases e2 : look en2 sv2 with
    | none => simp only [e2] at q2; exact q2.elim
    | some d =>
      simp only [e2] at q2
      exact F σ H1 L2 en2 v d Q R2 (RV.opd R2 (Same.refl _) r2 e2) q2
/-- weaken the end of an expression's reading -/
theorem tE.mono {Q Q' : VK} {σ : St} {H : Hp} (h : tE G m σ H Q) (k : ∀ v H', Q v H' → Q' v H') : tE G m σ H Q' := by
  obtain ⟨en, L, R, q⟩ := h
  refine ⟨en, L, R, ?_⟩
  cases e : m en with
  | stuck => rw [e] at q; exact q
  | exc x en' => rw [e] at q; exact q
  | ok sv en' =>
    rw [e] at q
    exact fun v H1 L1 a b c => k _ _ (q v H1 L1 a b c)
theorem tT.mono {m : M Bool} {Q Q' : Bool → Hp → Prop} {σ : St} {H : Hp} (h : tT G m σ H Q) (k : ∀ v H', Q v H' → Q' v H') : tT G m σ H Q' := by
  obtain ⟨en, L, R, q⟩ := h
  refine ⟨en, L, R, ?_⟩
  cases e : m en with
  | stuck => rw [e] at q; exact q
  | exc x en' => rw [e] at q; exact q
  | ok sv en' =>
    rw [e] at q
    exact fun H1 L1 a b => k _ _ (q H1 L1 a b)
theorem tA.mono {m : M (List SV)} {Q Q' : List V → Hp → Prop} {σ : St} {H : Hp} (h : tA G m σ H Q) (k : ∀ v H', Q v H' → Q' v H') : tA G m σ H Q' := by
  obtain ⟨en, L, R, q⟩ := h
  refine ⟨en, L, R, ?_⟩
  cases e : m en with
  | stuck => rw [e] at q; exact q
  | exc x en' => rw [e] at q; exact q
  | ok sv en' =>
    rw [e] at q
    exact fun v H1 L1 a b c => k _ _ (q v H1 L1 a b c)
theorem tS.mono {wr : List Nat} {m : M Ct} {E E' : Ends} {σ : St} {H : Hp} (h : tS G wr m E σ H) (k1 : ∀ σ' H', E.nx σ' H' → E'.nx σ' H') (k2 : ∀ σ' H', E.rt σ' H' → E'.rt σ' H') (k3 : ∀ σ' H', E.bk σ' H' → E'.bk σ' H') (k4 : ∀ σ' H', E.ct σ' H' → E'.ct σ' H') : tS G wr m E' σ H := by
  obtain ⟨en, L, R, q⟩ := h
  refine ⟨en, L, R, ?_⟩
  cases e : m en with
  | stuck => rw [e] at q; exact q
  | exc x en' => rw [e] at q; exact q
  | ok c en' =>
    rw [e] at q
    cases c with
    | nx => exact fun σ1 H1 L1 a b k => k1 _ _ (q σ1 H1 L1 a b k)
    | bk => exact fun σ1 H1 L1 a b k => k3 _ _ (q σ1 H1 L1 a b k)
    | ct => exact fun σ1 H1 L1 a b k => k4 _ _ (q σ1 H1 L1 a b k)
    | rt sv => exact fun v σ1 H1 L1 a b c => k2 _ _ (q v σ1 H1 L1 a b c)
theorem op2_imp (F : Fits2 G r f) (σ : St) (H : Hp) (Q : VK) (h : tE G (mOp2 f ma mb) σ H Q) : tOp r (tE G (mfrz ma)) (tE G (mfrz mb)) σ H Q := by
  obtain ⟨en, L, R, q⟩ := h
  refine (seqE R q).mono fun x H1 ⟨en1, L1, sv1, R1, s1, r1, q1⟩ => ?_
  refine (seqE R1 q1).mono fun y H2 ⟨en2, L2, sv2, R2, s2, r2, q2⟩ => ?_
  cases e1 : look en2 sv1 with
  | none => simp only [e1] at q2; exact q2.elim
  | some d1 =>
    cases e2 : look en2 sv2 with
    | none => simp only [e1, e2] at q2; exact q2.elim
    | some d2 =>
      simp only [e1, e2] at q2
      exact F σ H2 L2 en2 x y d1 d2 Q R2 (RV.opd R2 s2 r1 e1) (RV.opd R2 (Same.refl _) r2 e2) q2
/-! ### operators -/
theorem je_bin {op : Operator} (ho : OpR X (binaryOp op) r) (F : Fits2 G r f) (ha : PE X a (tE G ma)) (hb : PE X b (tE G mb)) : PE X (.BinOp a op b pos) (tE G (mOp2 f ma mb)) :=
  (pe_op ho (je_frz ha) (je_frz hb)).imp (op2_imp F)
theorem je_un {op : UnaryOp} {r : V → Hp → VK → Prop} {f : D → M SV} (ho : UnR X (unaryOp op) r) (F : Fits1 G r f) (ha : PE X a (tE G ma)) : PE X (.UnaryOp op a pos) (tE G (mOp1 f ma)) :=
  (pe_un ho (je_frz ha)).imp (op1_imp F)
theorem je_cmp {op : CmpOp} (ho : OpR X (compareOp op) r) (F : Fits2 G r f) (ha : PE X a (tE G ma)) (hb : PE X b (tE G mb)) (hm : behindInMarks op b = false := by first | exact nobehind _ (by decide) (by decide) | rfl) : PE X (.Compare a [op] [b] pos) (tE G (mOp2 f ma mb)) :=
  (pe_cmpR ho (je_frz ha) (je_frz hb) hm).imp (op2_imp F)
theorem je_ix (hr : IxR X r) (F : Fits2 G r f) (ha : PE X a (tE G ma)) (hb : PE X b (tE G mb)) (hs : PlainIx b := by exact fun _ _ => rfl) : PE X (.Subscript a b pos) (tE G (mOp2 f ma mb)) :=
  (pe_ix hr (je_frz ha) (je_frz hb) hs).imp (op2_imp F)
/-! ### tests -/
def mB (m : M SV) : M Bool := mbind m fun sv => match sv with
  | .d (.bool b) => mpure b
  | _ => mstuck
theorem test_imp {t : TE} (k : ∀ σ H Q, tE G m σ H Q → t σ H Q) (σ : St) (H : Hp) (Q : Bool → Hp → Prop) (h : tT G (mB m) σ H Q) : t σ H fun x H' => ∃ c, x = .bl c ∧ Q c H' := by
  obtain ⟨en, L, R, q⟩ := h
  refine k σ H _ ((seqET R q).mono fun x H1 ⟨en1, L1, sv1, R1, s1, r1, q1⟩ => ?_)
  cases sv1 with
  | own _ => exact q1.elim
  | bor _ => exact q1.elim
  | d d =>
    cases d with
    | bool b =>
      cases r1
      exact ⟨b, rfl, q1 H1 L1 R1 (Same.refl _)⟩
    | _ => exact q1.elim
theorem jt_cmp {op : CmpOp} (ho : OpR X (compareOp op) r) (F : Fits2 G r f) (ha : PE X a (tE G ma)) (hb : PE X b (tE G mb)) (hm : behindInMarks op b = false := by first | exact nobehind _ (by decide) (by decide) | rfl) : PT X (.Compare a [op] [b] pos) (tT G (mB (mOp2 f ma mb))) :=
  (pt_cmpR ho (je_frz ha) (je_frz hb) hm).imp (test_imp (op2_imp F))
theorem jt_val (h : PE X e (tE G m)) (he : ∀ whole, isTrue e X.env whole = (do let v ← whole; standAt e.pos; holding [v] (truthy v)) := by intro _; rfl) : PT X e (tT G (mB m)) :=
  (pt_val h he).imp (test_imp fun _ _ _ h => h)
def mNotT (m : M Bool) : M Bool := mbind m fun b => mpure (!b)
def mAndT (m n : M Bool) : M Bool := mbind m fun b => if b then n else mpure false
def mOrT (m n : M Bool) : M Bool := mbind m fun b => if b then mpure true else n
variable {ta tb : M Bool}
theorem jt_not (h : PT X e (tT G ta)) : PT X (.UnaryOp .Not e pos) (tT G (mNotT ta)) := (pt_not h).imp fun σ H Q h => by
  obtain ⟨en, L, R, q⟩ := h
  exact (seqTT R q).mono fun b H1 ⟨en1, L1, R1, s1, q1⟩ => q1 H1 L1 R1 (Same.refl _)
theorem and_imp (σ : St) (H : Hp) (Q : Bool → Hp → Prop) (h : tT G (mAndT ta tb) σ H Q) : tAnd (tT G ta) (tT G tb) σ H Q := by
  obtain ⟨en, L, R, q⟩ := h
  refine (seqTT R q).mono fun b H1 ⟨en1, L1, R1, s1, q1⟩ => ?_
  cases b with
  | true => exact ⟨en1, L1, R1, q1⟩
  | false => exact q1 H1 L1 R1 (Same.refl _)
theorem or_imp (σ : St) (H : Hp) (Q : Bool → Hp → Prop) (h : tT G (mOrT ta tb) σ H Q) : tOr (tT G ta) (tT G tb) σ H Q := by
  obtain ⟨en, L, R, q⟩ := h
  refine (seqTT R q).mono fun b H1 ⟨en1, L1, R1, s1, q1⟩ => ?_
  cases b with
  | true => exact q1 H1 L1 R1 (Same.refl _)
  | false => exact ⟨en1, L1, R1, q1⟩
theorem jw_and1 (h : PT X e (tT G ta)) : PW X (.BoolOp .And [e] pos) (tT G ta) := pw_and1 h
theorem jw_or1 (h : PT X e (tT G ta)) : PW X (.BoolOp .Or [e] pos) (tT G ta) := pw_or1 h
theorem jw_and {rest : List Expr} (ha : PT X a (tT G ta)) (hb : PW X (.BoolOp .And (b :: rest) pos) (tT G tb)) : PW X (.BoolOp .And (a :: b :: rest) pos) (tT G (mAndT ta tb)) := (pw_and ha hb).imp and_imp
theorem jw_or {rest : List Expr} (ha : PT X a (tT G ta)) (hb : PW X (.BoolOp .Or (b :: rest) pos) (tT G tb)) : PW X (.BoolOp .Or (a :: b :: rest) pos) (tT G (mOrT ta tb)) := (pw_or ha hb).imp or_imp
/-! ### and, or, not as values -/
def mBV (m : M Bool) : M SV := mbind m fun b => mpure (.d (.bool b))
theorem je_not (h : PE X e (tE G m)) : PE X (.UnaryOp .Not e pos) (tE G (mBV (mNotT (mB m)))) := (pe_not h).imp fun σ H Q h => by
  obtain ⟨en, L, R, q⟩ := h
  refine test_imp (G := G) (m := m) (Q := fun c H' => Q (.bl (!c)) H') (fun _ _ _ h => h) σ H ⟨en, L, R, ?_⟩
  unfold mBV mNotT mbind at q
  cases e1 : mB m en with
  | stuck => simp only [e1] at q; exact q
  | exc x en' => simp only [e1] at q; exact q
  | ok c en' =>
    simp only [e1] at q
    exact fun H' L' a b => q _ H' L' a b (.bl _)
theorem tT_split {m : M Bool} {f : Bool → M SV} {σ : St} {H : Hp} {L : List Addr} {en : En} {Q : VK} (R : RelS G L σ H en) (q : PostE G σ H L (mbind m f en) Q) :
    tT G m σ H fun c H1 => ∃ en1 L1, RelS G L1 σ H1 en1 ∧ PostE G σ H1 L1 (f c en1) Q := (seqTE R q).mono fun c H1 ⟨en1, L1, R1, _, q1⟩ => ⟨en1, L1, R1, q1⟩
theorem bv_and {en : En} : mBV (mAndT ta tb) en = mbind ta (fun b => if b then mBV tb else mpure (.d (.bool false))) en := by
  unfold mBV mAndT mbind
  cases ta en with
  | ok b en' => cases b <;> rfl
  | exc _ _ => rfl
  | stuck => rfl
theorem bv_or {en : En} : mBV (mOrT ta tb) en = mbind ta (fun b => if b then mpure (.d (.bool true)) else mBV tb) en := by
  unfold mBV mOrT mbind
  cases ta en with
  | ok b en' => cases b <;> rfl
  | exc _ _ => rfl
  | stuck => rfl
theorem je_one {op} (h : PE X a (tE G m)) : PE X (.BoolOp op [a] pos) (tE G (mBV (mB m))) := (pe_one h).imp fun σ H Q h => by
  obtain ⟨en, L, R, q⟩ := h
  have z := test_imp (G := G) (m := m) (Q := fun c H' => Q (.bl c) H') (fun _ _ _ h => h) σ H ⟨en, L, R, ?_⟩
  · exact z.mono fun v H' ⟨c, e, q⟩ => by rw [e]; exact q
  · unfold mBV mbind at q
    cases e1 : mB m en with
    | stuck => simp only [e1] at q; exact q
    | exc x en' => simp only [e1] at q; exact q
    | ok c en' =>
      simp only [e1] at q
      exact fun H' L' a b => q _ H' L' a b (.bl _)
theorem je_and {rest : List Expr} (ha : PE X a (tE G m)) (hb : PE X (.BoolOp .And (b :: rest) pos) (tE G (mBV tb))) : PE X (.BoolOp .And (a :: b :: rest) pos) (tE G (mBV (mAndT (mB m) tb))) := (pe_and ha hb).imp fun σ H Q h => by
  obtain ⟨en, L, R, q⟩ := h
  rw [bv_and] at q
  refine test_imp (fun _ _ _ h => h) σ H _ ((tT_split R q).mono fun c H1 ⟨en1, L1, R1, q1⟩ => ?_)
  cases c with
  | true => exact ⟨en1, L1, R1, q1⟩
  | false => exact q1 _ H1 L1 R1 (Same.refl _) (.bl _)
theorem je_or {rest : List Expr} (ha : PE X a (tE G m)) (hb : PE X (.BoolOp .Or (b :: rest) pos) (tE G (mBV tb))) : PE X (.BoolOp .Or (a :: b :: rest) pos) (tE G (mBV (mOrT (mB m) tb))) := (pe_or ha hb).imp fun σ H Q h => by
  obtain ⟨en, L, R, q⟩ := h
  rw [bv_or] at q
  refine test_imp (fun _ _ _ h => h) σ H _ ((tT_split R q).mono fun c H1 ⟨en1, L1, R1, q1⟩ => ?_)
  cases c with
  | true => exact q1 _ H1 L1 R1 (Same.refl _) (.bl _)
  | false => exact ⟨en1, L1, R1, q1⟩
def mIf (t : M Bool) (m n : M SV) : M SV := mbind t fun b => if b then m else n
theorem je_if {c : Expr} (hc : PT X c (tT G ta)) (ha : PE X a (tE G ma)) (hb : PE X b (tE G mb)) : PE X (.IfExp c a b pos) (tE G (mIf ta ma mb)) := (pe_ifExp hc ha hb).imp fun σ H Q h => by
  obtain ⟨en, L, R, q⟩ := h
  refine (tT_split R q).mono fun c H1 ⟨en1, L1, R1, q1⟩ => ?_
  cases c with
  | true => exact ⟨en1, L1, R1, q1⟩
  | false => exact ⟨en1, L1, R1, q1⟩
end

/-! ### arguments -/
def mNil : M (List SV) := mpure []
section
variable {X : Cx} {G : Gs} {e : Expr} {es : List Expr} {m : M SV} {r : M (List SV)} {pos : Pos}
theorem ja_nil : PA X [] (tA G mNil) := pa_nil.imp fun σ H Q h => by
  obtain ⟨en, L, R, q⟩ := h
  exact q _ H L R (Same.refl _) .nil
theorem RV.later {G : Gs} {H H' : Hp} {L L' : List Addr} {σ : St} {en en' : En} {v : V} {sv : SV} (R : RelS G L' σ H' en') (s : Same (hid H L) (hid H' L')) (r : RV G L σ H en v sv) (n : ∀ b, sv ≠ .own b)
    (k : ∀ i, sv = .bor i → ∃ b, en'[i]? = some (some (SV.own b))) : RV G L' σ H' en' v sv := by
  cases sv with
  | d d => exact Dq.mono s _ r
  | own b => exact absurd rfl (n b)
  | bor i => exact ⟨r.1, k i rfl⟩
/-- a slot that is lent is not let be seen by the arguments behind -/
def lentOk (en : En) : SV → Bool
  | .bor i => match en[i]? with
    | some (some (.own _)) => true
    | _ => false
  | .own _ => false
  | .d _ => true
def mCons (m : M SV) (r : M (List SV)) : M (List SV) := mbind (mfrz m) fun a => mbind r fun as en => if lentOk en a then .ok (a :: as) en else .stuck
theorem ja_cons (ha : PE X e (tE G m)) (hr : PA X es (tA G r)) (hs : starEach (e :: es) X.env = (false, eval e X.env) :: starEach es X.env := by rfl) : PA X (e :: es) (tA G (mCons m r)) := (pa_cons (je_frz ha) hr hs).imp fun σ H Q h => by
  obtain ⟨en, L, R, q⟩ := h
  have z := seqA R q
  obtain ⟨en0, L0, R0, q0⟩ := z
  refine ⟨en0, L0, R0, ?_⟩
  cases e0 : mfrz m en0 with
  | stuck => rw [e0] at q0; exact q0
  | exc x en' => rw [e0] at q0; exact q0
  | ok sv en' =>
    rw [e0] at q0
    intro v H1 L1 R1 s1 r1
    obtain ⟨en1, L1', sv1, R1', s1', r1', q1⟩ := q0 v H1 L1 R1 s1 r1
    refine (seqAA R1' q1).mono fun vs H2 ⟨en2, L2, svs, R2, s2, r2, q2⟩ => ?_
    by_cases hl : lentOk en2 sv1 = true
    · simp only [hl, if_true] at q2
      have n : ∀ b, sv1 ≠ .own b := fun b z => by subst z; cases hl
      refine q2 (v :: vs) H2 L2 R2 (Same.refl _) (.cons ⟨RV.later R2 s2 r1' n fun i e => ?_, n⟩ r2)
      subst e
      unfold lentOk at hl
      cases q : en2[i]? with
      | none => simp [q] at hl
      | some o => cases o with
        | none => simp [q] at hl
        | some s => cases s with
          | own b => exact ⟨b, rfl⟩
          | d _ => simp [q] at hl
          | bor _ => simp [q] at hl
    · simp only [hl] at q2
      exact q2.elim
end
end L2

namespace L2
open PySem PySem.Spec PyProof.Rows

/-! ### a slot's list is let be seen for good -/
theorem slot_freeze {G : Gs} {H : Hp} {L : List Addr} {σ : St} {en : En} {i : Nat} {ds : List D} {a : Addr} {xs : List V} (R : RelS G L σ H en) (e : en[i]? = some (some (SV.own (.lst ds)))) (e1 : σ[i]? = some (some (V.ref a))) (ho : H a = some (.lst xs))
    (hr : DqAll G.K (hid H L) xs ds) : RelS G (L.filter (· ≠ a)) σ H (en.set i (some (.d (.list ds)))) ∧ Same (hid H L) (hid H (L.filter (· ≠ a))) ∧ Dq G.K (hid H (L.filter (· ≠ a))) (.ref a) (.list ds) := by
  have h : ∀ b ∈ L.filter (· ≠ a), b ∈ L := fun b z => (List.mem_filter.mp z).1
  have n : a ∉ L.filter (· ≠ a) := fun z => by have := (List.mem_filter.mp z).2; simp at this
  have s := hid_less (H := H) h
  have dp : Dq G.K (hid H (L.filter (· ≠ a))) (.ref a) (.list ds) := .lst (by rw [hid_out n]; exact ho) (DqAll.mono s _ hr)
  refine ⟨⟨fun b m => R.own b (h b m), R.same.trans s, by rw [List.length_set]; exact R.len, fun j sv ej => ?_, fun j k b c a' hjk ej ek => ?_, fun b m => ?_⟩, s, dp⟩
  · by_cases hj : j = i
    · subst hj
      have hlt : j < en.length := by
        have := (List.getElem?_eq_some_iff.mp e).1
        exact this
      rw [List.getElem?_set_self hlt] at ej
      cases ej
      exact ⟨_, e1, dp⟩
    · rw [List.getElem?_set_ne (Ne.symm hj)] at ej
      have z := R.slot j sv ej
      cases sv with
      | d dd => obtain ⟨v, q1, q2⟩ := z; exact ⟨v, q1, Dq.mono s _ q2⟩
      | own b =>
        obtain ⟨c, u, q1, m, q2, q3⟩ := z
        refine ⟨c, u, q1, List.mem_filter.mpr ⟨m, decide_eq_true fun z => ?_⟩, q2, q3.mono s⟩
        subst z
        exact R.apart j i _ _ _ hj ej e q1 e1
      | bor _ => exact z
  · have key : ∀ j b, (en.set i (some (.d (.list ds))))[j]? = some (some (SV.own b)) → en[j]? = some (some (SV.own b)) := fun j b q => by
      by_cases hj : j = i
      · subst hj
        rw [List.getElem?_set_self (List.getElem?_eq_some_iff.mp e).1] at q
        cases q
      · rw [List.getElem?_set_ne (Ne.symm hj)] at q
        exact q
    exact R.apart j k b c a' hjk (key _ _ ej) (key _ _ ek)
  · obtain ⟨h1, h2, h3⟩ := R.base b m
    refine ⟨List.mem_filter.mpr ⟨h1, decide_eq_true fun z => h3 i _ e (by rw [z]; exact e1)⟩, h2, fun j c q => ?_⟩
    by_cases hj : j = i
    · subst hj
      rw [List.getElem?_set_self (List.getElem?_eq_some_iff.mp e).1] at q
      cases q
    · rw [List.getElem?_set_ne (Ne.symm hj)] at q
      exact h3 j c q
section
variable {X : Cx} {G : Gs} {e : Expr} {es : List Expr} {m : M SV} {r : M (List SV)} {pos : Pos}
theorem je_keep (h : PE X e (tE G m)) : PE X e (tE G (mkeep m)) := (je_frz h).imp fun σ H Q h => by
  obtain ⟨en, L, R, q⟩ := h
  refine (seqE R q).mono fun v H1 ⟨en1, L1, sv1, R1, s1, r1, q1⟩ => ?_
  cases sv1 with
  | d d => exact q1 v H1 L1 R1 (Same.refl _) r1
  | own o => exact q1 v H1 L1 R1 (Same.refl _) r1
  | bor i =>
    obtain ⟨e1, b, e2⟩ := r1
    simp only [e2] at q1
    cases b with
    | dct _ => exact q1.elim
    | lst ds =>
      have z := R1.slot i _ e2
      obtain ⟨a, o, e3, ma, ho, hr⟩ := z
      rw [e1] at e3
      cases e3
      cases o with
      | lst xs =>
        obtain ⟨R2, s2, dp⟩ := slot_freeze R1 e2 e1 ho hr
        exact q1 _ H1 _ R2 s2 dp
      | _ => exact hr.elim
/-! ### displays -/
def mTup (r : M (List SV)) : M SV := mbind r fun svs => fun en => match looks en svs with
  | some ds => if ds.length ≤ sizeLine ∧ svs.all (fun s => match s with | .d _ => true | _ => false) = true then .ok (.d (.tuple ds)) en else .stuck
  | none => .stuck
def mLst (r : M (List SV)) : M SV := mbind r fun svs => fun en => match looks en svs with
  | some ds => if ds.length ≤ sizeLine ∧ svs.all (fun s => match s with | .d _ => true | _ => false) = true then .ok (.own (.lst ds)) en else .stuck
  | none => .stuck
theorem all_d {G : Gs} {H : Hp} {L : List Addr} {σ : St} {en : En} : ∀ {vs : List V} {svs : List SV} {ds : List D}, RVs G L σ H en vs svs → looks en svs = some ds → svs.all (fun s => match s with | .d _ => true | _ => false) = true → DqAll G.K (hid H L) vs ds
  | _, _, _, .nil, e, _ => by
    simp only [looks, Option.some.injEq] at e
    subst e
    exact .nil
  | _, s :: _, _, .cons h t, e, f => by
    simp only [List.all_cons, Bool.and_eq_true] at f
    simp only [looks] at e
    cases s with
    | d d =>
      split at e
      · rename_i d' ds' e1 e2
        simp only [Option.some.injEq] at e
        subst e
        simp only [look, Option.some.injEq] at e1
        subst e1
        exact .cons h.1 (all_d t e2 f.2)
      · cases e
    | own _ => exact nomatch f.1
    | bor _ => exact nomatch f.1
theorem je_tup {x1} (h : PA X es (tA G r)) : PE X (.Tuple es x1 pos) (tE G (mTup r)) := (pe_tup h).imp fun σ H Q h => by
  obtain ⟨en, L, R, q⟩ := h
  refine (seqAE R q).mono fun vs H1 ⟨en1, L1, svs, R1, s1, r1, q1⟩ => ?_
  cases e : looks en1 svs with
  | none => simp only [e] at q1; exact q1.elim
  | some ds =>
    simp only [e] at q1
    split at q1
    · rename_i hz
      have dp := all_d r1 e hz.2
      exact ⟨by rw [dp.length]; exact hz.1, fun p n => post_tup R1 n dp q1⟩
    · exact q1.elim
theorem je_lst (h : PA X es (tA G r)) : PE X (.List es pos) (tE G (mLst r)) := (pe_lst h).imp fun σ H Q h => by
  obtain ⟨en, L, R, q⟩ := h
  refine (seqAE R q).mono fun vs H1 ⟨en1, L1, svs, R1, s1, r1, q1⟩ => ?_
  cases e : looks en1 svs with
  | none => simp only [e] at q1; exact q1.elim
  | some ds =>
    simp only [e] at q1
    split at q1
    · rename_i hz
      have dp := all_d r1 e hz.2
      exact ⟨by rw [dp.length]; exact hz.1, fun p n => post_lst R1 n dp q1⟩
    · exact q1.elim
end

/-! ### operations on data -/
section
variable {X : Cx} {G : Gs}
def ivD (o : Option D) : M SV := fun en => match o with
  | some d => .ok (.d d) en
  | none => .stuck
def fI2 (g : Int → Int → Option D) : D → D → M SV
  | .int i, .int j => ivD (g i j)
  | _, _ => mstuck
theorem fit_rI {C : Int → Int → Prop} {h : Int → Int → V} {g : Int → Int → Option D} (k : ∀ i j d, g i j = some d → C i j ∧ ∀ H, Dq G.K H (h i j) d) : Fits2 G (rI C h) (fI2 g) := by
  intro σ H L en x y dx dy Q R ox oy q
  unfold fI2 at q
  split at q
  · rename_i i j
    unfold ivD at q
    cases e : g i j with
    | none => rw [e] at q; exact q.elim
    | some d =>
      rw [e] at q
      obtain ⟨c, dp⟩ := k i j d e
      exact ⟨i, j, ox.int, oy.int, c, post_d R (dp _) q⟩
  · exact q.elim
theorem fit_rI0 {h : Int → Int → V} {g : Int → Int → Option D} (k : ∀ i j d, g i j = some d → ∀ H, Dq G.K H (h i j) d) : Fits2 G (rI0 h) (fI2 g) := by
  intro σ H L en x y dx dy Q R ox oy q
  unfold fI2 at q
  split at q
  · rename_i i j
    unfold ivD at q
    cases e : g i j with
    | none => rw [e] at q; exact q.elim
    | some d =>
      rw [e] at q
      exact ⟨i, j, ox.int, oy.int, post_d R (k i j d e _) q⟩
  · exact q.elim
theorem Fits2.or {r r' : R2} {f : D → D → M SV} {g : D → D → M SV} (h : Fits2 G r f) (h' : Fits2 G r' g) {k : D → D → M SV} (c : ∀ x y, k x y = f x y ∨ k x y = g x y) : Fits2 G (fun x y H Q => r x y H Q ∨ r' x y H Q) k := by
  intro σ H L en x y dx dy Q R ox oy q
  rcases c dx dy with e | e
  · rw [e] at q; exact .inl (h σ H L en x y dx dy Q R ox oy q)
  · rw [e] at q; exact .inr (h' σ H L en x y dx dy Q R ox oy q)
def dSub : D → D → M SV := fI2 fun i j => some (.int (i - j))
def dMul : D → D → M SV := fI2 fun i j => if (-(2 ^ 64) < i ∧ i < 2 ^ 64) ∨ (-(2 ^ 64) < j ∧ j < 2 ^ 64) then some (.int (i * j)) else none
def dMod : D → D → M SV := fI2 fun i j => if 0 < j then some (.int (i % j)) else none
def dDiv : D → D → M SV := fI2 fun i j => if 0 < j ∧ j < 2 ^ 64 then some (.int (i / j)) else none
def dPow : D → D → M SV := fI2 fun i j => if (0 ≤ j ∧ j ≤ 1000000) ∧ i.natAbs < 2 ^ 64 then some (.int (i ^ j.toNat)) else none
theorem fit_sub : Fits2 G (rI0 fun i j => .int (i - j)) dSub := fit_rI0 fun i j d e H => by cases e; exact .int _
theorem fit_mul : Fits2 G (rI CMul fun i j => .int (i * j)) dMul := fit_rI fun i j d e => by
  split at e
  · rename_i h; cases e; exact ⟨h, fun _ => .int _⟩
  · cases e
theorem fit_mod : Fits2 G (rI (fun _ j => 0 < j) fun i j => .int (i % j)) dMod := fit_rI fun i j d e => by
  split at e
  · rename_i h; cases e; exact ⟨h, fun _ => .int _⟩
  · cases e
theorem fit_div : Fits2 G (rI CDivW fun i j => .int (i / j)) dDiv := fit_rI fun i j d e => by
  split at e
  · rename_i h; cases e; exact ⟨wide_div (b := 64) h.1 (by omega) (by decide) (by decide), fun _ => .int _⟩
  · cases e
theorem fit_pow : Fits2 G (rI CPow fun i j => .int (i ^ j.toNat)) dPow := fit_rI fun i j d e => by
  split at e
  · rename_i h; cases e; exact ⟨⟨h.1.1, h.1.2, h.2⟩, fun _ => .int _⟩
  · cases e
end
end L2

namespace L2
open PySem PySem.Spec PyProof.Rows
section
variable {X : Cx} {G : Gs}
/-! ### + -/
def rCatR : R2 := fun x y H Q => ∃ l b xs zs, x = .ref l ∧ y = .ref b ∧ H l = some (.lst xs) ∧ H b = some (.lst zs) ∧ xs.length + zs.length ≤ sizeLine ∧ ∀ p, H p = none → Q (.ref p) (upd H p (.lst (xs ++ zs)))
theorem op_catR : OpR X (binaryOp .Add) rCatR := by
  intro pins s σ H x y v u Q I rx ry h
  obtain ⟨l, b, xs, zs, rfl, rfl, hl, hb, hz, q⟩ := h
  obtain rfl := rx
  obtain rfl := ry
  obtain ⟨z1, i1, n1, r1, e1⟩ := I.hok _ _ hl
  obtain ⟨z2, i2, n2, r2, e2⟩ := I.hok _ _ hb
  have l1 := r1.length
  have l2 := r2.length
  refine PySem.P.add_list e1 e2 ?_ (by simp only [List.size_toArray]; omega)
  rw [show i1.toArray ++ i2.toArray = (i1 ++ i2).toArray by simp]
  exact ⟨.ref s.heap.objs.size, _, I.lnew (t' := s.toks) (r1.append r2) (by rw [List.length_append]; exact hz), rfl, q _ I.fresh⟩
def rAddA (K : Kf) : R2 := fun x y H Q => rI0 (fun i j => .int (i + j)) x y H Q ∨ (∃ i j, x = .str i ∧ y = .str j ∧ i.length + j.length ≤ sizeLine ∧ Q (.str (i ++ j)) H) ∨ rCatR x y H Q ∨ rCatA K x y H Q
theorem op_addA : OpR X (binaryOp .Add) (rAddA X.K) := op_add.or (op_add_str.or (op_catR.or op_catA))
def dAdd : D → D → M SV
  | .int i, .int j => mpure (.d (.int (i + j)))
  | .str i, .str j => if i.length + j.length ≤ sizeLine then mpure (.d (.str (i ++ j))) else mstuck
  | .list xs, .list ys => if xs.length + ys.length ≤ sizeLine then mpure (.own (.lst (xs ++ ys))) else mstuck
  | .tuple xs, .tuple ys => if xs.length + ys.length ≤ sizeLine then mpure (.d (.tuple (xs ++ ys))) else mstuck
  | _, _ => mstuck
theorem Opd.tupleD {K : Kf} {H : Hp} {L : List Addr} {x : V} {ds : List D} (h : Opd K H L x (.tuple ds)) : ∃ a xs, x = .ref a ∧ SqT K (hid H L) a xs ∧ DqAll K (hid H L) xs ds := by
  rcases h with h | ⟨a, xs, es, rfl, e, h, q⟩ | ⟨a, _, _, _, e, _⟩
  · cases h with
    | tup hs ha => exact ⟨_, _, rfl, hs, ha⟩
  · exact nomatch e
  · exact nomatch e
theorem fit_add : Fits2 G (rAddA G.K) dAdd := by
  intro σ H L en x y dx dy Q R ox oy q
  unfold dAdd at q
  split at q
  · exact .inl ⟨_, _, ox.int, oy.int, post_d R (.int _) q⟩
  · split at q
    · rename_i h
      exact .inr (.inl ⟨_, _, ox.str, oy.str, h, post_d R (.str _) q⟩)
    · exact q.elim
  · split at q
    · rename_i h
      obtain ⟨a, xs, rfl, h1, h2⟩ := ox.list
      obtain ⟨b, ys, rfl, h3, h4⟩ := oy.list
      exact .inr (.inr (.inl ⟨a, b, xs, ys, rfl, rfl, h1, h3, by rw [h2.length, h4.length]; exact h, fun p n => post_lst R n (h2.append h4) q⟩))
    · exact q.elim
  · split at q
    · rename_i h
      obtain ⟨a, xs, rfl, h1, h2⟩ := ox.tupleD
      obtain ⟨b, ys, rfl, h3, h4⟩ := oy.tupleD
      refine .inr (.inr (.inr ⟨a, b, xs, ys, rfl, rfl, sqT_mono hid_same h1, sqT_mono hid_same h3, by rw [h2.length, h4.length]; exact h, fun e => ?_, fun _ e => ?_, fun _ _ p n => post_tup R n (h2.append h4) q⟩))
      · subst e
        cases h2
        exact post_d R (.tup h3 h4) q
      · subst e
        cases h4
        rw [List.append_nil] at q
        exact post_d R (.tup h1 h2) q
    · exact q.elim
  · exact q.elim
/-! ### * -/
def rMulA : R2 := fun x y H Q => rI CMul (fun i j => .int (i * j)) x y H Q ∨ ∃ z j, x = .str z ∧ y = .int j ∧ MulOk z j ∧ Q (.str (Txt.mul z j)) H
theorem op_mul_str : OpR X (binaryOp .Mult) fun x y H Q => ∃ z j, x = .str z ∧ y = .int j ∧ MulOk z j ∧ Q (.str (Txt.mul z j)) H := by
  intro pins s σ H x y v u Q I rx ry h
  obtain ⟨z, j, rfl, rfl, hm, q⟩ := h
  obtain ⟨t1, rfl⟩ := rx
  obtain ⟨t2, rfl⟩ := ry
  exact SB.mul hm fun t' k => ⟨.str _, H, I.tok _, ⟨_, rfl⟩, q⟩
theorem op_mulA : OpR X (binaryOp .Mult) rMulA := op_mul.or op_mul_str
def dMulA : D → D → M SV
  | .int i, .int j => dMul (.int i) (.int j)
  | .str z, .int j => if j = 0 then mpure (.d (.str Str.empty)) else if j = 1 then mpure (.d (.str z)) else mstuck
  | _, _ => mstuck
theorem fit_mulA : Fits2 G rMulA dMulA := by
  intro σ H L en x y dx dy Q R ox oy q
  unfold dMulA at q
  split at q
  · exact .inl (fit_mul σ H L en x y _ _ Q R ox oy q)
  · rename_i z j
    split at q
    · rename_i h
      subst h
      exact .inr ⟨z, 0, ox.str, oy.int, ⟨by decide, fun h => absurd (by decide) h, fun h => absurd (by decide) h⟩, post_d (d := .str Str.empty) R (.str _) q⟩
    · split at q
      · rename_i h
        subst h
        refine .inr ⟨z, 1, ox.str, oy.int, ⟨by decide, fun _ h => by simp at h, fun _ h => by simp at h⟩, ?_⟩
        have e : Txt.mul z 1 = z := by unfold Txt.mul; simp
        rw [e]
        exact post_d R (.str _) q
      · exact q.elim
  · exact q.elim
/-! ### == and != -/
def scalD : D → D → Option Bool
  | .int i, .int j => some (decide (i = j))
  | .str i, .str j => some (decide (i = j))
  | .bool i, .bool j => some (decide (i = j))
  | .none, .none => some true
  | .none, .int _ => some false
  | .int _, .none => some false
  | .none, .str _ => some false
  | .str _, .none => some false
  | .int _, .str _ => some false
  | .str _, .int _ => some false
  | _, _ => none
def eqD (x y : D) : Option Bool := match scalD x y with
  | some b => some b
  | none => if plain x = true ∧ plain y = true ∧ SeqAt.shaped x = true ∧ SeqAt.shaped y = true then some (PyData.eqv x y) else none
def rEqA (K : Kf) : R2 := fun x y H Q => rEq x y H Q ∨ rEqD K x y H Q
def rNeA (K : Kf) : R2 := fun x y H Q => rNe x y H Q ∨ rNeD K x y H Q
theorem op_eqA (hu : X.A.units + 64 < cLine) : OpR X (compareOp .Eq) (rEqA X.K) := op_eq.or (op_eqD hu)
theorem op_neA (hu : X.A.units + 64 < cLine) : OpR X (compareOp .NotEq) (rNeA X.K) := op_ne.or (op_neD hu)
def bvD (o : Option Bool) : M SV := fun en => match o with
  | some b => .ok (.d (.bool b)) en
  | none => .stuck
def dEq (x y : D) : M SV := bvD (eqD x y)
def dNe (x y : D) : M SV := bvD ((eqD x y).map (!·))
theorem scalD_of {K : Kf} {H : Hp} {L : List Addr} {x y : V} {dx dy : D} {b : Bool} (ox : Opd K H L x dx) (oy : Opd K H L y dy) (e : scalD dx dy = some b) : scal x y = true ∧ decide (x = y) = b := by
  unfold scalD at e
  split at e
  all_goals first
    | (cases e; done)
    | (cases e
       first | have h1 := ox.int | have h1 := ox.str | have h1 := ox.bool | have h1 := ox.none
       first | have h2 := oy.int | have h2 := oy.str | have h2 := oy.bool | have h2 := oy.none
       subst h1 h2
       exact ⟨rfl, by simp⟩)
theorem fit_eq : Fits2 G (rEqA G.K) dEq := by
  intro σ H L en x y dx dy Q R ox oy q
  unfold dEq eqD bvD at q
  cases e : scalD dx dy with
  | some b =>
    simp only [e] at q
    obtain ⟨h1, h2⟩ := scalD_of ox oy e
    exact .inl ⟨h1, by rw [h2]; exact post_d R (.bl _) q⟩
  | none =>
    simp only [e] at q
    split at q
    · rename_i b hb
      split at hb
      · rename_i hc
        cases hb
        exact .inr ⟨dx, dy, ox.dp hc.1, oy.dp hc.2.1, hc.2.2.1, hc.2.2.2, post_d R (.bl _) q⟩
      · cases hb
    · exact q.elim
theorem fit_ne : Fits2 G (rNeA G.K) dNe := by
  intro σ H L en x y dx dy Q R ox oy q
  unfold dNe eqD bvD at q
  cases e : scalD dx dy with
  | some b =>
    simp only [e, Option.map_some] at q
    obtain ⟨h1, h2⟩ := scalD_of ox oy e
    exact .inl ⟨h1, by rw [h2]; exact post_d R (.bl _) q⟩
  | none =>
    simp only [e] at q
    split at q
    · rename_i b hb
      split at hb
      · rename_i hc
        cases hb
        exact .inr ⟨dx, dy, ox.dp hc.1, oy.dp hc.2.1, hc.2.2.1, hc.2.2.2, post_d R (.bl _) q⟩
      · cases hb
    · exact q.elim
/-! ### order -/
def rLtA : R2 := fun x y H Q => rI0 (fun i j => .bl (decide (i < j))) x y H Q ∨ ∃ i j, x = .str i ∧ y = .str j ∧ Q (.bl (decide (i.cps.toList < j.cps.toList))) H
theorem op_ltA : OpR X (compareOp .Lt) rLtA := op_lt.or op_lt_str
def dLt : D → D → M SV
  | .int i, .int j => mpure (.d (.bool (decide (i < j))))
  | .str i, .str j => mpure (.d (.bool (decide (i.cps.toList < j.cps.toList))))
  | _, _ => mstuck
theorem fit_lt : Fits2 G rLtA dLt := by
  intro σ H L en x y dx dy Q R ox oy q
  unfold dLt at q
  split at q
  · exact .inl ⟨_, _, ox.int, oy.int, post_d R (.bl _) q⟩
  · exact .inr ⟨_, _, ox.str, oy.str, post_d R (.bl _) q⟩
  · exact q.elim
def rGtA : R2 := fun x y H Q => rI0 (fun i j => .bl (decide (j < i))) x y H Q ∨ ∃ i j, x = .str i ∧ y = .str j ∧ Q (.bl (decide (j.cps.toList < i.cps.toList))) H
theorem op_gtA : OpR X (compareOp .Gt) rGtA := op_gt.or op_gt_str
def dGt : D → D → M SV
  | .int i, .int j => mpure (.d (.bool (decide (j < i))))
  | .str i, .str j => mpure (.d (.bool (decide (j.cps.toList < i.cps.toList))))
  | _, _ => mstuck
theorem fit_gt : Fits2 G rGtA dGt := by
  intro σ H L en x y dx dy Q R ox oy q
  unfold dGt at q
  split at q
  · exact .inl ⟨_, _, ox.int, oy.int, post_d R (.bl _) q⟩
  · exact .inr ⟨_, _, ox.str, oy.str, post_d R (.bl _) q⟩
  · exact q.elim
def rLeA : R2 := fun x y H Q => rI0 (fun i j => .bl (decide (i ≤ j))) x y H Q ∨ ∃ i j, x = .str i ∧ y = .str j ∧ Q (.bl (!decide (j.cps.toList < i.cps.toList))) H
theorem op_leA : OpR X (compareOp .LtE) rLeA := op_le.or op_le_str
def dLe : D → D → M SV
  | .int i, .int j => mpure (.d (.bool (decide (i ≤ j))))
  | .str i, .str j => mpure (.d (.bool (!decide (j.cps.toList < i.cps.toList))))
  | _, _ => mstuck
theorem fit_le : Fits2 G rLeA dLe := by
  intro σ H L en x y dx dy Q R ox oy q
  unfold dLe at q
  split at q
  · exact .inl ⟨_, _, ox.int, oy.int, post_d R (.bl _) q⟩
  · exact .inr ⟨_, _, ox.str, oy.str, post_d R (.bl _) q⟩
  · exact q.elim
def rGeA : R2 := fun x y H Q => rI0 (fun i j => .bl (decide (j ≤ i))) x y H Q ∨ ∃ i j, x = .str i ∧ y = .str j ∧ Q (.bl (!decide (i.cps.toList < j.cps.toList))) H
theorem op_geA : OpR X (compareOp .GtE) rGeA := op_ge.or op_ge_str
def dGe : D → D → M SV
  | .int i, .int j => mpure (.d (.bool (decide (j ≤ i))))
  | .str i, .str j => mpure (.d (.bool (!decide (i.cps.toList < j.cps.toList))))
  | _, _ => mstuck
theorem fit_ge : Fits2 G rGeA dGe := by
  intro σ H L en x y dx dy Q R ox oy q
  unfold dGe at q
  split at q
  · exact .inl ⟨_, _, ox.int, oy.int, post_d R (.bl _) q⟩
  · exact .inr ⟨_, _, ox.str, oy.str, post_d R (.bl _) q⟩
  · exact q.elim
/-! ### is -/
def rIsA : R2 := fun x y H Q => rIsN x y H Q ∨ rIsB x y H Q
theorem op_isA : OpR X (compareOp .Is) rIsA := op_isN1.or op_isBl
def rNisA : R2 := fun x y H Q => rNotN x y H Q ∨ rNotB x y H Q
theorem op_nisA : OpR X (compareOp .IsNot) rNisA := op_notN1.or op_notBl
def isNone : D → Bool
  | .none => true
  | _ => false
def dIs : D → D → M SV
  | x, .none => mpure (.d (.bool (isNone x)))
  | .bool a, .bool b => mpure (.d (.bool (decide (a = b))))
  | _, _ => mstuck
def dNis : D → D → M SV
  | x, .none => mpure (.d (.bool (!isNone x)))
  | .bool a, .bool b => mpure (.d (.bool (!decide (a = b))))
  | _, _ => mstuck
theorem isNoneD_of {K : Kf} {H : Hp} {L : List Addr} {x : V} {dx : D} (ox : Opd K H L x dx) : decide (x = .non) = isNone dx := by
  cases dx with
  | none => rw [ox.none]; rfl
  | bool b => rw [ox.bool]; rfl
  | int b => rw [ox.int]; rfl
  | str b => rw [ox.str]; rfl
  | list ds => obtain ⟨a, _, rfl, _⟩ := ox.list; rfl
  | tuple ds => obtain ⟨a, _, rfl, _⟩ := ox.tuple; rfl
  | dict kvs =>
    rcases ox with h | ⟨a, xs, es, rfl, e, h, q⟩ | ⟨a, _, _, rfl, e, _⟩
    · cases h <;> rfl
    · rfl
    · rfl
theorem fit_is : Fits2 G rIsA dIs := by
  intro σ H L en x y dx dy Q R ox oy q
  unfold dIs at q
  split at q
  · exact .inl ⟨oy.none, by rw [isNoneD_of ox]; exact post_d R (.bl _) q⟩
  · exact .inr ⟨_, _, ox.bool, oy.bool, post_d R (.bl _) q⟩
  · exact q.elim
theorem fit_nis : Fits2 G rNisA dNis := by
  intro σ H L en x y dx dy Q R ox oy q
  unfold dNis at q
  split at q
  · exact .inl ⟨oy.none, by rw [isNoneD_of ox]; exact post_d R (.bl _) q⟩
  · exact .inr ⟨_, _, ox.bool, oy.bool, post_d R (.bl _) q⟩
  · exact q.elim
/-! ### in -/
def isFlat : D → Bool
  | .none => true
  | .bool _ => true
  | .int _ => true
  | .str _ => true
  | _ => false
def inD (x y : D) : Option Bool := match x, y with
  | .str s, .str z => match s.cps.toList with
    | [c] => some (decide (c ∈ z.cps.toList))
    | _ => none
  | x, .list ds => if isFlat x = true ∧ ds.all isFlat = true then some (ds.any fun d => PyData.eqv d x) else
      if plain x = true ∧ plains ds = true ∧ SeqAt.shaped x = true ∧ SeqAt.shaped (.list ds) = true then some (ds.any fun d => PyData.eqv d x) else none
  | x, .tuple ds => if isFlat x = true ∧ ds.all isFlat = true then some (ds.any fun d => PyData.eqv d x) else none
  | _, _ => none
def dIn (x y : D) : M SV := bvD (inD x y)
def dNin (x y : D) : M SV := bvD ((inD x y).map (!·))
def rInA (K : Kf) : R2 := fun x y H Q => rInS x y H Q ∨ rIn K false x y H Q ∨ rInD K x y H Q
def rNinA (K : Kf) : R2 := fun x y H Q => rNotInS x y H Q ∨ rIn K true x y H Q ∨ rNotInD K x y H Q
theorem op_inA (hu : X.A.units + 65 < cLine) : OpR X (compareOp .In) (rInA X.K) := op_inS.or (op_in_seq.or (op_inD hu))
theorem op_ninA (hu : X.A.units + 65 < cLine) : OpR X (compareOp .NotIn) (rNinA X.K) := op_notInS.or (op_notIn_seq.or (op_notInD hu))
theorem flat_v {K : Kf} {H : Hp} {v : V} {d : D} (h : Dq K H v d) (f : isFlat d = true) : flatV v = true := by
  cases h <;> first | rfl | cases f
theorem flats_v {K : Kf} {H : Hp} : ∀ {vs : List V} {ds : List D}, DqAll K H vs ds → ds.all isFlat = true → vs.all flatV = true
  | _, _, .nil, _ => rfl
  | _, _, .cons h t, f => by
    simp only [List.all_cons, Bool.and_eq_true] at f ⊢
    exact ⟨flat_v h f.1, flats_v t f.2⟩
theorem eqV_eqv {K : Kf} {H : Hp} {v w : V} {d e : D} (h : Dq K H v d) (g : Dq K H w e) (f : isFlat d = true) (f2 : isFlat e = true) : eqV v w = PyData.eqv d e := by
  cases h <;> first
    | (cases f; done)
    | (cases g <;> first
        | (cases f2; done)
        | (simp only [eqV, PyData.eqv]; done)
        | (simp only [eqV, PyData.eqv]; rfl))
theorem inV_inD {K : Kf} {H : Hp} {v : V} {d : D} (h : Dq K H v d) (f : isFlat d = true) : ∀ {vs : List V} {ds : List D}, DqAll K H vs ds → ds.all isFlat = true → inV v vs = ds.any fun z => PyData.eqv z d
  | _, _, .nil, _ => rfl
  | _, _, .cons g t, f2 => by
    simp only [List.all_cons, Bool.and_eq_true] at f2
    have ih := inV_inD h f t f2.2
    unfold inV at ih ⊢
    rw [List.any_cons, List.any_cons, ih, eqV_eqv g h f2.1 f]
theorem Opd.flat {K : Kf} {H : Hp} {L : List Addr} {x : V} {d : D} (h : Opd K H L x d) (f : isFlat d = true) : Dq K (hid H L) x d := by
  rcases h with h | ⟨a, xs, es, rfl, rfl, h, q⟩ | ⟨a, _, _, _, rfl, _⟩
  · exact h
  · cases f
  · cases f
theorem in_rule {K : Kf} {H : Hp} {L : List Addr} {x y : V} {dx dy : D} {b : Bool} {neg : Bool} {Q : VK} (ox : Opd K H L x dx) (oy : Opd K H L y dy) (e : inD dx dy = some b) (q : Q (.bl (if neg then !b else b)) H) :
    (∃ (c : Nat) (z : Str), x = .str ⟨#[c]⟩ ∧ y = .str z ∧ b = decide (c ∈ z.cps.toList)) ∨ rIn K neg x y H Q ∨ ∃ d ds, Dp K H x d ∧ Dp K H y (.list ds) ∧ SeqAt.shaped d = true ∧ SeqAt.shaped (.list ds) = true ∧ b = ds.any fun z => PyData.eqv z d := by
  unfold inD at e
  split at e
  · split at e
    · rename_i s z l c hs
      cases e
      refine .inl ⟨c, z, ?_, oy.str, rfl⟩
      rw [ox.str]
      congr 1
      cases s with
      | mk a =>
        congr 1
        exact Array.ext' hs
    · cases e
  · rename_i ds
    split at e
    · rename_i h
      cases e
      obtain ⟨a, xs, rfl, h1, h2⟩ := oy.list
      have fx := ox.flat h.1
      refine .inr (.inl ⟨a, xs, rfl, .inl (.of h1), flat_v fx h.1, flats_v h2 h.2, ?_⟩)
      rw [inV_inD fx h.1 h2 h.2]
      exact q
    · split at e
      · rename_i h
        cases e
        exact .inr (.inr ⟨_, _, ox.dp h.1, oy.dp (by simpa [plain] using h.2.1), h.2.2.1, h.2.2.2, rfl⟩)
      · cases e
  · rename_i ds
    split at e
    · rename_i h
      cases e
      obtain ⟨a, xs, rfl, h1, h2⟩ := oy.tuple
      have fx := ox.flat h.1
      refine .inr (.inl ⟨a, xs, rfl, .inr h1, flat_v fx h.1, flats_v h2 h.2, ?_⟩)
      rw [inV_inD fx h.1 h2 h.2]
      exact q
    · cases e
  · cases e
theorem fit_in : Fits2 G (rInA G.K) dIn := by
  intro σ H L en x y dx dy Q R ox oy q
  unfold dIn bvD at q
  cases e : inD dx dy with
  | none => rw [e] at q; exact q.elim
  | some b =>
    rw [e] at q
    have q' : Q (.bl b) H := post_d R (.bl _) q
    rcases in_rule (neg := false) ox oy e q' with ⟨c, z, e1, e2, e3⟩ | h | ⟨d, ds, h1, h2, h3, h4, h5⟩
    · exact .inl ⟨c, z, e1, e2, by rw [← e3]; exact q'⟩
    · exact .inr (.inl h)
    · exact .inr (.inr ⟨d, ds, h1, h2, h3, h4, by rw [← h5]; exact q'⟩)
theorem fit_nin : Fits2 G (rNinA G.K) dNin := by
  intro σ H L en x y dx dy Q R ox oy q
  unfold dNin bvD at q
  cases e : inD dx dy with
  | none => rw [e] at q; exact q.elim
  | some b =>
    rw [e] at q
    have q' : Q (.bl (!b)) H := post_d R (.bl _) q
    rcases in_rule (neg := true) ox oy e q' with ⟨c, z, e1, e2, e3⟩ | h | ⟨d, ds, h1, h2, h3, h4, h5⟩
    · exact .inl ⟨c, z, e1, e2, by rw [← e3]; exact q'⟩
    · exact .inr (.inl h)
    · exact .inr (.inr ⟨d, ds, h1, h2, h3, h4, by rw [← h5]; exact q'⟩)
end
end L2

namespace L2
open PySem PySem.Spec PyProof.Rows
section
variable {X : Cx} {G : Gs}
/-! ### an item -/
def rIxDct : R2 := fun x y H Q => ∃ a v, x = .ref a ∧ DGet H a y (some v) ∧ Q v H
theorem ix_dict (hu : X.A.units + 1 < cLine) : IxR X rIxDct := by
  intro value slice pins s σ H x y v u Q I rx ry h hs
  obtain ⟨a, z, rfl, g, q⟩ := h
  obtain rfl := rx
  exact tail_any (dict_typeIs I g) PySem.F.slot_dict_getitem.lookup (d_getItem hu I g ry fun w' s' I' r' => ⟨z, H, I', r', q⟩) hs
def rIxA (K : Kf) : R2 := fun x y H Q => rIx K x y H Q ∨ rIxDct x y H Q
theorem ix_A (hu : X.A.units + 1 < cLine) : IxR X (rIxA X.K) := ix_seq.or (ix_dict hu)
def keyD : D → Option Key
  | .int i => some (.inl i)
  | .str s => some (.inr s)
  | _ => none
def lookD (k : D) : List (D × D) → Option D
  | [] => none
  | (a, b) :: r => if keyD a = keyD k then some b else lookD k r
def ixD : D → D → Option D
  | .list ds, .int i => atI ds i
  | .tuple ds, .int i => atI ds i
  | .str z, .int i => if z.length ≤ sizeLine then (atI z.cps.toList i).map fun c => .str ⟨#[c]⟩ else none
  | .dict [(.none, .list ds)], .int i => atI ds i
  | .dict kds, k => if (keyD k).isSome then lookD k kds else none
  | _, _ => none
def dIx (x y : D) : M SV := ivD (ixD x y)
theorem atI_dq {K : Kf} {H : Hp} {xs : List V} {ds : List D} {i : Int} {d : D} (h : DqAll K H xs ds) (e : atI ds i = some d) : ∃ v, atI xs i = some v ∧ Dq K H v d := by
  unfold atI at e ⊢
  rw [h.length]
  cases q : ixN ds.length i with
  | none => rw [q] at e; cases e
  | some j =>
    rw [q] at e
    exact h.get e
theorem atI_ints {ns : List Int} {i : Int} {d : D} (e : atI (ns.map PyData.int) i = some d) : ∃ n, d = .int n ∧ atI (ns.map V.int) i = some (.int n) := by
  unfold atI at e ⊢
  rw [List.length_map] at e ⊢
  cases q : ixN ns.length i with
  | none => rw [q] at e; cases e
  | some j =>
    rw [q] at e
    simp only [Option.bind_some, List.getElem?_map] at e ⊢
    cases z : ns[j]? with
    | none => rw [z] at e; cases e
    | some n => rw [z] at e; cases e; exact ⟨n, rfl, rfl⟩
theorem valV_look {K : Kf} {H : Hp} {k : Key} {d : D} : ∀ {kvs : List (Key × V)} {kds : List (Key × D)}, KD K H kvs kds → lookD (kD k) (kds.map fun p => (kD p.1, p.2)) = some d → ∃ v, valV kvs k = some v ∧ Dq K H v d
  | _, _, .nil, e => by simp [lookD] at e
  | p :: _, q :: _, .cons ⟨h1, h2⟩ t, e => by
    simp only [List.map_cons, lookD] at e
    have kk : ∀ a : Key, keyD (kD a) = some a := fun a => by cases a <;> rfl
    rw [kk, kk] at e
    by_cases h : q.1 = k
    · rw [if_pos (by rw [h])] at e
      cases e
      exact ⟨p.2, valV_pos (h1.trans h), h2⟩
    · rw [if_neg (fun z => h (Option.some.inj z))] at e
      obtain ⟨v, e1, e2⟩ := valV_look t e
      exact ⟨v, by rw [valV_neg (fun z => h (h1.symm.trans z))]; exact e1, e2⟩
theorem Opd.list' {K : Kf} {H : Hp} {L : List Addr} {x : V} {ds : List D} (h : Opd K H L x (.list ds)) : ∃ a xs, x = .ref a ∧ SqL K H a xs ∧ DqAll K (hid H L) xs ds := by
  obtain ⟨a, xs, e, h1, h2⟩ := h.list
  exact ⟨a, xs, e, .of h1, h2⟩
/-- a dict that is at hand -/
theorem Opd.dct {K : Kf} {H : Hp} {L : List Addr} {x : V} {kds : List (D × D)} (h : Opd K H L x (.dict kds)) : (∃ (a : Addr) (ns : List Int), x = .ref a ∧ kds = [(.none, .list (ns.map .int))] ∧ SqL K H a (ns.map V.int)) ∨
    ∃ a kvs ks, x = .ref a ∧ kds = (ks.map fun p : Key × D => (kD p.1, p.2)) ∧ H a = some (.dK kvs) ∧ KD K (hid H L) kvs ks := by
  rcases h with h | ⟨a, xs, es, rfl, e, h, q⟩ | ⟨a, kvs, ks, rfl, e, h, q⟩
  · cases h with
    | scr hs => exact .inl ⟨_, _, rfl, rfl, hid_same.seq hs⟩
    | dct ho hk => exact .inr ⟨_, _, _, rfl, rfl, hid_same _ _ ho, KA.kd hk⟩
  · exact nomatch e
  · unfold dctD at e
    injection e with e
    exact .inr ⟨a, kvs, ks, rfl, e, h, q⟩
theorem key_of_D {K : Kf} {H : Hp} {L : List Addr} {y : V} {dy : D} {k : Key} (oy : Opd K H L y dy) (e : keyD dy = some k) : y = kV k ∧ dy = kD k := by
  cases dy with
  | int i => cases e; exact ⟨oy.int, rfl⟩
  | str s => cases e; exact ⟨oy.str, rfl⟩
  | _ => cases e
theorem fit_ix : Fits2 G (rIxA G.K) dIx := by
  intro σ H L en x y dx dy Q R ox oy q
  unfold dIx ivD at q
  cases e : ixD dx dy with
  | none => rw [e] at q; exact q.elim
  | some d =>
    rw [e] at q
    unfold ixD at e
    split at e
    · obtain ⟨a, xs, rfl, h1, h2⟩ := ox.list'
      obtain ⟨v, e1, hv⟩ := atI_dq h2 e
      exact .inl (.inl ⟨a, xs, _, v, rfl, oy.int, h1, e1, post_d R hv q⟩)
    · obtain ⟨a, xs, rfl, h1, h2⟩ := ox.tuple
      obtain ⟨v, e1, hv⟩ := atI_dq h2 e
      exact .inl (.inr (.inl ⟨a, xs, _, v, rfl, oy.int, h1, e1, post_d R hv q⟩))
    · split at e
      · rename_i z i hz
        cases e1 : atI z.cps.toList i with
        | none => rw [e1] at e; cases e
        | some c =>
          rw [e1] at e
          cases e
          exact .inl (.inr (.inr ⟨z, i, c, ox.str, oy.int, hz, e1, post_d R (.str _) q⟩))
      · cases e
    · rcases ox.dct with ⟨a, ns, rfl, e2, hs⟩ | ⟨a, kvs, ks, rfl, e2, ho, hk⟩
      · injection e2 with e2 _
        injection e2 with _ e2
        injection e2 with e2
        subst e2
        obtain ⟨n, rfl, e1⟩ := atI_ints e
        exact .inl (.inl ⟨a, _, _, _, rfl, oy.int, hs, e1, post_d R (.int n) q⟩)
      · cases ks with
        | nil => cases e2
        | cons p r =>
          injection e2 with e2 _
          injection e2 with e2 _
          cases h1 : p.1 <;> (rw [h1] at e2; exact nomatch e2)
    · rename_i kds hne
      split at e
      · rename_i hk
        obtain ⟨k, ek⟩ := Option.isSome_iff_exists.mp hk
        obtain ⟨ey, ed⟩ := key_of_D oy ek
        rcases ox.dct with ⟨a, ns, rfl, e2, hs⟩ | ⟨a, kvs, ks, rfl, e2, ho, hkd⟩
        · subst e2
          rw [ed] at e
          cases k <;> simp [lookD, keyD, kD] at e
        · subst e2
          rw [ed] at e
          obtain ⟨v, e1, hv⟩ := valV_look hkd e
          refine .inr ⟨a, v, rfl, ?_, post_d R hv q⟩
          rw [ey, ← e1]
          exact DGet.k ho
      · cases e
    · cases e
theorem je_item {a b : Expr} {ma mb : M SV} {pos : Pos} (hK : X.K = G.K) (hu : X.A.units + 1 < cLine) (ha : PE X a (tE G ma)) (hb : PE X b (tE G mb)) (hs : PlainIx b := by exact fun _ _ => rfl) : PE X (.Subscript a b pos) (tE G (mOp2 dIx ma mb)) :=
  je_ix (ix_A hu) (hK ▸ fit_ix) ha hb hs

/-! ### slices -/
def mSl (f : D → Option Int → Option Int → M SV) (ma : M SV) (lo hi : Option (M SV)) : M SV := mbind (mfrz ma) fun a =>
  match lo with
  | none => (match hi with
    | none => fun en => match look en a with
      | some x => f x none none en
      | none => .stuck
    | some mh => mbind (mfrz mh) fun h en => match look en a, look en h with
      | some x, some (.int j) => f x none (some j) en
      | _, _ => .stuck)
  | some ml => mbind (mfrz ml) fun l => match hi with
    | none => fun en => match look en a, look en l with
      | some x, some (.int i) => f x (some i) none en
      | _, _ => .stuck
    | some mh => mbind (mfrz mh) fun h en => match look en a, look en l, look en h with
      | some x, some (.int i), some (.int j) => f x (some i) (some j) en
      | _, _, _ => .stuck

/-! ### calls of what is built in -/
def mCallD (f : List D → M SV) (mas : M (List SV)) : M SV := mbind mas fun svs en => match looks en svs with
  | some ds => f ds en
  | none => .stuck
def FitsC (G : Gs) (r : List V → Hp → VK → Prop) (f : List D → M SV) : Prop := ∀ σ H L en vs ds Q, RelS G L σ H en → OpdAll G.K H L vs ds → PostE G σ H L (f ds en) Q → r vs H Q
theorem callD_imp {r : List V → Hp → VK → Prop} {f : List D → M SV} {mas : M (List SV)} (F : FitsC G r f) (σ : St) (H : Hp) (Q : VK) (h : tE G (mCallD f mas) σ H Q) : tCB r (tA G mas) σ H Q := by
  obtain ⟨en, L, R, q⟩ := h
  refine (seqAE R q).mono fun vs H1 ⟨en1, L1, svs, R1, s1, r1, q1⟩ => ?_
  cases e : looks en1 svs with
  | none => simp only [e] at q1; exact q1.elim
  | some ds =>
    simp only [e] at q1
    exact F σ H1 L1 en1 vs ds Q R1 (RVs.opd R1 (Same.refl _) r1 e) q1
theorem je_callB {id : String} {r : List V → Hp → VK → Prop} {f : List D → M SV} {mas : M (List SV)} {x : Str} {p pos : Pos} {e : Expr} {es : List Expr} (hc : CallR X (.builtin id) r) (F : FitsC G r f) (hg : Gl X x) (hm : X.mg x = none) (hv : bootBuiltins x = some (.builtin id)) (ha : PA X (e :: es) (tA G mas)) (hn : x ≠ "__name__" := by decide) (hdb : (x == ("__debug__" : Str)) = false := by decide)
    (he : starEach (e :: es) X.env = (false, eval e X.env) :: starEach es X.env := by rfl) (hpl : (backTo pos (starEach es X.env)).any (·.1) = false := by rfl) : PE X (.Call (.Name x p) (e :: es) [] pos) (tE G (mCallD f mas)) :=
  (pe_callB hc hg hm hv ha hn hdb he hpl).imp (callD_imp F)
theorem je_callTy {T : String} {r : List V → Hp → VK → Prop} {f : List D → M SV} {mas : M (List SV)} {x : Str} {p pos : Pos} {e : Expr} {es : List Expr} (hc : CallR X (.type T) r) (F : FitsC G r f) (hg : Gl X x) (hm : X.mg x = none) (hv : bootBuiltins x = some (.type T)) (ha : PA X (e :: es) (tA G mas)) (hn : x ≠ "__name__" := by decide) (hdb : (x == ("__debug__" : Str)) = false := by decide)
    (he : starEach (e :: es) X.env = (false, eval e X.env) :: starEach es X.env := by rfl) (hpl : (backTo pos (starEach es X.env)).any (·.1) = false := by rfl) : PE X (.Call (.Name x p) (e :: es) [] pos) (tE G (mCallD f mas)) :=
  (pe_callTy hc hg hm hv ha hn hdb he hpl).imp (callD_imp F)
/-- one argument -/
def d1 (f : D → M SV) : List D → M SV
  | [x] => f x
  | _ => mstuck
theorem fit1 {r : List V → Hp → VK → Prop} {f : D → M SV} (k : ∀ σ H L en x d Q, RelS G L σ H en → Opd G.K H L x d → PostE G σ H L (f d en) Q → r [x] H Q) : FitsC G r (d1 f) := by
  intro σ H L en vs ds Q R o q
  unfold d1 at q
  split at q
  · cases o with
    | cons h t => cases t; exact k σ H L en _ _ Q R h q
  · exact q.elim
/-- len -/
def lenD : D → Option Int
  | .str z => if z.length ≤ sizeLine then some z.length else none
  | .list ds => some ds.length
  | .tuple ds => some ds.length
  | .dict [(.none, .list ds)] => some ds.length
  | .dict kds => some kds.length
  | _ => none
def dLen (x : D) : M SV := ivD ((lenD x).map .int)
def rLenA (K : Kf) : List V → Hp → VK → Prop := fun xs H Q => (∃ x n, xs = [x] ∧ LenV K x H n ∧ Q (.int n) H) ∨ ∃ a kvs, xs = [V.ref a] ∧ H a = some (.dK kvs) ∧ Q (.int kvs.length) H
theorem call_lenA : CallR X (.builtin "len") (rLenA X.K) := call_len.or call_lenD
theorem fit_len : FitsC G (rLenA G.K) (d1 dLen) := fit1 fun σ H L en x d Q R o q => by
  unfold dLen ivD at q
  cases e : lenD d with
  | none => rw [e] at q; exact q.elim
  | some n =>
    rw [e] at q
    have q' : Q (.int n) H := post_d (d := .int n) R (.int _) q
    unfold lenD at e
    split at e
    · split at e
      · rename_i h
        cases e
        exact .inl ⟨x, _, rfl, by rw [o.str]; exact ⟨h, rfl⟩, q'⟩
      · cases e
    · cases e
      obtain ⟨a, xs, rfl, h1, h2⟩ := o.list'
      exact .inl ⟨_, xs.length, rfl, .inl ⟨xs, h1, rfl⟩, by rw [h2.length]; exact q'⟩
    · cases e
      obtain ⟨a, xs, rfl, h1, h2⟩ := o.tuple
      exact .inl ⟨_, xs.length, rfl, .inr ⟨xs, h1, rfl⟩, by rw [h2.length]; exact q'⟩
    · cases e
      rcases o.dct with ⟨a, ns, rfl, e2, hs⟩ | ⟨a, kvs, ks, rfl, e2, ho, hk⟩
      · injection e2 with e2 _
        injection e2 with _ e2
        injection e2 with e2
        subst e2
        exact .inl ⟨_, (ns.map V.int).length, rfl, .inl ⟨_, hs, rfl⟩, by rw [List.length_map] at q' ⊢; exact q'⟩
      · cases ks with
        | nil => cases e2
        | cons p r =>
          injection e2 with e2 _
          injection e2 with e2 _
          cases h1 : p.1 <;> (rw [h1] at e2; exact nomatch e2)
    · rename_i kds hne
      cases e
      rcases o.dct with ⟨a, ns, rfl, e2, hs⟩ | ⟨a, kvs, ks, rfl, e2, ho, hk⟩
      · exact (hne _ (by rw [e2])).elim
      · subst e2
        rw [List.length_map] at q'
        have hl : kvs.length = ks.length := Paired.length hk
        exact .inr ⟨a, kvs, rfl, ho, by rw [hl]; exact q'⟩
    · cases e
/-- int of an int, a bool -/
def dInt : D → M SV
  | .int i => mpure (.d (.int i))
  | .bool b => mpure (.d (.int (if b then 1 else 0)))
  | _ => mstuck
theorem fit_int : FitsC G (fun xs H Q => (∃ i, xs = [.int i] ∧ Q (.int i) H) ∨ ∃ k, xs = [.bl k] ∧ Q (.int (if k then 1 else 0)) H) (d1 dInt) := fit1 fun σ H L en x d Q R o q => by
  unfold dInt at q
  split at q
  · exact .inl ⟨_, by rw [o.int], post_d R (.int _) q⟩
  · exact .inr ⟨_, by rw [o.bool], post_d R (.int _) q⟩
  · exact q.elim
/-- two ints -/
def d2I (g : Int → Int → D) : List D → M SV
  | [.int i, .int j] => mpure (.d (g i j))
  | _ => mstuck
theorem fit2I {h : Int → Int → Int} : FitsC G (fun xs H Q => ∃ i j, xs = [.int i, .int j] ∧ Q (.int (h i j)) H) (d2I fun i j => .int (h i j)) := by
  intro σ H L en vs ds Q R o q
  unfold d2I at q
  split at q
  · cases o with
    | cons h1 t =>
      cases t with
      | cons h2 t =>
        cases t
        exact ⟨_, _, by rw [h1.int, h2.int], post_d R (.int _) q⟩
  · exact q.elim
abbrev dMax2 : List D → M SV := d2I fun i j => .int (if j > i then j else i)
abbrev dMin2 : List D → M SV := d2I fun i j => .int (if j < i then j else i)
theorem fit_max2 : FitsC G (fun xs H Q => ∃ i j, xs = [.int i, .int j] ∧ Q (.int (if j > i then j else i)) H) dMax2 := fit2I
theorem fit_min2 : FitsC G (fun xs H Q => ∃ i j, xs = [.int i, .int j] ∧ Q (.int (if j < i then j else i)) H) dMin2 := fit2I
/-- list(..), tuple(..) of a list, a tuple -/
def dList : D → M SV
  | .list ds => mpure (.own (.lst ds))
  | .tuple ds => mpure (.own (.lst ds))
  | _ => mstuck
theorem fit_list : FitsC G (fun xs H Q => ∃ p ys, xs = [.ref p] ∧ (SqL G.K H p ys ∨ SqT G.K H p ys) ∧ ∀ l, H l = none → Q (.ref l) (upd H l (.lst ys))) (d1 dList) := fit1 fun σ H L en x d Q R o q => by
  unfold dList at q
  split at q
  · obtain ⟨a, xs, rfl, h1, h2⟩ := o.list'
    exact ⟨a, xs, rfl, .inl h1, fun l n => post_lst R n h2 q⟩
  · obtain ⟨a, xs, rfl, h1, h2⟩ := o.tuple
    exact ⟨a, xs, rfl, .inr h1, fun l n => post_lst R n h2 q⟩
  · exact q.elim
def dTuple : D → M SV
  | .list ds => mpure (.d (.tuple ds))
  | .tuple ds => mpure (.d (.tuple ds))
  | _ => mstuck
theorem fit_tuple : FitsC G (fun xs H Q => ∃ p ys, xs = [.ref p] ∧ ((SqL G.K H p ys ∧ ∀ l, H l = none → Q (.ref l) (upd H l (.tup ys))) ∨ (SqT G.K H p ys ∧ Q (.ref p) H))) (d1 dTuple) := fit1 fun σ H L en x d Q R o q => by
  unfold dTuple at q
  split at q
  · obtain ⟨a, xs, rfl, h1, h2⟩ := o.list'
    exact ⟨a, xs, rfl, .inl ⟨h1, fun l n => post_tup R n h2 q⟩⟩
  · obtain ⟨a, xs, rfl, h1, h2⟩ := o.tupleD
    exact ⟨a, xs, rfl, .inr ⟨sqT_mono hid_same h1, post_d R (.tup h1 h2) q⟩⟩
  · exact q.elim
/-- all, any of a list of bools -/
def bools : List D → Option (List Bool)
  | [] => some []
  | .bool b :: r => (bools r).map (b :: ·)
  | _ => none
theorem bools_v {K : Kf} {H : Hp} : ∀ {ds : List D} {vs : List V} {bs : List Bool}, DqAll K H vs ds → bools ds = some bs → vs = bs.map V.bl
  | [], _, _, .nil, e => by cases e; rfl
  | .bool b :: r, _, _, .cons h t, e => by
    simp only [bools] at e
    cases q : bools r with
    | none => rw [q] at e; cases e
    | some cs =>
      rw [q] at e
      cases e
      cases h
      rw [bools_v t q]
      rfl
  | .none :: _, _, _, _, e => nomatch e
  | .int _ :: _, _, _, _, e => nomatch e
  | .str _ :: _, _, _, _, e => nomatch e
  | .list _ :: _, _, _, _, e => nomatch e
  | .tuple _ :: _, _, _, _, e => nomatch e
  | .dict _ :: _, _, _, _, e => nomatch e
def dAll : D → M SV
  | .list ds => bvD ((bools ds).map fun bs => bs.all id)
  | _ => mstuck
def dAny : D → M SV
  | .list ds => bvD ((bools ds).map fun bs => bs.any id)
  | _ => mstuck
theorem fit_all : FitsC G (rAll G.K) (d1 dAll) := fit1 fun σ H L en x d Q R o q => by
  unfold dAll at q
  split at q
  · rename_i ds
    obtain ⟨a, xs, rfl, h1, h2⟩ := o.list'
    cases e : bools ds with
    | none => rw [e] at q; exact q.elim
    | some bs =>
      rw [e] at q
      have z := bools_v h2 e
      subst z
      exact ⟨a, bs, rfl, h1, post_d (d := .bool (bs.all id)) R (.bl _) q⟩
  · exact q.elim
theorem fit_any : FitsC G (rAny G.K) (d1 dAny) := fit1 fun σ H L en x d Q R o q => by
  unfold dAny at q
  split at q
  · rename_i ds
    obtain ⟨a, xs, rfl, h1, h2⟩ := o.list'
    cases e : bools ds with
    | none => rw [e] at q; exact q.elim
    | some bs =>
      rw [e] at q
      have z := bools_v h2 e
      subst z
      exact ⟨a, bs, rfl, h1, post_d (d := .bool (bs.any id)) R (.bl _) q⟩
  · exact q.elim
/-! ### isinstance of a built-in type -/
inductive TyN where
  | tInt | tBool | tStr | tTuple | tList
def TyN.name : TyN → String
  | .tInt => "int"
  | .tBool => "bool"
  | .tStr => "str"
  | .tTuple => "tuple"
  | .tList => "list"
def tyOf : D → Option String
  | .none => some "NoneType"
  | .bool _ => some "bool"
  | .int _ => some "int"
  | .str _ => some "str"
  | .list _ => some "list"
  | .tuple _ => some "tuple"
  | .dict _ => none
def isiD : TyN → D → Option Bool
  | _, .dict _ => none
  | .tInt, .int _ => some true
  | .tInt, .bool _ => some true
  | .tBool, .bool _ => some true
  | .tStr, .str _ => some true
  | .tTuple, .tuple _ => some true
  | .tList, .list _ => some true
  | _, _ => some false
theorem tyX_of {K : Kf} {H : Hp} {L : List Addr} {x : V} {d : D} {n : String} (o : Opd K H L x d) (e : tyOf d = some n) : TyX K H x (.type n) := by
  cases d with
  | none => cases e; rw [o.none]; exact .base .non
  | bool b => cases e; rw [o.bool]; exact .base (.bl b)
  | int i => cases e; rw [o.int]; exact .base (.int i)
  | str s => cases e; rw [o.str]; exact .base (.str s)
  | list ds =>
    cases e
    obtain ⟨a, xs, rfl, h1, _⟩ := o.list
    exact .base (.lst h1)
  | tuple ds =>
    cases e
    obtain ⟨a, xs, rfl, h1, _⟩ := o.tuple
    rcases h1 with (h | ⟨ob, h⟩) | ⟨ob, its, m, h, c, _⟩
    · exact .base (.tup h)
    · exact .fTuple h
    · exact .kTuple h c
  | dict _ => cases e
theorem isi_kit {T : TyN} {d : D} {b : Bool} (e : isiD T d = some b) : ∃ n, tyOf d = some n ∧ kitB n T.name = some b := by
  cases T <;> cases d <;> first
    | (cases e; done)
    | (cases e; exact ⟨_, rfl, by decide +kernel⟩)
def mIsi (T : TyN) (m : M SV) : M SV := mOp1 (fun x => bvD (isiD T x)) m
theorem je_isi (T : TyN) {e : Expr} {m : M SV} {p p2 pos : Pos} (hK : X.K = G.K) (he : PE X e (tE G m)) {x : Str} (hx : x = Str.ofString T.name) (hg : Gl X "isinstance") (hm : X.mg "isinstance" = none) (hg2 : Gl X x) (hm2 : X.mg x = none) (hv2 : bootBuiltins x = some (.type T.name))
    (hn : x ≠ "__name__" := by decide) (hdb : (x == ("__debug__" : Str)) = false := by decide)
    (hs : starEach [e, .Name x p2] X.env = (false, eval e X.env) :: starEach [.Name x p2] X.env := by rfl) (hs2 : starEach [.Name x p2] X.env = (false, eval (.Name x p2) X.env) :: starEach [] X.env := by rfl)
    (hpl : (backTo pos (starEach [.Name x p2] X.env)).any (·.1) = false := by rfl) :
    PE X (.Call (.Name "isinstance" p) [e, .Name x p2] [] pos) (tE G (mIsi T m)) := by
  refine (pe_callB call_isi hg hm (by decide +kernel) (pa_cons (je_frz he) (pa_cons (pe_bltn (v := .ty T.name) hg2 hm2 hv2 rfl hn hdb) pa_nil hs2) hs) (by decide) (by decide) hs hpl).imp fun σ H Q h => ?_
  refine op1_imp (r := fun x H1 Q => rIsi X.K [x, .ty T.name] H1 Q) (fun σ H L en x dx Q R o q => ?_) σ H Q h
  unfold bvD at q
  cases e1 : isiD T dx with
  | none => rw [e1] at q; exact q.elim
  | some b =>
    rw [e1] at q
    obtain ⟨n, h1, h2⟩ := isi_kit e1
    rw [hK]
    exact ⟨x, _, _, _, b, rfl, .ty _, tyX_of o h1, kit_ty h2, post_d R (.bl _) q⟩
end
end L2

namespace L2
open PySem PySem.Spec PyProof.Rows

/-! ### what a slot is given -/
section
variable {G : Gs} {H H' : Hp} {L : List Addr} {σ : St} {en : En} {v : V} {d : D} {i : Nat}
theorem RelS.store_d (R : RelS G L σ H en) (h : Dq G.K (hid H L) v d) : RelS G L (σ.set i (some v)) H (en.set i (some (.d d))) where
  own := R.own
  same := R.same
  len := by rw [List.length_set, List.length_set]; exact R.len
  slot := fun j sv e => by
    by_cases hj : j = i
    · subst hj
      by_cases hl : j < en.length
      · rw [List.getElem?_set_self hl] at e
        cases e
        refine ⟨v, ?_, h⟩
        rw [List.getElem?_set_self (by rw [R.len]; exact hl)]
      · rw [List.getElem?_eq_none (by rw [List.length_set]; omega)] at e
        cases e
    · rw [List.getElem?_set_ne (Ne.symm hj)] at e
      rw [List.getElem?_set_ne (Ne.symm hj)]
      exact R.slot j sv e
  apart := fun j k b c a hjk ej ek sj sk => by
    have key : ∀ (j : Nat) (b : OB), (en.set i (some (.d d)))[j]? = some (some (SV.own b)) → j ≠ i ∧ en[j]? = some (some (SV.own b)) := fun j b q => by
      by_cases hj : j = i
      · subst hj
        by_cases hl : j < en.length
        · rw [List.getElem?_set_self hl] at q
          cases q
        · rw [List.getElem?_eq_none (by rw [List.length_set]; omega)] at q
          cases q
      · rw [List.getElem?_set_ne (Ne.symm hj)] at q
        exact ⟨hj, q⟩
    obtain ⟨n1, e1⟩ := key _ _ ej
    obtain ⟨n2, e2⟩ := key _ _ ek
    rw [List.getElem?_set_ne (Ne.symm n1)] at sj
    rw [List.getElem?_set_ne (Ne.symm n2)] at sk
    exact R.apart j k b c a hjk e1 e2 sj sk
  base := fun b m => by
    obtain ⟨h1, h2, h3⟩ := R.base b m
    refine ⟨h1, h2, fun j c q => ?_⟩
    by_cases hj : j = i
    · subst hj
      by_cases hl : j < en.length
      · rw [List.getElem?_set_self hl] at q
        cases q
      · rw [List.getElem?_eq_none (by rw [List.length_set]; omega)] at q
        cases q
    · rw [List.getElem?_set_ne (Ne.symm hj)] at q
      rw [List.getElem?_set_ne (Ne.symm hj)]
      exact h3 j c q
theorem RelS.store_own {a : Addr} {o : HO} {b : OB} (R : RelS G L σ H en) (m : a ∈ L) (nb : a ∉ G.B) (ho : H a = some o) (h : ObR G.K (hid H L) o b) (n : ∀ (i : Nat) (c : OB), en[i]? = some (some (SV.own c)) → σ[i]? ≠ some (some (V.ref a))) :
    RelS G L (σ.set i (some (.ref a))) H (en.set i (some (.own b))) where
  own := R.own
  same := R.same
  len := by rw [List.length_set, List.length_set]; exact R.len
  slot := fun j sv e => by
    by_cases hj : j = i
    · subst hj
      by_cases hl : j < en.length
      · rw [List.getElem?_set_self hl] at e
        cases e
        refine ⟨a, o, ?_, m, ho, h⟩
        rw [List.getElem?_set_self (by rw [R.len]; exact hl)]
      · rw [List.getElem?_eq_none (by rw [List.length_set]; omega)] at e
        cases e
    · rw [List.getElem?_set_ne (Ne.symm hj)] at e
      rw [List.getElem?_set_ne (Ne.symm hj)]
      exact R.slot j sv e
  apart := fun j k b1 c a1 hjk ej ek sj sk => by
    have key : ∀ (j : Nat) (c : OB), (en.set i (some (.own b)))[j]? = some (some (SV.own c)) → (j = i ∧ j < en.length) ∨ (j ≠ i ∧ en[j]? = some (some (SV.own c))) := fun j c q => by
      by_cases hj : j = i
      · subst hj
        by_cases hl : j < en.length
        · exact .inl ⟨rfl, hl⟩
        · rw [List.getElem?_eq_none (by rw [List.length_set]; omega)] at q
          cases q
      · rw [List.getElem?_set_ne (Ne.symm hj)] at q
        exact .inr ⟨hj, q⟩
    rcases key _ _ ej with ⟨rfl, l1⟩ | ⟨n1, e1⟩
    · rw [List.getElem?_set_self (by rw [R.len]; exact l1)] at sj
      cases sj
      rcases key _ _ ek with ⟨e, _⟩ | ⟨n2, e2⟩
      · exact hjk e.symm
      · rw [List.getElem?_set_ne (Ne.symm n2)] at sk
        exact n k c e2 sk
    · rw [List.getElem?_set_ne (Ne.symm n1)] at sj
      rcases key _ _ ek with ⟨rfl, l2⟩ | ⟨n2, e2⟩
      · rw [List.getElem?_set_self (by rw [R.len]; exact l2)] at sk
        cases sk
        exact n j b1 e1 sj
      · rw [List.getElem?_set_ne (Ne.symm n2)] at sk
        exact R.apart j k b1 c a1 hjk e1 e2 sj sk
  base := fun c m => by
    obtain ⟨h1, h2, h3⟩ := R.base c m
    refine ⟨h1, h2, fun j u q => ?_⟩
    by_cases hj : j = i
    · subst hj
      by_cases hl : j < en.length
      · rw [List.getElem?_set_self (by rw [R.len]; exact hl)]
        exact fun z => nb (by cases z; exact m)
      · rw [List.getElem?_eq_none (by rw [List.length_set]; omega)] at q
        cases q
    · rw [List.getElem?_set_ne (Ne.symm hj)] at q
      rw [List.getElem?_set_ne (Ne.symm hj)]
      exact h3 j u q
/-- nothing is told of a slot any more -/
theorem RelS.forget (R : RelS G L σ H en) {w : Option V} : RelS G L (σ.set i w) H (en.set i none) where
  own := R.own
  same := R.same
  len := by rw [List.length_set, List.length_set]; exact R.len
  slot := fun j sv e => by
    by_cases hj : j = i
    · subst hj
      by_cases hl : j < en.length
      · rw [List.getElem?_set_self hl] at e
        cases e
      · rw [List.getElem?_eq_none (by rw [List.length_set]; omega)] at e
        cases e
    · rw [List.getElem?_set_ne (Ne.symm hj)] at e
      rw [List.getElem?_set_ne (Ne.symm hj)]
      exact R.slot j sv e
  apart := fun j k b c a hjk ej ek sj sk => by
    have key : ∀ (j : Nat) (b : OB), (en.set i none)[j]? = some (some (SV.own b)) → j ≠ i ∧ en[j]? = some (some (SV.own b)) := fun j b q => by
      by_cases hj : j = i
      · subst hj
        by_cases hl : j < en.length
        · rw [List.getElem?_set_self hl] at q
          cases q
        · rw [List.getElem?_eq_none (by rw [List.length_set]; omega)] at q
          cases q
      · rw [List.getElem?_set_ne (Ne.symm hj)] at q
        exact ⟨hj, q⟩
    obtain ⟨n1, e1⟩ := key _ _ ej
    obtain ⟨n2, e2⟩ := key _ _ ek
    rw [List.getElem?_set_ne (Ne.symm n1)] at sj
    rw [List.getElem?_set_ne (Ne.symm n2)] at sk
    exact R.apart j k b c a hjk e1 e2 sj sk
  base := fun b m => by
    obtain ⟨h1, h2, h3⟩ := R.base b m
    refine ⟨h1, h2, fun j c q => ?_⟩
    by_cases hj : j = i
    · subst hj
      by_cases hl : j < en.length
      · rw [List.getElem?_set_self hl] at q
        cases q
      · rw [List.getElem?_eq_none (by rw [List.length_set]; omega)] at q
        cases q
    · rw [List.getElem?_set_ne (Ne.symm hj)] at q
      rw [List.getElem?_set_ne (Ne.symm hj)]
      exact h3 j c q
/-- a slot's own object is changed -/
theorem RelS.put {a : Addr} {o' : HO} {b b' : OB} (R : RelS G L σ H en) (e : en[i]? = some (some (SV.own b))) (e1 : σ[i]? = some (some (V.ref a))) (m : a ∈ L) (h : ObR G.K (hid H L) o' b') :
    RelS G L σ (upd H a o') (en.set i (some (.own b'))) where
  own := fun c mc => by
    by_cases hc : c = a
    · subst hc
      rw [upd_same]
      rcases h.owns with ⟨xs, rfl⟩ | ⟨kvs, rfl⟩
      · exact .inl ⟨xs, rfl⟩
      · exact .inr ⟨kvs, rfl⟩
    · rw [upd_ne hc]
      exact R.own c mc
  same := by rw [hid_upd m]; exact R.same
  len := by rw [List.length_set]; exact R.len
  slot := fun j sv ej => by
    by_cases hj : j = i
    · subst hj
      rw [List.getElem?_set_self (List.getElem?_eq_some_iff.mp e).1] at ej
      cases ej
      exact ⟨a, o', e1, m, upd_same, by rw [hid_upd m]; exact h⟩
    · rw [List.getElem?_set_ne (Ne.symm hj)] at ej
      have z := R.slot j sv ej
      cases sv with
      | d dd => obtain ⟨v, q1, q2⟩ := z; exact ⟨v, q1, by rw [hid_upd m]; exact q2⟩
      | own c =>
        obtain ⟨a2, u, q1, m2, q2, q3⟩ := z
        have hne : a2 ≠ a := fun z => by
          subst z
          exact R.apart j i _ _ _ hj ej e q1 e1
        exact ⟨a2, u, q1, m2, by rw [upd_ne hne]; exact q2, by rw [hid_upd m]; exact q3⟩
      | bor _ => exact z
  apart := fun j k b1 c a1 hjk ej ek => by
    have key : ∀ (j : Nat) (c : OB), (en.set i (some (.own b')))[j]? = some (some (SV.own c)) → ∃ c', en[j]? = some (some (SV.own c')) := fun j c q => by
      by_cases hj : j = i
      · subst hj
        exact ⟨b, e⟩
      · rw [List.getElem?_set_ne (Ne.symm hj)] at q
        exact ⟨c, q⟩
    obtain ⟨b2, e2⟩ := key _ _ ej
    obtain ⟨c2, e3⟩ := key _ _ ek
    exact R.apart j k b2 c2 a1 hjk e2 e3
  base := fun c mc => by
    obtain ⟨h1, h2, h3⟩ := R.base c mc
    have hc : c ≠ a := fun z => h3 i _ e (by rw [z]; exact e1)
    refine ⟨h1, by rw [upd_ne hc]; exact h2, fun j u q => ?_⟩
    by_cases hj : j = i
    · subst hj
      exact h3 j _ e
    · rw [List.getElem?_set_ne (Ne.symm hj)] at q
      exact h3 j u q
theorem RV.at_own {b : OB} {a : Addr} {o : HO} (R : RelS G L σ H en) (e : en[i]? = some (some (SV.own b))) (e1 : σ[i]? = some (some (V.ref a))) : a ∈ L ∧ ∃ o, H a = some o ∧ ObR G.K (hid H L) o b := by
  obtain ⟨c, u, q1, m, q2, q3⟩ := R.slot i _ e
  rw [e1] at q1
  cases q1
  exact ⟨m, u, q2, q3⟩
end

/-! ### statements -/
def mSeq (m n : M Ct) : M Ct := mbind m fun c => match c with
  | .nx => n
  | c => mpure c
def mNx : M Ct := mpure .nx
/-- a value goes into slot i -/
def mSet (i : Nat) (m : M SV) : M Ct := mbind m fun sv => match sv with
  | .d d => fun en => .ok .nx (en.set i (some (.d d)))
  | .own o => fun en => .ok .nx (en.set i (some (.own o)))
  | .bor _ => mstuck
def mRet (m : M SV) : M Ct := mbind m fun sv => mpure (.rt sv)
def mIfS (t : M Bool) (m n : M Ct) : M Ct := mbind t fun b => if b then m else n
section
variable {X : Cx} {G : Gs} {st : Stmt} {rest : List Stmt} {e : Expr} {m n : M Ct} {me : M SV} {pos : Pos} {H : Hp} {L : List Addr} {σ : St} {en : En} {E : Ends} {wr w1 w2 : List Nat}
theorem js_nil : PSs X [] (tS G [] mNx) := pss_nil.imp fun E σ H h => by
  obtain ⟨en, L, R, q⟩ := h
  exact q σ H L R (Same.refl _) Keeps.refl
theorem js_less {w1 w2 : List Nat} (h : PSs X rest (tS G w1 m)) (l : ∀ j ∈ w1, j ∈ w2) : PSs X rest (tS G w2 m) := h.imp fun E σ H h => by
  obtain ⟨en, L, R, q⟩ := h
  exact ⟨en, L, R, q.less l⟩
theorem seq_imp (E : Ends) (σ : St) (H : Hp) (h : tS G (w1 ++ w2) (mSeq m n) E σ H) : tSeq (tS G w1 m) (tS G w2 n) E σ H := by
  obtain ⟨en, L, R, q⟩ := h
  refine ⟨en, L, R, ?_⟩
  unfold mSeq mbind at q
  cases e : m en with
  | stuck => rw [e] at q; exact q
  | exc x en' => rw [e] at q; exact PostX.imp q fun σ' k => k.mono fun j z => List.mem_append_left _ z
  | ok c en' =>
    rw [e] at q
    cases c with
    | nx => exact fun σ1 H1 L1 R1 s1 k1 => ⟨en', L1, R1, q.from s1 k1⟩
    | rt sv => exact q
    | bk => exact fun σ1 H1 L1 R1 s1 k1 => q σ1 H1 L1 R1 s1 (k1.mono fun j z => List.mem_append_left _ z)
    | ct => exact fun σ1 H1 L1 R1 s1 k1 => q σ1 H1 L1 R1 s1 (k1.mono fun j z => List.mem_append_left _ z)
theorem js_cons (h1 : PS X st (tS G w1 m)) (h2 : PSs X rest (tS G w2 n)) : PSs X (st :: rest) (tS G (w1 ++ w2) (mSeq m n)) := (pss_cons h1 h2).imp seq_imp
theorem js_one (h1 : PS X st (tS G wr m)) : PSs X [st] (tS G wr m) := pss_one h1
/-- an expression, then an end -/
theorem seqES {f : SV → M Ct} (R : RelS G L σ H en) (q : PostS G wr σ H L (mbind me f en) E) :
    tE G me σ H fun x H1 => ∃ en1 L1 sv, RelS G L1 σ H1 en1 ∧ Same (hid H L) (hid H1 L1) ∧ RV G L1 σ H1 en1 x sv ∧ PostS G wr σ H1 L1 (f sv en1) E := by
  refine ⟨en, L, R, ?_⟩
  unfold mbind at q
  cases e : me en with
  | ok sv en' =>
    rw [e] at q
    exact fun v H' L' a b c => ⟨en', L', sv, a, b, c, q.from0 b⟩
  | exc x en' =>
    rw [e] at q
    exact PostX.at q
  | stuck =>
    rw [e] at q
    exact q
theorem seqTS {t : M Bool} {f : Bool → M Ct} (R : RelS G L σ H en) (q : PostS G wr σ H L (mbind t f en) E) :
    tT G t σ H fun x H1 => ∃ en1 L1, RelS G L1 σ H1 en1 ∧ Same (hid H L) (hid H1 L1) ∧ PostS G wr σ H1 L1 (f x en1) E := by
  refine ⟨en, L, R, ?_⟩
  unfold mbind at q
  cases e : t en with
  | ok sv en' =>
    rw [e] at q
    exact fun H' L' a b => ⟨en', L', a, b, q.from0 b⟩
  | exc x en' =>
    rw [e] at q
    exact PostX.at q
  | stuck =>
    rw [e] at q
    exact q
/-- what a target does with a value -/
theorem set_imp {i : Nat} (E : Ends) (σ : St) (H : Hp) (h : tS G [i] (mSet i me) E σ H) : tAsg (tE G me) (gName i) E σ H := by
  obtain ⟨en, L, R, q⟩ := h
  refine (seqES R q).mono fun v H1 ⟨en1, L1, sv, R1, s1, r1, q1⟩ => ?_
  cases sv with
  | d d => exact q1 _ H1 L1 (R1.store_d r1) (Same.refl _) Keeps.set
  | own o =>
    obtain ⟨a, ho, rfl, m, nb, h1, h2, h3⟩ := r1
    exact q1 _ H1 L1 (R1.store_own m nb h1 h2 h3) (Same.refl _) Keeps.set
  | bor _ => exact q1.elim
theorem js_set (i : Nat) {x : Str} {pos' : Pos} (hN : X.N.Nodup) (hi : X.N[i]? = some x) (hx : Loc X.env.scope x) (he : PE X e (tE G me)) (hs : swapsWith e (some (.Name x pos')) pos.line X.env = pure false := by rfl) (hf : X.fn x = true ∨ X.env.scope.names.lookup x = some .local := by first | exact .inl rfl | exact .inr rfl | assumption) :
    PS X (.Assign [.Name x pos'] e pos) (tS G [i] (mSet i me)) := (ps_set hN hi hx he hs hf).imp set_imp
theorem js_ret (he : PE X e (tE G me)) : PS X (.Return (some e) pos) (tS G [] (mRet me)) := (ps_ret he).imp fun E σ H h => by
  obtain ⟨en, L, R, q⟩ := h
  exact (seqES R q).mono fun v H1 ⟨en1, L1, sv, R1, s1, r1, q1⟩ => q1 v σ H1 L1 R1 (Same.refl _) r1
theorem js_if {c : Expr} {a b : List Stmt} {t : M Bool} (hc : PT X c (tT G t)) (ha : PSs X a (tS G w1 m)) (hb : PSs X b (tS G w2 n)) : PS X (.If c a b pos) (tS G (w1 ++ w2) (mIfS t m n)) := (ps_if hc ha hb).imp fun E σ H h => by
  obtain ⟨en, L, R, q⟩ := h
  refine (seqTS R q).mono fun b H1 ⟨en1, L1, R1, s1, q1⟩ => ?_
  cases b with
  | true => exact ⟨en1, L1, R1, q1.less fun j z => List.mem_append_left _ z⟩
  | false => exact ⟨en1, L1, R1, q1.less fun j z => List.mem_append_right _ z⟩
theorem js_pass : PS X (.Pass pos) (tS G [] mNx) := ps_pass.imp fun E σ H h => by
  obtain ⟨en, L, R, q⟩ := h
  exact q σ H L R (Same.refl _) Keeps.refl
theorem js_break : PS X (.Break pos) (tS G [] (mpure .bk)) := ps_break.imp fun E σ H h => by
  obtain ⟨en, L, R, q⟩ := h
  exact q σ H L R (Same.refl _) Keeps.refl
theorem js_continue : PS X (.Continue pos) (tS G [] (mpure .ct)) := ps_continue.imp fun E σ H h => by
  obtain ⟨en, L, R, q⟩ := h
  exact q σ H L R (Same.refl _) Keeps.refl
/-! ### a list's methods, at a slot's own list -/
/-- slot i's own list is changed by f, out of the argument -/
def mMut (i : Nat) (f : List D → D → Option (List D)) (me : M SV) : M Ct := fun en => match en[i]? with
  | some (some (.own (.lst _))) => mbind (mkeep me) (fun sv en => match sv, en[i]? with
    | .d d, some (some (.own (.lst ds))) => (match f ds d with
      | some es => .ok .nx (en.set i (some (.own (.lst es))))
      | none => .stuck)
    | _, _ => .stuck) en
  | _ => .stuck
theorem slot_lst {i : Nat} {ds : List D} (R : RelS G L σ H en) (e : en[i]? = some (some (SV.own (.lst ds)))) : ∃ (a : Addr) (xs : List V), σ[i]? = some (some (V.ref a)) ∧ a ∈ L ∧ H a = some (.lst xs) ∧ DqAll G.K (hid H L) xs ds := by
  obtain ⟨a, o, e1, m, ho, hr⟩ := R.slot i _ e
  cases o with
  | lst xs => exact ⟨a, xs, e1, m, ho, hr⟩
  | _ => exact hr.elim
theorem js_mut {i : Nat} {f : List D → D → Option (List D)} {r : V → List V → Hp → VK → Prop} {t : Expr}
    (hp : PE X t (tBM X.K "list" r (tVar i) (tCons (tE G (mkeep me)) tNil))) (hs : swapsWith t none pos.line X.env = pure false)
    (k : ∀ (H : Hp) (L : List Addr) (a : Addr) (xs : List V) (ds es : List D) (y : V) (d : D) (Q : VK), a ∈ L → Owns H L → H a = some (.lst xs) → DqAll G.K (hid H L) xs ds → Dq G.K (hid H L) y d → f ds d = some es →
      (∀ v ys, DqAll G.K (hid H L) ys es → Q v (upd H a (.lst ys))) → r (.ref a) [y] H Q) : PS X (.Expr t pos) (tS G [] (mMut i f me)) := (ps_expr hp hs).imp fun E σ H h => by
  obtain ⟨en, L, R, q⟩ := h
  unfold mMut at q
  split at q
  · rename_i ds0 e0
    obtain ⟨a, xs0, e1, m0, ho0, hr0⟩ := slot_lst R e0
    refine ⟨.ref a, e1, .inl ⟨rfl, xs0, .of ho0⟩, ?_⟩
    refine (seqES R q).mono fun y H1 ⟨en1, L1, sv, R1, s1, r1, q1⟩ => ?_
    split at q1
    · rename_i d ds e2
      obtain ⟨a', xs, e3, m, ho, hr⟩ := slot_lst R1 e2
      rw [e1] at e3
      cases e3
      cases hf : f ds d with
      | none => rw [hf] at q1; exact q1.elim
      | some es =>
        rw [hf] at q1
        refine k H1 L1 a xs ds es y d _ m R1.own ho hr r1 hf fun v ys hq => ?_
        exact q1 σ (upd H1 a (.lst ys)) L1 (R1.put e2 e1 m hq) (by rw [hid_upd m]; exact Same.refl _) Keeps.refl
    · exact q1.elim
  · exact q.elim
def fAppend : List D → D → Option (List D) := fun ds d => if ds.length < sizeLine then some (ds ++ [d]) else none
def fExtend : List D → D → Option (List D) := fun ds d => match d with
  | .list es => if ds.length + es.length ≤ sizeLine then some (ds ++ es) else none
  | _ => none
def mAppend (i : Nat) (me : M SV) : M Ct := mMut i fAppend me
def mExtend (i : Nat) (me : M SV) : M Ct := mMut i fExtend me
theorem js_append (i : Nat) {x : Str} {p apos cpos : Pos} (hK : X.K = G.K) (hN : X.N[i]? = some x) (hv : Vis X.env.scope x) (he : PE X e (tE G me)) (hd : (x == ("__debug__" : Str)) = false := by decide) (hcd : (x == ("__classdict__" : Str)) = false := by decide)
    (hbase : attributeBase (.Name x p) "append" X.env (eval (.Name x p) X.env) = eval (.Name x p) X.env := by rfl)
    (hfew : ((backTo cpos (starEach [e] X.env)).all (fun x => !x.1) && (backToKw cpos (keywordEach [] X.env)).all (fun x => x.1.isSome) && decide (([e] : List Expr).length + ([] : List Keyword).length + (if ([] : List Keyword).isEmpty then 0 else 1) < 30)) = true := by rfl)
    (hline : (apos.endLine == cpos.line) = true := by rfl) (hse : starEach [e] X.env = (false, eval e X.env) :: starEach [] X.env := by rfl)
    (hs : swapsWith (.Call (.Attribute (.Name x p) "append" apos) [e] [] cpos) none pos.line X.env = pure false := by rfl) :
    PS X (.Expr (.Call (.Attribute (.Name x p) "append" apos) [e] [] cpos) pos) (tS G [] (mAppend i me)) :=
  js_mut (pe_bm PySem.F.plainAttrs_list PySem.F.slot_list_append PySem.F.type_list_append mt_append (pe_var hN hv hd hcd) (pa_cons (je_keep he) pa_nil hse) hbase hfew hline hse) hs
    fun H L a xs ds es y d Q m w ho hr hy hf q => by
      unfold fAppend at hf
      split at hf
      · rename_i hl
        cases hf
        exact ⟨a, xs, y, rfl, rfl, ho, by rw [hr.length]; exact hl, q _ _ (hr.append (.cons hy .nil))⟩
      · cases hf
theorem js_extend (i : Nat) {x : Str} {p apos cpos : Pos} (hK : X.K = G.K) (hN : X.N[i]? = some x) (hv : Vis X.env.scope x) (he : PE X e (tE G me)) (hd : (x == ("__debug__" : Str)) = false := by decide) (hcd : (x == ("__classdict__" : Str)) = false := by decide)
    (hbase : attributeBase (.Name x p) "extend" X.env (eval (.Name x p) X.env) = eval (.Name x p) X.env := by rfl)
    (hfew : ((backTo cpos (starEach [e] X.env)).all (fun x => !x.1) && (backToKw cpos (keywordEach [] X.env)).all (fun x => x.1.isSome) && decide (([e] : List Expr).length + ([] : List Keyword).length + (if ([] : List Keyword).isEmpty then 0 else 1) < 30)) = true := by rfl)
    (hline : (apos.endLine == cpos.line) = true := by rfl) (hse : starEach [e] X.env = (false, eval e X.env) :: starEach [] X.env := by rfl)
    (hs : swapsWith (.Call (.Attribute (.Name x p) "extend" apos) [e] [] cpos) none pos.line X.env = pure false := by rfl) :
    PS X (.Expr (.Call (.Attribute (.Name x p) "extend" apos) [e] [] cpos) pos) (tS G [] (mExtend i me)) :=
  js_mut (pe_bm PySem.F.plainAttrs_list PySem.F.slot_list_extend PySem.F.type_list_extend mt_extend (pe_var hN hv hd hcd) (pa_cons (je_keep he) pa_nil hse) hbase hfew hline hse) hs
    fun H L a xs ds es y d Q m w ho hr hy hf q => by
      unfold fExtend at hf
      split at hf
      · rename_i es0
        split at hf
        · rename_i hl
          cases hf
          cases hy with
          | lst hs ha => exact ⟨a, _, xs, _, rfl, rfl, ho, hid_same _ _ hs, by rw [hr.length, ha.length]; exact hl, q _ _ (hr.append ha)⟩
        · cases hf
      · cases hf
/-- xs.pop() -/
def mPop (i : Nat) : M SV := fun en => match en[i]? with
  | some (some (.own (.lst ds))) => (match ds[ds.length - 1]? with
    | some d => .ok (.d d) (en.set i (some (.own (.lst ds.dropLast))))
    | none => .stuck)
  | _ => .stuck
theorem je_pop (i : Nat) {x : Str} {p apos cpos : Pos} (hN : X.N[i]? = some x) (hv : Vis X.env.scope x) (hd : (x == ("__debug__" : Str)) = false := by decide) (hcd : (x == ("__classdict__" : Str)) = false := by decide)
    (hbase : attributeBase (.Name x p) "pop" X.env (eval (.Name x p) X.env) = eval (.Name x p) X.env := by rfl) (hline : (apos.endLine == cpos.line) = true := by rfl) :
    PE X (.Call (.Attribute (.Name x p) "pop" apos) [] [] cpos) (tE G (mPop i)) :=
  (pe_bm0 PySem.F.plainAttrs_list PySem.F.slot_list_pop PySem.F.type_list_pop mt_pop (pe_var hN hv hd hcd) hbase hline).imp fun σ H Q h => by
    obtain ⟨en, L, R, q⟩ := h
    unfold mPop at q
    split at q
    · rename_i ds e0
      obtain ⟨a, xs, e1, m, ho, hr⟩ := slot_lst R e0
      split at q
      · rename_i d hd
        obtain ⟨v, e2, hv⟩ := hr.get hd
        refine ⟨.ref a, e1, .inl ⟨rfl, xs, .of ho⟩, a, xs, v, rfl, rfl, ho, by rw [hr.length]; exact e2, ?_⟩
        exact q v _ L (R.put e0 e1 m (b' := .lst ds.dropLast) (o' := .lst xs.dropLast) hr.dropLast) (by rw [hid_upd m]; exact Same.refl _) (by rw [show RV G L σ (upd H a (.lst xs.dropLast)) (en.set i (some (.own (.lst ds.dropLast)))) v (.d d) = Dq G.K (hid (upd H a (.lst xs.dropLast)) L) v d from rfl, hid_upd m]; exact hv)
      · exact q.elim
    · exact q.elim
end
end L2

namespace L2
open PySem PySem.Spec PyProof.Rows

theorem nil_sub {L : List Addr} : ∀ a ∈ ([] : List Addr), a ∈ L := fun a m => by cases m
/-! ### all slots' objects are let be seen -/
def frzSV : Option SV → Option SV
  | some (.own (.lst ds)) => some (.d (.list ds))
  | some (.own (.dct _)) => none
  | x => x
def frzAll (en : En) : En := en.map frzSV
section
variable {G : Gs} {H H' : Hp} {L : List Addr} {σ : St} {en : En}
theorem RelS.sub (R : RelS G L σ H en) : ∀ a ∈ G.B, a ∈ L := fun a m => (R.base a m).1
theorem frz_no {i : Nat} {c : OB} (h : (frzAll en)[i]? = some (some (SV.own c))) : False := by
  unfold frzAll at h
  rw [List.getElem?_map] at h
  cases q : en[i]? with
  | none => rw [q] at h; cases h
  | some o =>
    rw [q] at h
    cases o with
    | none => cases h
    | some s => cases s with
      | d d => cases h
      | bor _ => cases h
      | own b => cases b <;> cases h
theorem RelS.frzAll (R : RelS G L σ H en) : RelS G G.B σ H (L2.frzAll en) where
  own := fun a m => R.own a (R.sub a m)
  same := R.same.trans (hid_less R.sub)
  len := by unfold L2.frzAll; rw [List.length_map]; exact R.len
  slot := fun i sv e => by
    unfold L2.frzAll at e
    rw [List.getElem?_map] at e
    cases q : en[i]? with
    | none => rw [q] at e; cases e
    | some o =>
      rw [q] at e
      cases o with
      | none => cases e
      | some s =>
        have z := R.slot i s q
        cases s with
        | d d =>
          cases e
          obtain ⟨v, e1, h⟩ := z
          exact ⟨v, e1, Dq.mono (hid_less R.sub) _ h⟩
        | bor _ => cases e; exact z
        | own b =>
          cases b with
          | dct _ => cases e
          | lst ds =>
            cases e
            obtain ⟨a, o, e1, m, ho, hr⟩ := z
            cases o with
            | lst xs =>
              refine ⟨_, e1, .lst ?_ (DqAll.mono (hid_less R.sub) _ hr)⟩
              rw [hid_out fun z => (R.base a z).2.2 i _ q e1]
              exact ho
            | _ => exact hr.elim
  apart := fun i j b c a _ ei _ => (frz_no ei).elim
  base := fun b m => ⟨m, (R.base b m).2.1, fun i c e => (frz_no e).elim⟩
/-- a new object of a callee's is owned -/
theorem RelS.got (R : RelS G L σ H en) (s : Same H H') {a : Addr} {o : HO} (n : H a = none) (ho : H' a = some o) (w : (∃ xs, o = .lst xs) ∨ ∃ kvs, o = .dK kvs) : RelS G (a :: L) σ H' en ∧ Same (hid H L) (hid H' (a :: L)) := by
  have k : Same (hid H L) (hid H' (a :: L)) := fun b u e => by
    obtain ⟨m, e⟩ := hid_some e
    have hb : b ≠ a := ne_of_none e n
    rw [hid_out (by simp [hb, m])]
    exact s _ _ e
  refine ⟨⟨fun b m => ?_, R.same.trans k, R.len, fun i sv e => ?_, R.apart, fun b m => ?_⟩, k⟩
  · rcases List.mem_cons.mp m with rfl | m
    · rcases w with ⟨xs, rfl⟩ | ⟨kvs, rfl⟩
      · exact .inl ⟨xs, ho⟩
      · exact .inr ⟨kvs, ho⟩
    · exact (R.grow s).own b m
  · have q := R.slot i sv e
    cases sv with
    | d dd => obtain ⟨v, e1, h⟩ := q; exact ⟨v, e1, Dq.mono k _ h⟩
    | own b => obtain ⟨c, u, e1, m, hc, h⟩ := q; exact ⟨c, u, e1, List.mem_cons_of_mem _ m, s _ _ hc, h.mono k⟩
    | bor _ => exact q
  · obtain ⟨h1, h2, h3⟩ := (R.grow s).base b m
    exact ⟨List.mem_cons_of_mem _ h1, h2, h3⟩
end
/-! ### what a def gives back -/
abbrev Fm := List D → Rs SV
def flatO : OB → Bool
  | .lst ds => flats ds
  | .dct kvs => kvs.all fun p => flat p.2
def RetR (K : Kf) (B : List Addr) (H H' : Hp) (v : V) : SV → Prop
  | .d d => Dq K (hid H' B) v d
  | .own b => ∃ a o, v = .ref a ∧ H a = none ∧ H' a = some o ∧ ObR K (hid H' (a :: B)) o b
  | .bor _ => False
def spF (K : Kf) (mg : Str → Option Value) (n : Nat) (F : Fm) : Sp := fun vs H Q E => vs.length = n ∧ ∃ (B : List Addr) (ds : List D), Owns H B ∧ DqAll K (hid H B) vs ds ∧ match F ds with
  | .ok sv _ => ∀ v H', Same H H' → RetR K B H H' v sv → Q v H'
  | .exc x _ => ∀ cls d H', Same H H' → XR K mg x cls d (hid H' B) → E cls d H'
  | .stuck => False
def lookA (en : En) : SV → Option D
  | .d d => some d
  | .own _ => none
  | .bor i => match en[i]? with
    | some (some (.own (.lst ds))) => some (.list ds)
    | some (some (.own (.dct kds))) => if (kds.all fun p => isAt p.2) = true then some (dctD kds) else none
    | _ => none
def looksA (en : En) : List SV → Option (List D)
  | [] => some []
  | s :: r => match lookA en s, looksA en r with
    | some d, some ds => some (d :: ds)
    | _, _ => none
theorem RV.dq {G : Gs} {H : Hp} {L : List Addr} {σ : St} {en : En} {v : V} {sv : SV} {d : D} (R : RelS G L σ H en) (r : RV G L σ H en v sv) (e : lookA en sv = some d) : Dq G.K (hid H G.B) v d := by
  cases sv with
  | d dd => cases e; exact Dq.mono (hid_less R.sub) _ r
  | own _ => cases e
  | bor i =>
    obtain ⟨e1, b, e2⟩ := r
    unfold lookA at e
    simp only [e2] at e
    cases b with
    | dct kds =>
      dsimp only at e
      split at e
      · rename_i hf
        cases e
        have z := R.slot i _ e2
        obtain ⟨a, o, e3, m, ho, hr⟩ := z
        rw [e1] at e3
        cases e3
        cases o with
        | dK kvs =>
          refine .dct ?_ (KD.ka hr hf)
          rw [hid_out fun z => (R.base a z).2.2 i _ e2 e1]
          exact ho
        | _ => exact hr.elim
      · cases e
    | lst ds =>
      cases e
      obtain ⟨a, xs, e3, m, ho, hr⟩ := slot_lst R e2
      rw [e1] at e3
      cases e3
      refine .lst ?_ (DqAll.mono (hid_less R.sub) _ hr)
      rw [hid_out fun z => (R.base a z).2.2 i _ e2 e1]
      exact ho
theorem RVs.dq {G : Gs} {H : Hp} {L : List Addr} {σ : St} {en : En} (R : RelS G L σ H en) : ∀ {vs : List V} {svs : List SV} {ds : List D}, RVs G L σ H en vs svs → looksA en svs = some ds → DqAll G.K (hid H G.B) vs ds
  | _, _, _, .nil, e => by cases e; exact .nil
  | _, _, _, .cons h t, e => by
    unfold looksA at e
    split at e
    · rename_i d ds e1 e2
      cases e
      exact .cons (RV.dq R h.1 e1) (RVs.dq R t e2)
    · cases e
theorem looksA_len {en : En} : ∀ {svs : List SV} {ds : List D}, looksA en svs = some ds → svs.length = ds.length
  | [], _, e => by cases e; rfl
  | s :: r, _, e => by
    unfold looksA at e
    split at e
    · rename_i d ds e1 e2
      cases e
      exact congrArg (· + 1) (looksA_len e2)
    · cases e
def mCall (F : Fm) (mas : M (List SV)) : M SV := mbind mas fun svs en => match looksA en svs with
  | some ds => (match F ds with
    | .ok (.d d) _ => if flat d then .ok (.d d) en else .ok (.d d) (frzAll en)
    | .ok (.own o) _ => if flatO o then .ok (.own o) en else .ok (.own o) (frzAll en)
    | .ok (.bor _) _ => .stuck
    | .exc x _ => .exc x (frzAll en)
    | .stuck => .stuck)
  | none => .stuck
theorem ObR.flat_hid {K : Kf} {H : Hp} {L : List Addr} (w : Owns H L) {o : HO} {b : OB} (f : flatO b = true) (h : ObR K H o b) : ObR K (hid H L) o b := by
  cases o with
  | lst xs => cases b with
    | lst ds => exact DqAll.flat_hid w _ f h
    | dct _ => exact h.elim
  | dK kvs => cases b with
    | lst ds => exact h.elim
    | dct ks =>
      have go : ∀ {a : List (Key × V)} {c : List (Key × D)}, KD K H a c → (c.all fun p => flat p.2) = true → KD K (hid H L) a c := by
        intro a c h
        induction h with
        | nil => intro _; exact .nil
        | cons r _ ih =>
          intro f
          simp only [List.all_cons, Bool.and_eq_true] at f
          exact .cons ⟨r.1, Dq.flat_hid w _ f.1 r.2⟩ (ih f.2)
      exact go h f
  | _ => exact h.elim
section
variable {X : Cx} {G : Gs} {mas : M (List SV)} {F : Fm}
theorem call_imp {n : Nat} (hn : ∀ en svs en', mas en = .ok svs en' → svs.length = n) (σ : St) (H : Hp) (Q : VK) (h : tE G (mCall F mas) σ H Q) :
    tCallS (spF G.K G.mg n F) (WE G.W) (tA G mas) σ H Q := by
  obtain ⟨en, L, R, q⟩ := h
  refine ⟨en, L, R, ?_⟩
  unfold mCall mbind at q
  cases e0 : mas en with
  | stuck => rw [e0] at q; exact q
  | exc x en' => rw [e0] at q; exact q
  | ok svs en1 =>
    rw [e0] at q
    intro vs H1 L1 R1 s1 r1
    have hlen := hn en svs en1 e0
    have q1 := q.from s1
    dsimp only at q1
    cases e : looksA en1 svs with
    | none => rw [e] at q1; exact q1.elim
    | some ds =>
      rw [e] at q1
      dsimp only at q1
      have hd := RVs.dq R1 r1 e
      have hB : Owns H1 G.B := fun b m => R1.own b (R1.sub b m)
      refine ⟨by rw [← hlen]; exact Paired.length r1, G.B, ds, hB, hd, ?_⟩
      have lb : Same (hid H1 L1) (hid H1 G.B) := hid_less R1.sub
      cases e1 : F ds with
      | stuck => rw [e1] at q1; exact q1.elim
      | exc x en' =>
        rw [e1] at q1
        exact fun cls d H2 s2 hx => q1 cls d σ H2 G.B rfl (R1.grow s2).frzAll (lb.trans (hid_mono s2)) hx
      | ok sv en' =>
        rw [e1] at q1
        cases sv with
        | bor _ => exact q1.elim
        | d d =>
          intro v H2 s2 hr
          dsimp only at q1
          split at q1
          · rename_i hf
            exact q1 v H2 L1 (R1.grow s2) (hid_mono s2) (Dq.flat_hid (R1.grow s2).own _ hf (Dq.mono hid_same _ hr))
          · exact q1 v H2 G.B (R1.grow s2).frzAll (lb.trans (hid_mono s2)) hr
        | own o =>
          intro v H2 s2 hr
          obtain ⟨a, ho, rfl, na, ha, hob⟩ := hr
          dsimp only at q1
          split at q1
          · rename_i hf
            obtain ⟨R2, k2⟩ := R1.got s2 na ha hob.owns
            exact q1 _ H2 (a :: L1) R2 k2 ⟨a, ho, rfl, List.mem_cons_self, R1.fresh_base na, ha, ObR.flat_hid R2.own hf (hob.mono hid_same), own_out R1 (R1.fresh_out na)⟩
          · have R0 := R1.frzAll
            obtain ⟨R2, k2⟩ := R0.got s2 na ha hob.owns
            exact q1 _ H2 (a :: G.B) R2 (lb.trans k2) ⟨a, ho, rfl, List.mem_cons_self, R1.fresh_base na, ha, hob, own_out R0 (R1.fresh_base na)⟩
end
/-! ### a def by its body -/
def runF (n N : Nat) (body : M Ct) : Fm := fun ds => if ds.length = n then (match body (ds.map (fun d => some (SV.d d)) ++ List.replicate (N - n) none) with
  | .ok (.rt (.d d)) _ => .ok (.d d) []
  | .ok (.rt (.own o)) _ => .ok (.own o) []
  | .ok (.rt (.bor i)) en => (match en[i]? with
    | some (some (.own o)) => .ok (.own o) []
    | _ => .stuck)
  | .ok .nx _ => .ok (.d .none) []
  | .exc x _ => .exc x []
  | _ => .stuck) else .stuck
section
variable {P : Program} {w : World} {K : Kf} {mg : Str → Option Value} {base : Heap}
theorem start_rel {W : WX} {B : List Addr} {H : Hp} {N : List Str} {vs : List V} {ds : List D} (w : Owns H B) (h : DqAll K (hid H B) vs ds) : RelS ⟨K, mg, hid H B, W, B, H, none⟩ B (start N vs) H (ds.map (fun d => some (SV.d d)) ++ List.replicate (N.length - ds.length) none) := by
  have no : ∀ (i : Nat) (c : OB), (ds.map (fun d => some (SV.d d)) ++ List.replicate (N.length - ds.length) none)[i]? = some (some (SV.own c)) → False := fun i c ei => by
    by_cases hi : i < ds.length
    · rw [List.getElem?_append_left (by rw [List.length_map]; exact hi), List.getElem?_map] at ei
      cases q : ds[i]? with
      | none => rw [q] at ei; cases ei
      | some d => rw [q] at ei; cases ei
    · rw [List.getElem?_append_right (by rw [List.length_map]; omega)] at ei
      rw [List.getElem?_replicate] at ei
      split at ei <;> cases ei
  refine ⟨w, Same.refl _, ?_, fun i sv e => ?_, fun i j b c a _ ei _ => (no i b ei).elim, fun a m => ⟨m, rfl, fun i c e => (no i c e).elim⟩⟩
  · unfold start
    rw [List.length_append, List.length_append, List.length_map, List.length_map, List.length_replicate, List.length_replicate, h.length]
  · by_cases hi : i < ds.length
    · rw [List.getElem?_append_left (by rw [List.length_map]; exact hi), List.getElem?_map] at e
      cases q : ds[i]? with
      | none => rw [q] at e; cases e
      | some d =>
        rw [q] at e
        cases e
        obtain ⟨v, e1, e2⟩ := h.get q
        refine ⟨v, ?_, e2⟩
        unfold start
        rw [List.getElem?_append_left (by rw [List.length_map, h.length]; exact hi), List.getElem?_map, e1]
        rfl
    · rw [List.getElem?_append_right (by rw [List.length_map]; omega)] at e
      rw [List.getElem?_replicate] at e
      split at e <;> cases e
/-- what a body leaves of what was there -/
theorem RelS.kept {W : WX} {B : List Addr} {H H' : Hp} {L : List Addr} {σ : St} {en : En} (R : RelS ⟨K, mg, hid H B, W, B, H, none⟩ L σ H' en) : Same H H' := fun a o e => by
  by_cases m : a ∈ B
  · rw [(R.base a m).2.1]
    exact e
  · exact hid_same _ _ (R.same a o (show hid H B a = some o by rw [hid_out m]; exact e))
theorem okN {x qual : Str} {st : Stmt} {f : Addr} {fd : FuncData} {N ps : List Str} {k : Nat} {sp : Sp} (F : Fun K x qual st f fd) (S : FnScope N ps (defScope st)) (len : ∀ vs H Q E, sp vs H Q E → vs.length = ps.length)
    (body : ∀ (cdv : Value) (A : Around) (outer : List Env) (s : Shared) (H : Hp) (vs : List V) (Q : VK) (E : XK), Room k (A.deeper (envOfC qual (defScope st) s.heap.objs.size f cdv)) → sp vs H Q E →
      ∃ t, PSs (cxOf (L2N.CX P w) P w K mg base N qual (defScope st) f cdv A outer s H E) (defBody st) t ∧ t { nx := fun _ H' => Q .non H', rt := Q } (start N vs) H) :
    FnOk P w K mg base (L2N.CX P w) (k + 1) f fd ps sp := by
  obtain ⟨oc, od, kV, doc, pm, an, cdv, ct, osl, rfl, lk, hcd⟩ := F.ex
  exact fn_of lk hcd S len fun A outer s H vs Q E hr h => body cdv A outer s H vs Q E hr h
theorem mir_run {wr : List Nat} {N ps : List Str} {m : M Ct} {H : Hp} {vs : List V} {Q : VK} {E : XK} (h : spF K mg ps.length (runF ps.length N.length m) vs H Q E) :
    ∃ B, tS ⟨K, mg, hid H B, fun cls d _ H' => E cls d H', B, H, none⟩ wr m { nx := fun _ H' => Q .non H', rt := Q } (start N vs) H := by
  obtain ⟨hl, B, ds, hw, hd, h⟩ := h
  refine ⟨B, ?_⟩
  have hdl : ds.length = ps.length := by rw [← hd.length]; exact hl
  unfold runF at h
  rw [if_pos hdl] at h
  refine ⟨_, B, start_rel (N := N) hw hd, ?_⟩
  rw [hdl]
  cases e : m (ds.map (fun d => some (SV.d d)) ++ List.replicate (N.length - ps.length) none) with
  | stuck => rw [e] at h; exact h
  | exc x en' =>
    rw [e] at h
    exact fun cls d σ' H' L' _ R' s' hx => h cls d H' R'.kept (by
      obtain ⟨C, dd, fv, a1, a2, a3, a4, a5⟩ := hx
      exact ⟨C, dd, fv, a1, a2, a3, hid_less R'.sub _ _ a4, Paired.mapP a5 fun _ _ ⟨z1, z2⟩ => ⟨z1, Dq.mono (hid_less R'.sub) _ z2⟩⟩)
  | ok c en' =>
    rw [e] at h
    cases c with
    | nx => exact fun σ' H' L' R' s' _ => h .non H' R'.kept .non
    | bk => exact h.elim
    | ct => exact h.elim
    | rt sv =>
      intro v σ' H' L' R' s' r
      have nf : ∀ a, a ∈ L' → a ∉ B → H a = none := fun a ma nb => by
        have z := R'.free ma
        have z' : hid H B a = none := z
        rw [hid_out nb] at z'
        exact z'
      have sb : ∀ a, a ∈ L' → ∀ b ∈ a :: B, b ∈ L' := fun a ma b m => by
        rcases List.mem_cons.mp m with rfl | m
        · exact ma
        · exact R'.sub b m
      cases sv with
      | d d => exact h v H' R'.kept (Dq.mono (hid_less R'.sub) _ r)
      | own o =>
        obtain ⟨a, ho, rfl, ma, nb, ha, hob, _⟩ := r
        exact h _ H' R'.kept ⟨a, ho, rfl, nf a ma nb, ha, hob.mono (hid_less (sb a ma))⟩
      | bor i =>
        dsimp only at h
        obtain ⟨e1, b, e2⟩ := r
        simp only [e2] at h
        obtain ⟨a, o, e3, ma, ha, hob⟩ := R'.slot i _ e2
        rw [e1] at e3
        cases e3
        have nb : a ∉ B := fun z => (R'.base a z).2.2 i _ e2 e1
        exact h _ H' R'.kept ⟨a, o, rfl, nf a ma nb, ha, hob.mono (hid_less (sb a ma))⟩
theorem fn_mir {wr : List Nat} {x qual : Str} {st : Stmt} {f : Addr} {fd : FuncData} {N ps : List Str} {k : Nat} {m : M Ct} (F : Fun K x qual st f fd) (S : FnScope N ps (defScope st))
    (hbody : ∀ (cdv : Value) (A : Around) (outer : List Env) (s : Shared) (H : Hp) (E : XK) (B : List Addr), Room k (A.deeper (envOfC qual (defScope st) s.heap.objs.size f cdv)) →
      PSs (cxOf (L2N.CX P w) P w K mg base N qual (defScope st) f cdv A outer s H E) (defBody st) (tS ⟨K, mg, hid H B, fun cls d _ H' => E cls d H', B, H, none⟩ wr m)) :
    FnOk P w K mg base (L2N.CX P w) (k + 1) f fd ps (spF K mg ps.length (runF ps.length N.length m)) :=
  okN F S (fun vs H Q E h => h.1) fun cdv A outer s H vs Q E hr h => by
    obtain ⟨B, q⟩ := mir_run (wr := wr) h
    exact ⟨_, hbody cdv A outer s H E B hr, q⟩
theorem fn_mirH {wr : List Nat} {x qual : Str} {st : Stmt} {f : Addr} {fd : FuncData} {N ps : List Str} {k : Nat} {m : M Ct} (F : Fun K x qual st f fd) (S : FnScope N ps (defScope st))
    (hbody : ∀ (cdv : Value) (A : Around) (outer : List Env) (s : Shared) (H : Hp) (E : XK) (B : List Addr) (p : Addr × Obj), L2H.Hot1 A p → L2H.RoomH k (A.deeper (envOfC qual (defScope st) s.heap.objs.size f cdv)) →
      PSs (L2H.cxH (L2N.CX P w) P w K mg base N qual (defScope st) f cdv A outer s H E p) (defBody st) (tS ⟨K, mg, hid H B, fun cls d _ H' => E cls d H', B, H, none⟩ wr m)) :
    L2H.FnH P w K mg base (L2N.CX P w) (k + 1) f fd ps (spF K mg ps.length (runF ps.length N.length m)) := by
  obtain ⟨oc, od, kV, doc, pm, an, cdv, ct, osl, rfl, lk, hcd⟩ := F.ex
  exact L2H.fn_ofH lk hcd S (fun vs H Q E h => h.1) fun A outer s H vs Q E p hp hr h => by
    obtain ⟨B, q⟩ := mir_run (wr := wr) h
    exact ⟨_, hbody cdv A outer s H E B p hp hr, q⟩
end
end L2

namespace L2
open PySem PySem.Spec PyProof.Rows

/-! ### f(..) -/
/-- a list of n arguments -/
def ArgN (mas : M (List SV)) (n : Nat) : Prop := ∀ en svs en', mas en = .ok svs en' → svs.length = n
theorem argN_nil : ArgN mNil 0 := fun en svs en' e => by cases e; rfl
theorem argN_cons {m : M SV} {r : M (List SV)} {n : Nat} (h : ArgN r n) : ArgN (mCons m r) (n + 1) := fun en svs en' e => by
  unfold mCons mbind at e
  cases e1 : mfrz m en with
  | stuck => rw [e1] at e; cases e
  | exc _ _ => rw [e1] at e; cases e
  | ok a en1 =>
    rw [e1] at e
    dsimp only at e
    cases e2 : r en1 with
    | stuck => rw [e2] at e; cases e
    | exc _ _ => rw [e2] at e; cases e
    | ok as en2 =>
      rw [e2] at e
      dsimp only at e
      split at e
      · cases e
        exact congrArg (· + 1) (h _ _ _ e2)
      · cases e
section
variable {X : Cx} {G : Gs} {k : Nat} {f : Addr} {fd : FuncData} {ps : List Str} {F : Fm} {mas : M (List SV)} {x : Str} {p pos : Pos} {e : Expr} {es : List Expr}
theorem je_call {n : Nat} (hF : FnOk X.prog X.w X.K X.mg X.base (L2N.CX X.prog X.w) k f fd ps (spF G.K G.mg n F)) (hr : Room k X.A) (tk : L2N.Takes X G.W) (hg : Gl X x) (hm : X.mg x = some (.ref f)) (hk : PySem.W.keepIn X.K (.ref f) = true) (hb : Binds X.K fd ps [])
    (hn : ArgN mas n) (ha : PA X (e :: es) (tA G mas)) (hdb : (x == ("__debug__" : Str)) = false := by decide) (he : starEach (e :: es) X.env = (false, eval e X.env) :: starEach es X.env := by rfl) (hpl : (backTo pos (starEach es X.env)).any (·.1) = false := by rfl) :
    PE X (.Call (.Name x p) (e :: es) [] pos) (tE G (mCall F mas)) := (pe_callS hF hr hg hm hk hb (fun σ => L2N.passAt tk σ) ha hdb he hpl).imp (call_imp hn)
theorem je_callH {n : Nat} (hF : L2H.FnH X.prog X.w X.K X.mg X.base (L2N.CX X.prog X.w) k f fd ps (spF G.K G.mg n F)) (hr : L2H.RoomH k X.A) (hc : L2H.HotC X) (tk : L2N.Takes X G.W) (hg : Gl X x) (hm : X.mg x = some (.ref f)) (hk : PySem.W.keepIn X.K (.ref f) = true) (hb : Binds X.K fd ps [])
    (hn : ArgN mas n) (ha : PA X (e :: es) (tA G mas)) (hdb : (x == ("__debug__" : Str)) = false := by decide) (he : starEach (e :: es) X.env = (false, eval e X.env) :: starEach es X.env := by rfl) (hpl : (backTo pos (starEach es X.env)).any (·.1) = false := by rfl) :
    PE X (.Call (.Name x p) (e :: es) [] pos) (tE G (mCall F mas)) := (L2H.pe_callH hF hr hc hg hm hk hb (fun σ => L2N.passAt tk σ) ha hdb he hpl).imp (call_imp hn)
end

/-! ### truth -/
def truD : D → Option Bool
  | .none => some false
  | .bool b => some b
  | .int i => some (i != 0)
  | .str z => if z.length ≤ sizeLine then some ((z.length : Int) != 0) else none
  | .list ds => some (!ds.isEmpty)
  | .tuple ds => some (!ds.isEmpty)
  | .dict [(.none, .list ds)] => some (!ds.isEmpty)
  | .dict kds => some (!kds.isEmpty)
theorem truV_of {K : Kf} {H : Hp} {L : List Addr} {x : V} {d : D} {b : Bool} (o : Opd K H L x d) (e : truD d = some b) : TruV K x H b := by
  have em : ∀ {xs : List V} {ds : List D} {H : Hp}, DqAll K H xs ds → xs.isEmpty = ds.isEmpty := fun h => by cases h <;> rfl
  unfold truD at e
  split at e
  · cases e; rw [o.none]; exact rfl
  · cases e; rw [o.bool]; exact rfl
  · cases e; rw [o.int]; exact rfl
  · split at e
    · rename_i h
      cases e
      rw [o.str]
      exact ⟨h, rfl⟩
    · cases e
  · cases e
    obtain ⟨a, xs, rfl, h1, h2⟩ := o.list'
    exact .inl ⟨xs, h1, by rw [em h2]⟩
  · cases e
    obtain ⟨a, xs, rfl, h1, h2⟩ := o.tuple
    exact .inr (.inl ⟨xs, h1, by rw [em h2]⟩)
  · cases e
    rcases o.dct with ⟨a, ns, rfl, e2, hs⟩ | ⟨a, kvs, ks, rfl, e2, ho, hk⟩
    · injection e2 with e2 _
      injection e2 with _ e2
      injection e2 with e2
      subst e2
      exact .inl ⟨_, hs, by cases ns <;> rfl⟩
    · cases ks with
      | nil => cases e2
      | cons p r =>
        injection e2 with e2 _
        injection e2 with e2 _
        cases h1 : p.1 <;> (rw [h1] at e2; exact nomatch e2)
  · rename_i kds hne
    cases e
    rcases o.dct with ⟨a, ns, rfl, e2, hs⟩ | ⟨a, kvs, ks, rfl, e2, ho, hk⟩
    · exact (hne _ (by rw [e2])).elim
    · subst e2
      exact .inr (.inr ⟨kvs, ho, by cases hk <;> rfl⟩)
def mTru (m : M SV) : M Bool := mbind (mfrz m) fun sv en => match look en sv with
  | some d => (match truD d with
    | some b => .ok b en
    | none => .stuck)
  | none => .stuck
section
variable {X : Cx} {G : Gs} {e : Expr} {m : M SV}
theorem jt_tru (hK : X.K = G.K) (h : PE X e (tE G m)) (he : ∀ whole, isTrue e X.env whole = (do let v ← whole; standAt e.pos; holding [v] (truthy v)) := by intro _; rfl) : PT X e (tT G (mTru m)) :=
  (pt_truth (je_frz h) he).imp fun σ H Q h => by
    obtain ⟨en, L, R, q⟩ := h
    refine (seqET R q).mono fun x H1 ⟨en1, L1, sv1, R1, s1, r1, q1⟩ => ?_
    cases e1 : look en1 sv1 with
    | none => simp only [e1] at q1; exact q1.elim
    | some d =>
      simp only [e1] at q1
      cases e2 : truD d with
      | none => simp only [e2] at q1; exact q1.elim
      | some b =>
        simp only [e2] at q1
        exact ⟨b, by rw [hK]; exact truV_of (RV.opd R1 (Same.refl _) r1 e1) e2, q1 H1 L1 R1 (Same.refl _)⟩
end

/-! ### targets -/
inductive Tg where
  | nm (i : Nat)
  | tp (is : List Nat)
def Tg.slots : Tg → List Nat
  | .nm i => [i]
  | .tp is => is
def setAll : List Nat → List D → En → En
  | i :: is, d :: ds, en => setAll is ds (en.set i (some (.d d)))
  | _, _, en => en
def setTg : Tg → D → En → Option En
  | .nm i, d, en => some (en.set i (some (.d d)))
  | .tp is, .tuple ds, en => if ds.length = is.length then some (setAll is ds en) else none
  | .tp _, _, _ => none
def gsOf : List Nat → TGs
  | [] => gNil
  | i :: is => gCons (gName i) (gsOf is)
def gOf (K : Kf) : Tg → TG
  | .nm i => gName i
  | .tp is => gTup K is.length (gsOf is)
theorem gs_run {G : Gs} {L : List Addr} {H : Hp} {Q : St → Hp → Prop} : ∀ {is : List Nat} {vs : List V} {ds : List D} {σ : St} {en : En}, RelS G L σ H en → DqAll G.K (hid H L) vs ds → ds.length = is.length →
    (∀ σ', RelS G L σ' H (setAll is ds en) → Keeps is σ σ' → Q σ' H) → gsOf is vs σ H Q
  | [], _, _, _, _, R, .nil, _, q => ⟨rfl, q _ R Keeps.refl⟩
  | i :: is, _, _, σ, en, R, .cons h t, hl, q => by
    refine ⟨_, _, rfl, ?_⟩
    exact gs_run (R.store_d h) t (by simpa using hl) fun σ' R' k => q σ' R' fun j hj => by
      rw [k j (fun z => hj (List.mem_cons_of_mem _ z)), List.getElem?_set_ne (fun z => hj (by rw [z]; exact List.mem_cons_self))]
  | _ :: _, _, _, _, _, _, .nil, hl, _ => by simp at hl
  | [], _, _, _, _, _, .cons _ _, hl, _ => by simp at hl
theorem g_run {G : Gs} {L : List Addr} {H : Hp} {σ : St} {en en' : En} {v : V} {d : D} {tg : Tg} {Q : St → Hp → Prop} (R : RelS G L σ H en) (h : Dq G.K (hid H L) v d) (e : setTg tg d en = some en')
    (q : ∀ σ', RelS G L σ' H en' → Keeps tg.slots σ σ' → Q σ' H) : gOf G.K tg v σ H Q := by
  cases tg with
  | nm i => cases e; exact q _ (R.store_d h) Keeps.set
  | tp is =>
    cases h with
    | @tup a0 xs0 ds0 hs ha =>
      simp only [setTg] at e
      by_cases hl : ds0.length = is.length
      · rw [if_pos hl] at e
        cases e
        exact ⟨_, _, rfl, sqT_mono hid_same hs, by rw [ha.length]; exact hl, gs_run R ha hl q⟩
      · rw [if_neg hl] at e
        cases e
    | _ => cases e
/-- an assignment of data to a target -/
def mAsg (tg : Tg) (m : M SV) : M Ct := mbind (mkeep m) fun sv en => match sv with
  | .d d => (match setTg tg d en with
    | some en' => .ok .nx en'
    | none => .stuck)
  | _ => .stuck
section
variable {X : Cx} {G : Gs} {e t : Expr} {m : M SV} {pos : Pos} {tg : Tg}
theorem js_asg (hK : X.K = G.K) (hg : PG X t (gOf X.K tg)) (he : PE X e (tE G m)) (hs : swapsWithSole [t] e pos.line X.env = pure false := by rfl) (hw : swappedStores [t] e X.env = pure none := by rfl)
    (h1 : (assignEach [t] X.env).map (·.2) = [assign t X.env] := by rfl) : PS X (.Assign [t] e pos) (tS G tg.slots (mAsg tg m)) := (ps_asg (je_keep he) hg hs hw h1).imp fun E σ H h => by
  obtain ⟨en, L, R, q⟩ := h
  refine (seqES R q).mono fun v H1 ⟨en1, L1, sv, R1, s1, r1, q1⟩ => ?_
  cases sv with
  | own _ => exact q1.elim
  | bor _ => exact q1.elim
  | d d =>
    dsimp only at q1
    cases e1 : setTg tg d en1 with
    | none => rw [e1] at q1; exact q1.elim
    | some en' =>
      rw [e1] at q1
      rw [hK]
      exact g_run R1 r1 e1 fun σ' R' k => q1 σ' H1 L1 R' (Same.refl _) k
end

/-! ### for -/
open Classical in
/-- the slot that is walked has not changed -/
noncomputable def chkOk (c : Option (Nat × List D)) (en : En) : Bool := match c with
  | none => true
  | some (i, ds) => decide (en[i]? = some (some (SV.own (.lst ds))))
noncomputable def forGo (tg : Tg) (c : Option (Nat × List D)) (body : M Ct) : List D → M Ct
  | [], en => if chkOk c en then .ok .nx en else .stuck
  | d :: r, en => if chkOk c en then (match setTg tg d en with
      | none => .stuck
      | some en1 => match body en1 with
        | .ok .nx en2 => forGo tg c body r en2
        | .ok .ct en2 => forGo tg c body r en2
        | .ok .bk en2 => .ok .nx en2
        | .ok (.rt sv) en2 => .ok (.rt sv) en2
        | .exc x en2 => .exc x en2
        | .stuck => .stuck) else .stuck
/-- what a loop walks -/
structure Walks (K : Kf) (J : It) (ok : Hp → List Addr → Prop) (ds : List D) : Prop where
  go : ∀ i H L, ok H L → i < ds.length → J.go i H
  stop : ∀ i H L, ok H L → i = ds.length → J.stop i H
  yld : ∀ i H L x H' d, ok H L → ds[i]? = some d → J.yld i H x H' → Owns H L → Same H H' ∧ Dq K (hid H' L) x d
section
variable {G : Gs} {J : It} {tg : Tg} {body : M Ct} {wb : List Nat} {ds : List D} {H : Hp} {L : List Addr} {σ : St} {en : En} {E : Ends} {c : Option (Nat × List D)}
theorem for_run {ok : Hp → List Addr → Prop} (W : Walks G.K J ok ds) (R : RelS G L σ H en) (q : PostS G (tg.slots ++ wb) σ H L (forGo tg c body ds en) E)
    (k : ∀ σ' H' L' en', RelS G L' σ' H' en' → Same (hid H L) (hid H' L') → Keeps (tg.slots ++ wb) σ σ' → chkOk c en' = true → ok H' L') :
    ∃ W : Nat → Nat → St → Hp → Prop, (∃ m, W 0 m σ H) ∧ ∀ i m σ H, W i m σ H →
      (J.stop i H ∧ E.nx σ H) ∨ (J.go i H ∧ ∃ N : St → Hp → Prop, (∀ σ' H', N σ' H' → ∃ m', m' < m ∧ W (i + 1) m' σ' H') ∧ ∀ x H', J.yld i H x H' → gOf G.K tg x σ H' fun σ2 H2 => tS G wb body { E with nx := N, ct := N, bk := E.nx } σ2 H2) := by
  refine ⟨fun i m σ' H' => i + m = ds.length ∧ ∃ en' L', RelS G L' σ' H' en' ∧ Same (hid H L) (hid H' L') ∧ Keeps (tg.slots ++ wb) σ σ' ∧ PostS G (tg.slots ++ wb) σ' H' L' (forGo tg c body (ds.drop i) en') E, ⟨ds.length, by omega, en, L, R, Same.refl _, Keeps.refl, q⟩, ?_⟩
  rintro i m σ1 H1 ⟨hm, en1, L1, R1, s1, k1, q1⟩
  by_cases hi : i < ds.length
  · obtain ⟨d, hd⟩ : ∃ d, ds[i]? = some d := ⟨ds[i], List.getElem?_eq_getElem hi⟩
    have hdrop : ds.drop i = d :: ds.drop (i + 1) := by
      rw [List.drop_eq_getElem_cons hi]
      rw [List.getElem?_eq_getElem hi] at hd
      cases hd
      rfl
    rw [hdrop] at q1
    unfold forGo at q1
    split at q1
    · rename_i hc
      have hok := k σ1 H1 L1 en1 R1 s1 k1 hc
      refine .inr ⟨W.go i H1 L1 hok hi, fun σ' H' => ∃ en' L', RelS G L' σ' H' en' ∧ Same (hid H L) (hid H' L') ∧ Keeps (tg.slots ++ wb) σ σ' ∧ PostS G (tg.slots ++ wb) σ' H' L' (forGo tg c body (ds.drop (i + 1)) en') E, fun σ' H' n => ⟨m - 1, by omega, by omega, n⟩, fun x H2 hy => ?_⟩
      obtain ⟨s2, hx⟩ := W.yld i H1 L1 x H2 d hok hd hy R1.own
      have R2 := R1.grow s2
      cases e : setTg tg d en1 with
      | none => rw [e] at q1; exact q1.elim
      | some en2 =>
        rw [e] at q1
        refine g_run R2 hx e fun σ2 R3 k2 => ⟨en2, L1, R3, ?_⟩
        have s12 : Same (hid H1 L1) (hid H2 L1) := hid_mono s2
        dsimp only at q1
        have kt : Keeps (tg.slots ++ wb) σ1 σ2 := k2.mono fun j z => List.mem_append_left _ z
        have kc : ∀ {σa σb σc : St}, Keeps (tg.slots ++ wb) σa σb → Keeps (tg.slots ++ wb) σb σc → Keeps (tg.slots ++ wb) σa σc := fun a b j hj => (b j hj).trans (a j hj)
        have kb : ∀ {σ3 : St}, Keeps wb σ2 σ3 → Keeps (tg.slots ++ wb) σ1 σ3 := fun k3 => kc kt (k3.mono fun j z => List.mem_append_right _ z)
        have pf : ∀ {r : Rs Ct} {σ3 H3 L3}, PostS G (tg.slots ++ wb) σ1 H1 L1 r E → Same (hid H1 L1) (hid H3 L3) → Keeps (tg.slots ++ wb) σ1 σ3 → PostS G (tg.slots ++ wb) σ3 H3 L3 r E := fun {r σ3 H3 L3} h a b => by
          refine PostS.from (w1 := tg.slots ++ wb) a b (PostS.less ?_ h)
          intro j z
          rcases List.mem_append.mp z with z | z <;> exact z
        cases e2 : body en2 with
        | stuck => rw [e2] at q1; exact q1.elim
        | exc x en3 =>
          rw [e2] at q1
          exact PostX.imp (PostX.from s12 q1) fun σ' k3 => kb k3
        | ok ct en3 =>
          rw [e2] at q1
          cases ct with
          | nx => exact fun σ3 H3 L3 R4 s3 k3 => ⟨en3, L3, R4, s1.trans (s12.trans s3), kc k1 (kb k3), pf q1 (s12.trans s3) (kb k3)⟩
          | ct => exact fun σ3 H3 L3 R4 s3 k3 => ⟨en3, L3, R4, s1.trans (s12.trans s3), kc k1 (kb k3), pf q1 (s12.trans s3) (kb k3)⟩
          | bk => exact fun σ3 H3 L3 R4 s3 k3 => q1 σ3 H3 L3 R4 (s12.trans s3) (kb k3)
          | rt sv => exact fun v σ3 H3 L3 R4 s3 r => q1 v σ3 H3 L3 R4 (s12.trans s3) r
    · exact q1.elim
  · have hi' : i = ds.length := by omega
    have hdrop : ds.drop i = [] := List.drop_eq_nil_of_le (by omega)
    rw [hdrop] at q1
    unfold forGo at q1
    split at q1
    · rename_i hc
      exact .inl ⟨W.stop i H1 L1 (k σ1 H1 L1 en1 R1 s1 k1 hc) hi', q1 σ1 H1 L1 R1 (Same.refl _) Keeps.refl⟩
    · exact q1.elim
/-! ### what may be walked -/
theorem walks_list {K : Kf} {a : Addr} {ds : List D} : Walks K (Itl K a) (fun H L => ∃ xs, H a = some (.lst xs) ∧ DqAll K (hid H L) xs ds) ds where
  go := fun i H L ⟨xs, h, hd⟩ hi => ⟨xs, xs[i]'(by rw [hd.length]; exact hi), .of h, List.getElem?_eq_getElem _⟩
  stop := fun i H L ⟨xs, h, hd⟩ hi => ⟨xs, .of h, by rw [hd.length]; omega⟩
  yld := fun i H L x H' d ⟨xs, h, hd⟩ hi ⟨e, y⟩ _ => by
    subst e
    obtain ⟨v, e1, e2⟩ := hd.get hi
    have z := y xs (.of h)
    rw [e1] at z
    cases z
    exact ⟨Same.refl _, e2⟩
theorem walks_tup {K : Kf} {a : Addr} {ds : List D} : Walks K (Itt K a) (fun H L => ∃ xs, SqT K H a xs ∧ DqAll K (hid H L) xs ds) ds where
  go := fun i H L ⟨xs, h, hd⟩ hi => ⟨xs, xs[i]'(by rw [hd.length]; exact hi), h, List.getElem?_eq_getElem _⟩
  stop := fun i H L ⟨xs, h, hd⟩ hi => ⟨xs, h, by rw [hd.length]; omega⟩
  yld := fun i H L x H' d ⟨xs, h, hd⟩ hi ⟨e, y⟩ _ => by
    subst e
    obtain ⟨v, e1, e2⟩ := hd.get hi
    have z := y xs h
    rw [e1] at z
    cases z
    exact ⟨Same.refl _, e2⟩
def signs (z : Str) : List D := z.cps.toList.map fun c => .str ⟨#[c]⟩
theorem walks_str {K : Kf} {z : Str} : Walks K (Its z) (fun _ _ => True) (signs z) where
  go := fun i H L _ hi => by
    unfold signs at hi
    rw [List.length_map] at hi
    exact (by simpa using hi : i < z.cps.size)
  stop := fun i H L _ hi => by
    unfold signs at hi
    rw [List.length_map] at hi
    exact (by simp at hi; omega : z.cps.size ≤ i)
  yld := fun i H L x H' d _ hi y _ => by
    obtain ⟨e, c, hc, e2⟩ := y
    subst e e2
    unfold signs at hi
    rw [List.getElem?_map, Array.getElem?_toList, hc] at hi
    cases hi
    exact ⟨Same.refl _, .str _⟩
def rngD (lo : Int) (n : Nat) : List D := (List.range n).map fun k => .int (lo + (k : Nat))
theorem walks_rng {K : Kf} {lo : Int} {n : Nat} : Walks K (Itr lo n) (fun _ _ => True) (rngD lo n) where
  go := fun i H L _ hi => by
    unfold rngD at hi
    rw [List.length_map, List.length_range] at hi
    exact hi
  stop := fun i H L _ hi => by
    unfold rngD at hi
    rw [List.length_map, List.length_range] at hi
    exact (by omega : n ≤ i)
  yld := fun i H L x H' d _ hi y _ => by
    obtain ⟨e, e2⟩ := y
    subst e e2
    unfold rngD at hi
    rw [List.getElem?_map] at hi
    by_cases h : i < n
    · rw [List.getElem?_range h] at hi
      cases hi
      exact ⟨Same.refl _, .int _⟩
    · rw [List.getElem?_eq_none (by rw [List.length_range]; omega)] at hi
      cases hi
end
end L2

namespace L2
open PySem PySem.Spec PyProof.Rows

/-! ### an iterator over a list, a tuple, a text -/
section
variable {X : Cx} {tg : Expr}
theorem it_list {pins : List (Addr × Obj)} {σ : St} {H : Hp} {s : Shared} {R : It → Hp → Prop} {a : Addr} {xs : List V} (I : Inv X pins σ H s) (h : SqL X.K H a xs) (q : R (Itl X.K a) H) : wpAny (model X.prog X.w) X.A (pyIter (.ref a)) (PIE X pins σ tg R) X.xe s := by
  obtain ⟨its, _, pl, _⟩ := I.list h
  refine wpAny_pyIter_list pl.isList ⟨_, [s.heap.objs.size], _, _, H, rfl, I.kept (t' := s.toks) (fun _ _ e => Heap.get?_push_of_some _ e), turn_list a _, ⟨_, Heap.get?_push_size _ rfl, rfl, rfl⟩, fun b m => ?_, q⟩
  rw [List.mem_singleton.mp m]
  exact I.fpOk (Nat.le_refl _) I.fresh
theorem it_tup {pins : List (Addr × Obj)} {σ : St} {H : Hp} {s : Shared} {R : It → Hp → Prop} {a : Addr} {xs : List V} (I : Inv X pins σ H s) (h : SqT X.K H a xs) (q : R (Itt X.K a) H) : wpAny (model X.prog X.w) X.A (pyIter (.ref a)) (PIE X pins σ tg R) X.xe s := by
  obtain ⟨its, _, pl, _⟩ := I.tuple h
  refine wpAny_pyIter_tuple pl ⟨_, [s.heap.objs.size], _, _, H, rfl, I.kept (t' := s.toks) (fun _ _ e => Heap.get?_push_of_some _ e), turn_tuple a _, ⟨_, Heap.get?_push_size _ rfl, rfl, rfl⟩, fun b m => ?_, q⟩
  rw [List.mem_singleton.mp m]
  exact I.fpOk (Nat.le_refl _) I.fresh
theorem it_str {pins : List (Addr × Obj)} {σ : St} {H : Hp} {s : Shared} {R : It → Hp → Prop} {z : Str} {t : Tok} (I : Inv X pins σ H s) (q : R (Its z) H) : wpAny (model X.prog X.w) X.A (pyIter (.str z t)) (PIE X pins σ tg R) X.xe s := by
  cases hz : z.cps.all (· < 128) with
  | false => exact wpAny_pyIter_wide hz (pi_one (tk := s.toks) I _ (turn_str _ z t "str_iterator" (.inr rfl)) ⟨_, Heap.get?_push_size _ rfl, rfl, rfl⟩ q)
  | true => exact wpAny_pyIter_ascii hz (pi_one (tk := s.toks) I _ (turn_str _ z t "str_ascii_iterator" (.inl rfl)) ⟨_, Heap.get?_push_size _ rfl, rfl, rfl⟩ q)
def iAny (K : Kf) (te : TE) : TI := fun σ H R => te σ H fun x H1 => (∃ a xs, x = .ref a ∧ SqL K H1 a xs ∧ R (Itl K a) H1) ∨ (∃ a xs, x = .ref a ∧ SqT K H1 a xs ∧ R (Itt K a) H1) ∨ ∃ z, x = .str z ∧ R (Its z) H1
theorem pi_any {e : Expr} {te : TE} (he : PE X e te) : PI X tg e (iAny X.K te) := ⟨fun pins s σ H R I h => thn (he.run pins s σ H _ I h) fun v s1 ⟨x, H1, I1, r1, q1⟩ => by
  rcases q1 with ⟨a, xs, rfl, h, q⟩ | ⟨a, xs, rfl, h, q⟩ | ⟨z, rfl, q⟩
  · obtain rfl := r1
    exact it_list I1 h q
  · obtain rfl := r1
    exact it_tup I1 h q
  · obtain ⟨t, rfl⟩ := r1
    exact it_str I1 q⟩
end

/-! ### for x in .. -/
noncomputable def mFor (tg : Tg) (wb : List Nat) (me : M SV) (body : M Ct) : M Ct := mbind (mfrz me) fun sv en => match sv with
  | .d (.list ds) => forGo tg none body ds en
  | .d (.tuple ds) => forGo tg none body ds en
  | .d (.str z) => forGo tg none body (signs z) en
  | .bor i => (match en[i]? with
    | some (some (.own (.lst ds))) => if (tg.slots ++ wb).contains i then .stuck else forGo tg (some (i, ds)) body ds en
    | _ => .stuck)
  | _ => .stuck
noncomputable def mForR1 (tg : Tg) (mas : M (List SV)) (body : M Ct) : M Ct := mbind mas fun svs en => match looks en svs with
  | some [.int j] => if -(2 ^ 62) ≤ j ∧ j < 2 ^ 62 then forGo tg none body (rngD 0 j.toNat) en else .stuck
  | _ => .stuck
noncomputable def mForR2 (tg : Tg) (mas : M (List SV)) (body : M Ct) : M Ct := mbind mas fun svs en => match looks en svs with
  | some [.int i, .int j] => if (-(2 ^ 62) ≤ i ∧ i < 2 ^ 62) ∧ -(2 ^ 62) ≤ j ∧ j < 2 ^ 62 then forGo tg none body (rngD i (j - i).toNat) en else .stuck
  | _ => .stuck
section
variable {X : Cx} {G : Gs} {t iter : Expr} {body : List Stmt} {me : M SV} {mb : M Ct} {wb : List Nat} {tg : Tg} {pos : Pos}
theorem js_for (hp : PassesOwn (model X.prog X.w) X.A X.env X.xe) (hc : X.calm = true) (hK : X.K = G.K) (he : PE X iter (tE G me)) (hg : PG X t (gOf X.K tg)) (hb : PSs X body (tS G wb mb)) (hs : ∀ x, foldedSetIterable iter X.env x = pure x := by intro _; rfl) :
    PS X (.For t iter body [] pos) (tS G (tg.slots ++ wb) (mFor tg wb me mb)) := (ps_for hp hc (pi_any (je_frz he)) hg hb hs).imp fun E σ H h => by
  obtain ⟨en, L, R, q⟩ := h
  refine (seqES R q).mono fun v H1 ⟨en1, L1, sv, R1, s1, r1, q1⟩ => ?_
  rw [hK]
  cases sv with
  | own _ => exact q1.elim
  | bor i =>
    obtain ⟨e1, b, e2⟩ := r1
    simp only [e2] at q1
    cases b with
    | dct _ => exact q1.elim
    | lst ds =>
      dsimp only at q1
      split at q1
      · exact q1.elim
      · rename_i hni
        obtain ⟨a, xs, e3, ma, ho, hr⟩ := slot_lst R1 e2
        rw [e1] at e3
        cases e3
        refine .inl ⟨a, xs, rfl, .of ho, ?_⟩
        refine for_run walks_list R1 q1 fun σ' H' L' en' R' s' k' c' => ?_
        have c2 : en'[i]? = some (some (SV.own (.lst ds))) := by simpa [chkOk] using c'
        obtain ⟨a', xs', e4, _, ho', hr'⟩ := slot_lst R' c2
        rw [k' i (fun z => hni (List.contains_iff_mem.mpr z)), e1] at e4
        cases e4
        exact ⟨xs', ho', hr'⟩
  | d d =>
    cases d with
    | list ds =>
      cases r1 with
      | lst hs ha =>
        refine .inl ⟨_, _, rfl, .of (hid_same _ _ hs), for_run walks_list R1 q1 fun σ' H' L' en' R' s' k' c' => ⟨_, hid_same _ _ (s' _ _ hs), DqAll.mono s' _ ha⟩⟩
    | tuple ds =>
      cases r1 with
      | tup hs ha =>
        refine .inr (.inl ⟨_, _, rfl, sqT_mono hid_same hs, for_run walks_tup R1 q1 fun σ' H' L' en' R' s' k' c' => ⟨_, sqT_mono hid_same (sqT_mono s' hs), DqAll.mono s' _ ha⟩⟩)
    | str z =>
      cases r1
      exact .inr (.inr ⟨z, rfl, for_run walks_str R1 q1 fun _ _ _ _ _ _ _ _ => trivial⟩)
    | _ => exact q1.elim
theorem seqAS {mas : M (List SV)} {f : List SV → M Ct} {wr : List Nat} {H : Hp} {L : List Addr} {σ : St} {en : En} {E : Ends} (R : RelS G L σ H en) (q : PostS G wr σ H L (mbind mas f en) E) :
    tA G mas σ H fun x H1 => ∃ en1 L1 sv, RelS G L1 σ H1 en1 ∧ Same (hid H L) (hid H1 L1) ∧ RVs G L1 σ H1 en1 x sv ∧ PostS G wr σ H1 L1 (f sv en1) E := by
  refine ⟨en, L, R, ?_⟩
  unfold mbind at q
  cases e : mas en with
  | ok sv en' =>
    rw [e] at q
    exact fun v H' L' a b c => ⟨en', L', sv, a, b, c, q.from0 b⟩
  | exc x en' =>
    rw [e] at q
    exact PostX.at q
  | stuck =>
    rw [e] at q
    exact q
theorem forR1_imp {mas : M (List SV)} (hK : X.K = G.K) (E : Ends) (σ : St) (H : Hp) (h : tS G (tg.slots ++ wb) (mForR1 tg mas mb) E σ H) : tFor (iRng1 (tA G mas)) (gOf X.K tg) (tS G wb mb) E σ H := by
  obtain ⟨en, L, R, q⟩ := h
  refine (seqAS R q).mono fun vs H1 ⟨en1, L1, svs, R1, s1, r1, q1⟩ => ?_
  rw [hK]
  cases e : looks en1 svs with
  | none => simp only [e] at q1; exact q1.elim
  | some ds =>
    simp only [e] at q1
    have o := RVs.opd R1 (Same.refl _) r1 e
    split at q1
    · rename_i j heq
      cases heq
      split at q1
      · rename_i hj
        cases o with
        | cons h t => cases t; exact ⟨j, by rw [h.int], hj.1, hj.2, for_run walks_rng R1 q1 fun _ _ _ _ _ _ _ _ => trivial⟩
      · exact q1.elim
    · exact q1.elim
theorem js_forR1 {a : Expr} {mas : M (List SV)} {p pos' : Pos} (hp : PassesOwn (model X.prog X.w) X.A X.env X.xe) (hc : X.calm = true) (hK : X.K = G.K) (hgl : Gl X "range") (hm : X.mg "range" = none) (ha : PA X [a] (tA G mas)) (hg : PG X t (gOf X.K tg)) (hb : PSs X body (tS G wb mb))
    (hs : starEach [a] X.env = [(false, eval a X.env)] := by rfl) (hf : ∀ x, foldedSetIterable (.Call (.Name "range" p) [a] [] pos') X.env x = pure x := by intro _; rfl) :
    PS X (.For t (.Call (.Name "range" p) [a] [] pos') body [] pos) (tS G (tg.slots ++ wb) (mForR1 tg mas mb)) := (ps_for hp hc (pi_range1 hgl hm ha hs) hg hb hf).imp (forR1_imp hK)
theorem js_forR1H {a : Expr} {mas : M (List SV)} {p pos' : Pos} (hp : PassesOwn (model X.prog X.w) X.A X.env X.xe) (hc : L2H.HotC X) (hK : X.K = G.K) (hgl : Gl X "range") (hm : X.mg "range" = none) (ha : PA X [a] (tA G mas)) (hg : PG X t (gOf X.K tg)) (hb : PSs X body (tS G wb mb))
    (hs : starEach [a] X.env = [(false, eval a X.env)] := by rfl) (hf : ∀ x, foldedSetIterable (.Call (.Name "range" p) [a] [] pos') X.env x = pure x := by intro _; rfl) :
    PS X (.For t (.Call (.Name "range" p) [a] [] pos') body [] pos) (tS G (tg.slots ++ wb) (mForR1 tg mas mb)) := (L2H.ps_forH hp hc (L2H.pi_range1H hgl hm ha hs) hg hb hf).imp (forR1_imp hK)
theorem js_forR2 {a b : Expr} {mas : M (List SV)} {p pos' : Pos} (hp : PassesOwn (model X.prog X.w) X.A X.env X.xe) (hc : X.calm = true) (hK : X.K = G.K) (hgl : Gl X "range") (hm : X.mg "range" = none) (ha : PA X [a, b] (tA G mas)) (hg : PG X t (gOf X.K tg)) (hb : PSs X body (tS G wb mb))
    (hs : starEach [a, b] X.env = [(false, eval a X.env), (false, eval b X.env)] := by rfl) (hs2 : starEach [b] X.env = [(false, eval b X.env)] := by rfl) (hf : ∀ x, foldedSetIterable (.Call (.Name "range" p) [a, b] [] pos') X.env x = pure x := by intro _; rfl) :
    PS X (.For t (.Call (.Name "range" p) [a, b] [] pos') body [] pos) (tS G (tg.slots ++ wb) (mForR2 tg mas mb)) := (ps_for hp hc (pi_range2 hgl hm ha hs hs2) hg hb hf).imp fun E σ H h => by
  obtain ⟨en, L, R, q⟩ := h
  refine (seqAS R q).mono fun vs H1 ⟨en1, L1, svs, R1, s1, r1, q1⟩ => ?_
  rw [hK]
  cases e : looks en1 svs with
  | none => simp only [e] at q1; exact q1.elim
  | some ds =>
    simp only [e] at q1
    have o := RVs.opd R1 (Same.refl _) r1 e
    split at q1
    · rename_i i j heq
      cases heq
      split at q1
      · rename_i hj
        cases o with
        | cons h t => cases t with
          | cons h2 t => cases t; exact ⟨i, j, by rw [h.int, h2.int], ⟨hj.1.1, hj.1.2, hj.2.1, hj.2.2⟩, for_run walks_rng R1 q1 fun _ _ _ _ _ _ _ _ => trivial⟩
      · exact q1.elim
    · exact q1.elim
/-! ### while -/
def whGo (t : M Bool) (b : M Ct) : Nat → M Ct
  | 0, _ => .stuck
  | n + 1, en => match t en with
    | .ok true en1 => (match b en1 with
      | .ok .nx en2 => whGo t b n en2
      | .ok .ct en2 => whGo t b n en2
      | .ok .bk en2 => .ok .nx en2
      | .ok (.rt sv) en2 => .ok (.rt sv) en2
      | .exc x en2 => .exc x en2
      | .stuck => .stuck)
    | .ok false en1 => .ok .nx en1
    | .exc x en1 => .exc x en1
    | .stuck => .stuck
def mWhile (fuel : Nat) (t : M Bool) (b : M Ct) : M Ct := whGo t b fuel
theorem js_while (fuel : Nat) {c : Expr} {mt : M Bool} (hp : PassesOwn (model X.prog X.w) X.A X.env X.xe) (hc : PT X c (tT G mt)) (hb : PSs X body (tS G wb mb)) : PS X (.While c body [] pos) (tS G wb (mWhile fuel mt mb)) := (ps_while hp hc hb).imp fun E σ H h => by
  obtain ⟨en, L, R, q⟩ := h
  have kc : ∀ {σa σb σc : St}, Keeps wb σa σb → Keeps wb σb σc → Keeps wb σa σc := fun a b j hj => (b j hj).trans (a j hj)
  have pf : ∀ {r : Rs Ct} {σ1 H1 L1 σ3 H3 L3}, PostS G wb σ1 H1 L1 r E → Same (hid H1 L1) (hid H3 L3) → Keeps wb σ1 σ3 → PostS G wb σ3 H3 L3 r E := fun {r σ1 H1 L1 σ3 H3 L3} h a b => by
    refine PostS.from (w1 := wb) a b (PostS.less ?_ h)
    intro j z
    rcases List.mem_append.mp z with z | z <;> exact z
  refine ⟨fun m σ' H' => ∃ en' L', RelS G L' σ' H' en' ∧ PostS G wb σ' H' L' (whGo mt mb m en') E, ⟨fuel, en, L, R, q⟩, ?_⟩
  rintro m σ1 H1 ⟨en1, L1, R1, q1⟩
  cases m with
  | zero => exact q1.elim
  | succ n =>
    unfold whGo at q1
    refine ⟨en1, L1, R1, ?_⟩
    cases e : mt en1 with
    | stuck => rw [e] at q1; exact q1
    | exc x en2 => rw [e] at q1; exact PostX.at q1
    | ok b en2 =>
      rw [e] at q1
      intro H2 L2 R2 s2
      cases b with
      | false => exact q1 σ1 H2 L2 R2 s2 Keeps.refl
      | true =>
        rw [if_pos rfl]
        refine ⟨fun σ' H' => ∃ en' L', RelS G L' σ' H' en' ∧ PostS G wb σ' H' L' (whGo mt mb n en') E, fun σ' H' w => ⟨n, Nat.lt_succ_self n, w⟩, en2, L2, R2, ?_⟩
        dsimp only at q1
        cases e2 : mb en2 with
        | stuck => rw [e2] at q1; exact q1.elim
        | exc x en3 => rw [e2] at q1; exact PostX.from s2 q1
        | ok ct en3 =>
          rw [e2] at q1
          cases ct with
          | nx => exact fun σ3 H3 L3 R4 s3 k3 => ⟨en3, L3, R4, pf q1 (s2.trans s3) k3⟩
          | ct => exact fun σ3 H3 L3 R4 s3 k3 => ⟨en3, L3, R4, pf q1 (s2.trans s3) k3⟩
          | bk => exact fun σ3 H3 L3 R4 s3 k3 => q1 σ3 H3 L3 R4 (s2.trans s3) k3
          | rt sv => exact fun v σ3 H3 L3 R4 s3 r => q1 v σ3 H3 L3 R4 (s2.trans s3) r
end
end L2

namespace L2
open PySem PySem.Spec PyProof.Rows

/-! ### slots of a comprehension's own -/
def wipeEn (en : En) : List Nat → En
  | [] => en
  | i :: vs => (wipeEn en vs).set i none
theorem wipe_keeps (σ : St) : ∀ vs : List Nat, Keeps vs σ (wipe σ vs)
  | [] => Keeps.refl
  | i :: vs => fun j h => by
    show ((wipe σ vs).set i none)[j]? = _
    rw [List.getElem?_set_ne (fun z => h (by rw [z]; exact List.mem_cons_self))]
    exact wipe_keeps σ vs j fun z => h (List.mem_cons_of_mem _ z)
theorem wipeEn_out (en : En) : ∀ {vs : List Nat} {j : Nat}, j ∉ vs → (wipeEn en vs)[j]? = en[j]?
  | [], _, _ => rfl
  | i :: vs, j, h => by
    show ((wipeEn en vs).set i none)[j]? = _
    rw [List.getElem?_set_ne (fun z => h (by rw [z]; exact List.mem_cons_self))]
    exact wipeEn_out en fun z => h (List.mem_cons_of_mem _ z)
theorem wipeEn_in (en : En) : ∀ {vs : List Nat} {j : Nat} {sv : SV}, j ∈ vs → (wipeEn en vs)[j]? = some (some sv) → False
  | i :: vs, j, sv, h, e => by
    have e : ((wipeEn en vs).set i none)[j]? = some (some sv) := e
    by_cases hj : i = j
    · subst hj
      by_cases hl : i < (wipeEn en vs).length
      · rw [List.getElem?_set_self hl] at e
        cases e
      · rw [List.getElem?_eq_none (by rw [List.length_set]; omega)] at e
        cases e
    · rw [List.getElem?_set_ne hj] at e
      exact wipeEn_in en ((List.mem_cons.mp h).resolve_left fun z => hj z.symm) e
theorem RelS.wipe {G : Gs} {L : List Addr} {σ : St} {H : Hp} {en : En} (R : RelS G L σ H en) : ∀ vs : List Nat, RelS G L (L2.wipe σ vs) H (wipeEn en vs)
  | [] => R
  | i :: vs => (RelS.wipe R vs).forget (w := none)
theorem wipe_same {σ σ' : St} : ∀ {vs : List Nat}, σ.length = σ'.length → (∀ j, j ∉ vs → σ'[j]? = σ[j]?) → wipe σ' vs = wipe σ vs := fun {vs} hl h => by
  refine List.ext_getElem? fun j => ?_
  have key : ∀ (τ : St) (us : List Nat), j ∈ us → (wipe τ us)[j]? = if j < τ.length then some none else none := fun τ us => by
    induction us with
    | nil => intro m; cases m
    | cons i us ih =>
      intro m
      show ((wipe τ us).set i none)[j]? = _
      by_cases hj : i = j
      · subst hj
        by_cases hlt : i < τ.length
        · rw [List.getElem?_set_self (by rw [wipe_length]; exact hlt), if_pos hlt]
        · rw [List.getElem?_eq_none (by rw [List.length_set, wipe_length]; omega), if_neg hlt]
      · rw [List.getElem?_set_ne hj]
        exact ih ((List.mem_cons.mp m).resolve_left fun z => hj z.symm)
  by_cases m : j ∈ vs
  · rw [key _ _ m, key _ _ m, hl]
  · rw [wipe_keeps σ' vs j m, wipe_keeps σ vs j m, h j m]
theorem wipeEn_len (en : En) : ∀ vs : List Nat, (wipeEn en vs).length = en.length
  | [] => rfl
  | i :: vs => by
    show ((wipeEn en vs).set i none).length = _
    rw [List.length_set]
    exact wipeEn_len en vs
theorem wipeEn_same {en en' : En} {vs : List Nat} (hl : en.length = en'.length) (h : ∀ j, j ∉ vs → en'[j]? = en[j]?) : wipeEn en' vs = wipeEn en vs := by
  refine List.ext_getElem? fun j => ?_
  have key : ∀ (τ : En) (us : List Nat), j ∈ us → (wipeEn τ us)[j]? = if j < τ.length then some none else none := fun τ us => by
    induction us with
    | nil => intro m; cases m
    | cons i us ih =>
      intro m
      show ((wipeEn τ us).set i none)[j]? = _
      by_cases hj : i = j
      · subst hj
        by_cases hlt : i < τ.length
        · rw [List.getElem?_set_self (by rw [wipeEn_len]; exact hlt), if_pos hlt]
        · rw [List.getElem?_eq_none (by rw [List.length_set, wipeEn_len]; omega), if_neg hlt]
      · rw [List.getElem?_set_ne hj]
        exact ih ((List.mem_cons.mp m).resolve_left fun z => hj z.symm)
  by_cases m : j ∈ vs
  · rw [key _ _ m, key _ _ m, hl]
  · rw [wipeEn_out _ m, wipeEn_out _ m, h j m]
theorem setAll_out : ∀ {is : List Nat} {ds : List D} {en : En} {j : Nat}, j ∉ is → (setAll is ds en)[j]? = en[j]?
  | [], _, _, _, _ => by simp [setAll]
  | _ :: _, [], _, _, _ => by simp [setAll]
  | i :: is, d :: ds, en, j, h => by
    rw [setAll, setAll_out fun z => h (List.mem_cons_of_mem _ z), List.getElem?_set_ne (fun z => h (by rw [z]; exact List.mem_cons_self))]
theorem setAll_len : ∀ {is : List Nat} {ds : List D} {en : En}, (setAll is ds en).length = en.length
  | [], _, _ => by simp [setAll]
  | _ :: _, [], _ => by simp [setAll]
  | i :: is, d :: ds, en => by rw [setAll, setAll_len, List.length_set]
theorem setTg_out {tg : Tg} {d : D} {en en' : En} (e : setTg tg d en = some en') : en'.length = en.length ∧ ∀ j, j ∉ tg.slots → en'[j]? = en[j]? := by
  cases tg with
  | nm i =>
    cases e
    exact ⟨List.length_set .., fun j h => List.getElem?_set_ne (fun z => h (by rw [z]; exact List.mem_singleton.mpr rfl))⟩
  | tp is =>
    cases d with
    | tuple ds =>
      simp only [setTg] at e
      split at e
      · cases e
        exact ⟨setAll_len, fun j h => setAll_out h⟩
      · cases e
    | _ => cases e

/-! ### [e for x in ..] -/
open Classical in
noncomputable def compGo (tg : Tg) (mc : M Bool) (me : M SV) (en0 : En) : List D → List D → Option (List D)
  | [], acc => some acc
  | d :: r, acc => match setTg tg d en0 with
    | none => none
    | some en1 => match mc en1 with
      | .ok false en2 => if en2 = en1 then compGo tg mc me en0 r acc else none
      | .ok true en2 => if en2 = en1 then (match mkeep me en1 with
        | .ok (.d y) en3 => if en3 = en1 ∧ acc.length < sizeLine then compGo tg mc me en0 r (acc ++ [y]) else none
        | _ => none) else none
      | _ => none
/-- no slot of vs has an object of its own -/
def noOwn (en : En) (vs : List Nat) : Bool := vs.all fun i => match en[i]? with
  | some (some (.own _)) => false
  | _ => true
noncomputable def mComp (tg : Tg) (vs : List Nat) (mc : M Bool) (me : M SV) (ds : List D) : M SV := fun en => if noOwn en vs then (match compGo tg mc me (wipeEn en vs) ds [] with
  | some acc => .ok (.own (.lst acc)) en
  | none => .stuck) else .stuck
/-- what holds in a comprehension's block: D0 the list that is made, as it stands -/
def Gs.blk (G : Gs) (D0 : Addr) (xs : List V) : Gs := { G with W := fun _ _ _ _ => False, B := D0 :: G.B, HB := upd G.HB D0 (.lst xs) }
section
variable {G : Gs} {H H1 : Hp} {L : List Addr} {σ : St} {en : En} {D0 : Addr} {xs : List V}
theorem RelS.toBlk (R : RelS G L σ H en) (n : H D0 = none) : RelS (G.blk D0 []) (D0 :: L) σ (upd H D0 (.lst [])) en where
  own := (R.hide n (.inl ⟨[], rfl⟩)).own
  same := (R.hide n (.inl ⟨[], rfl⟩)).same
  len := R.len
  slot := (R.hide n (.inl ⟨[], rfl⟩)).slot
  apart := R.apart
  base := fun a m => by
    rcases List.mem_cons.mp m with rfl | m
    · exact ⟨List.mem_cons_self, by rw [upd_same]; exact upd_same.symm, own_out R (R.fresh_out n)⟩
    · obtain ⟨h1, h2, h3⟩ := (R.hide (o := .lst []) n (.inl ⟨[], rfl⟩)).base a m
      have hne : a ≠ D0 := fun z => R.fresh_base n (z ▸ m)
      exact ⟨h1, h2.trans (by show G.HB a = upd G.HB D0 (.lst []) a; rw [upd_ne hne]), h3⟩
theorem RelS.ofBlk (R : RelS (G.blk D0 xs) L σ H en) (n : D0 ∉ G.B) : RelS G L σ H en where
  own := R.own
  same := R.same
  len := R.len
  slot := R.slot
  apart := R.apart
  base := fun a m => by
    obtain ⟨h1, h2, h3⟩ := R.base a (List.mem_cons_of_mem _ m)
    have hne : a ≠ D0 := fun z => n (z ▸ m)
    exact ⟨h1, h2.trans (by show upd G.HB D0 (.lst xs) a = G.HB a; rw [upd_ne hne]), h3⟩
theorem RelS.pushBlk (R : RelS (G.blk D0 xs) L σ H en) (n : D0 ∉ G.B) {ys : List V} : RelS (G.blk D0 ys) L σ (upd H D0 (.lst ys)) en := by
  obtain ⟨m, _, h3⟩ := R.base D0 List.mem_cons_self
  refine ⟨fun a ma => ?_, by rw [hid_upd m]; exact R.same, R.len, fun i sv e => ?_, R.apart, fun a ma => ?_⟩
  · by_cases ha : a = D0
    · subst ha
      exact .inl ⟨ys, upd_same⟩
    · rw [upd_ne ha]
      exact R.own a ma
  · have q := R.slot i sv e
    cases sv with
    | d dd => obtain ⟨v, e1, h⟩ := q; exact ⟨v, e1, by rw [hid_upd m]; exact h⟩
    | own b =>
      obtain ⟨c, u, e1, mc, hc, h⟩ := q
      have hne : c ≠ D0 := fun z => h3 i b e (by rw [← z]; exact e1)
      exact ⟨c, u, e1, mc, by rw [upd_ne hne]; exact hc, by rw [hid_upd m]; exact h⟩
    | bor _ => exact q
  · rcases List.mem_cons.mp ma with rfl | mb
    · exact ⟨m, by rw [upd_same]; exact upd_same.symm, h3⟩
    · obtain ⟨h1, h2, h4⟩ := R.base a ma
      have hne : a ≠ D0 := fun z => n (z ▸ mb)
      refine ⟨h1, ?_, h4⟩
      rw [upd_ne hne, h2]
      show upd G.HB D0 (.lst xs) a = upd G.HB D0 (.lst ys) a
      rw [upd_ne hne, upd_ne hne]
end
section
variable {G : Gs} {J : It} {tg : Tg} {mc : M Bool} {me : M SV} {ds : List D} {H : Hp} {L : List Addr} {σ : St} {en : En} {Q : VK} {vs : List Nat} {tt : TT} {te : TE}
theorem comp_run {ok : Hp → List Addr → Prop} (W : Walks G.K J ok ds) (R : RelS G L σ H en) (q : PostE G σ H L (mComp tg vs mc me ds en) Q) (hsub : ∀ j ∈ tg.slots, j ∈ vs)
    (k : ∀ (G' : Gs) H' L', G'.K = G.K → RelS G' L' (wipe σ vs) H' (wipeEn en vs) → Same (hid H L) (hid H' L') → ok H' L')
    (ht : ∀ (D0 : Addr) (xs : List V) (σ' : St) (H' : Hp) Q, tT (G.blk D0 xs) mc σ' H' Q → tt σ' H' Q) (he : ∀ (D0 : Addr) (xs : List V) (σ' : St) (H' : Hp) Q, tE (G.blk D0 xs) (mkeep me) σ' H' Q → te σ' H' Q) :
    ∀ D0, H D0 = none → ∃ W : Nat → Nat → Hp → Prop, (∃ m, W 0 m (upd H D0 (.lst []))) ∧ ∀ i m H, W i m H →
      (J.stop i H ∧ Q (.ref D0) H) ∨ (J.go i H ∧ ∃ Nx : Hp → Prop, (∀ H', Nx H' → ∃ m', m' < m ∧ W (i + 1) m' H') ∧ ∀ x H', J.yld i H x H' → gOf G.K tg x (wipe σ vs) H' fun σ2 H2 => wipe σ2 vs = wipe σ vs ∧ tt σ2 H2 fun b H3 =>
        if b = true then te σ2 H3 fun y H4 => ∃ acc, H4 D0 = some (.lst acc) ∧ acc.length < sizeLine ∧ Nx (upd H4 D0 (.lst (acc ++ [y]))) else Nx H3) := by
  intro D0 nD
  have nB : D0 ∉ G.B := R.fresh_base nD
  have hw := (R.wipe vs)
  unfold mComp at q
  split at q
  · rename_i hno
    cases ec : compGo tg mc me (wipeEn en vs) ds [] with
    | none => rw [ec] at q; exact q.elim
    | some fin =>
      rw [ec] at q
      dsimp only at q
      let Inv : Nat → Nat → Hp → Prop := fun i m H' => i + m = ds.length ∧ ∃ (L' : List Addr) (acc : List D) (xs : List V), RelS (G.blk D0 xs) L' (wipe σ vs) H' (wipeEn en vs) ∧ Same (hid H L) (hid H' L') ∧ DqAll G.K (hid H' L') xs acc ∧
        compGo tg mc me (wipeEn en vs) (ds.drop i) acc = some fin
      refine ⟨Inv, ⟨ds.length, by omega, D0 :: L, [], [], hw.toBlk nD, hid_new nD, .nil, ec⟩, ?_⟩
      rintro i m H1 ⟨hm, L1, acc, xs, R1, s1, hacc, e1⟩
      have hD : H1 D0 = some (.lst xs) := (R1.base D0 List.mem_cons_self).2.1.trans upd_same
      have mD : D0 ∈ L1 := (R1.base D0 List.mem_cons_self).1
      have hok := k (G.blk D0 xs) H1 L1 rfl R1 s1
      by_cases hi : i < ds.length
      · obtain ⟨d, hd⟩ : ∃ d, ds[i]? = some d := ⟨ds[i], List.getElem?_eq_getElem hi⟩
        have hdrop : ds.drop i = d :: ds.drop (i + 1) := by
          rw [List.drop_eq_getElem_cons hi]
          rw [List.getElem?_eq_getElem hi] at hd
          cases hd
          rfl
        rw [hdrop] at e1
        unfold compGo at e1
        refine .inr ⟨W.go i H1 L1 hok hi, fun H' => ∃ (L' : List Addr) (acc : List D) (xs : List V), RelS (G.blk D0 xs) L' (wipe σ vs) H' (wipeEn en vs) ∧ Same (hid H L) (hid H' L') ∧ DqAll G.K (hid H' L') xs acc ∧
          compGo tg mc me (wipeEn en vs) (ds.drop (i + 1)) acc = some fin, fun H' n => ⟨m - 1, by omega, by omega, n⟩, fun x H2 hy => ?_⟩
        obtain ⟨s2, hx⟩ := W.yld i H1 L1 x H2 d hok hd hy R1.own
        have R2 := R1.grow s2
        cases e2 : setTg tg d (wipeEn en vs) with
        | none => rw [e2] at e1; cases e1
        | some en1 =>
          rw [e2] at e1
          dsimp only at e1
          obtain ⟨hl1, ho1⟩ := setTg_out e2
          refine g_run (G := G.blk D0 xs) R2 hx e2 fun σ2 R3 k3 => ?_
          have hwσ : wipe σ2 vs = wipe σ vs := by
            have := wipe_same (σ := wipe σ vs) (σ' := σ2) (vs := vs) (by rw [R2.len, R3.len, hl1]) fun j hj => k3 j fun z => hj (hsub j z)
            rw [this]
            exact wipe_same (by rw [wipe_length]) fun j hj => wipe_keeps σ vs j hj
          have hwe : wipeEn en1 vs = wipeEn en vs := by
            rw [wipeEn_same (en := wipeEn en vs) (en' := en1) hl1.symm fun j hj => ho1 j fun z => hj (hsub j z)]
            exact wipeEn_same (by rw [wipeEn_len]) fun j hj => wipeEn_out en hj
          have back : ∀ {xs' : List V} {L' : List Addr} {H' : Hp}, RelS (G.blk D0 xs') L' σ2 H' en1 → RelS (G.blk D0 xs') L' (wipe σ vs) H' (wipeEn en vs) := fun r => by
            have z := r.wipe vs
            rw [hwσ, hwe] at z
            exact z
          refine ⟨hwσ, ht D0 xs σ2 H2 _ ⟨en1, L1, R3, ?_⟩⟩
          have s12 : Same (hid H1 L1) (hid H2 L1) := hid_mono s2
          cases e3 : mc en1 with
          | stuck => rw [e3] at e1; cases e1
          | exc _ _ => rw [e3] at e1; cases e1
          | ok b en2 =>
            rw [e3] at e1
            intro H3 L3 R4 s3
            cases b with
            | false =>
              dsimp only at e1
              split at e1
              · rename_i he2
                subst he2
                rw [if_neg Bool.false_ne_true]
                exact ⟨L3, acc, xs, back R4, s1.trans (s12.trans s3), DqAll.mono (s12.trans s3) _ hacc, e1⟩
              · cases e1
            | true =>
              dsimp only at e1
              split at e1
              · rename_i he2
                subst he2
                rw [if_pos rfl]
                refine he D0 xs σ2 H3 _ ⟨en2, L3, R4, ?_⟩
                cases e4 : mkeep me en2 with
                | stuck => rw [e4] at e1; cases e1
                | exc _ _ => rw [e4] at e1; cases e1
                | ok sv en3 =>
                  rw [e4] at e1
                  cases sv with
                  | own _ => cases e1
                  | bor _ => cases e1
                  | d y =>
                    dsimp only at e1
                    split at e1
                    · rename_i hc
                      obtain ⟨he3, hlen⟩ := hc
                      subst he3
                      intro v H4 L4 R5 s4 hv
                      have hD4 : H4 D0 = some (.lst xs) := (R5.base D0 List.mem_cons_self).2.1.trans upd_same
                      have mD4 : D0 ∈ L4 := (R5.base D0 List.mem_cons_self).1
                      have st : Same (hid H1 L1) (hid H4 L4) := s12.trans (s3.trans s4)
                      refine ⟨xs, hD4, by rw [hacc.length]; exact hlen, L4, acc ++ [y], xs ++ [v], (back R5).pushBlk nB, by rw [hid_upd mD4]; exact s1.trans st, ?_, e1⟩
                      rw [hid_upd mD4]
                      exact (DqAll.mono st _ hacc).append (.cons hv .nil)
                    · cases e1
              · cases e1
      · have hi' : i = ds.length := by omega
        have hdrop : ds.drop i = [] := List.drop_eq_nil_of_le (by omega)
        rw [hdrop] at e1
        cases e1
        refine .inl ⟨W.stop i H1 L1 hok hi', ?_⟩
        have hbase := (R1.base D0 List.mem_cons_self).2.2
        have R2 : RelS G L1 (wipe σ vs) H1 (wipeEn en vs) := R1.ofBlk nB
        have nown : ∀ (j : Nat) (c : OB), en[j]? = some (some (SV.own c)) → j ∉ vs := fun j c ej mj => by
          have z := List.all_eq_true.mp hno j mj
          simp only [ej] at z
          cases z
        have R3 : RelS G L1 σ H1 en := by
          refine ⟨R2.own, R2.same, R.len, fun j sv ej => ?_, R.apart, fun a ma => ?_⟩
          · by_cases mj : j ∈ vs
            · have z := R.slot j sv ej
              cases sv with
              | d dd => obtain ⟨v, q1, q2⟩ := z; exact ⟨v, q1, Dq.mono s1 _ q2⟩
              | own c => exact absurd mj (nown j c ej)
              | bor _ => exact z
            · have z := R2.slot j sv (by rw [wipeEn_out _ mj]; exact ej)
              rw [wipe_keeps σ vs j mj] at z
              exact z
          · obtain ⟨h1, h2, h3⟩ := R2.base a ma
            refine ⟨h1, h2, fun j c ej => ?_⟩
            have mj := nown j c ej
            have z := h3 j c (by rw [wipeEn_out _ mj]; exact ej)
            rw [wipe_keeps σ vs j mj] at z
            exact z
        refine q _ H1 L1 R3 s1 ⟨D0, .lst xs, rfl, mD, nB, hD, hacc, fun j c ej => ?_⟩
        have mj := nown j c ej
        have z := hbase j c (by rw [wipeEn_out _ mj]; exact ej)
        rw [wipe_keeps σ vs j mj] at z
        exact z
  · exact q.elim
end
/-- over a list, a tuple, a text -/
noncomputable def mLc (tg : Tg) (vs : List Nat) (mi : M SV) (mc : M Bool) (me : M SV) : M SV := mbind (mfrz mi) fun sv en => match sv with
  | .d (.list ds) => mComp tg vs mc me ds en
  | .d (.tuple ds) => mComp tg vs mc me ds en
  | .d (.str z) => mComp tg vs mc me (signs z) en
  | .bor i => (match en[i]? with
    | some (some (.own (.lst ds))) => if vs.contains i then .stuck else mComp tg vs mc me ds en
    | _ => .stuck)
  | _ => .stuck
noncomputable def mLcR (tg : Tg) (vs : List Nat) (mas : M (List SV)) (mc : M Bool) (me : M SV) : M SV := mbind mas fun svs en => match looks en svs with
  | some [.int j] => if -(2 ^ 62) ≤ j ∧ j < 2 ^ 62 then mComp tg vs mc me (rngD 0 j.toNat) en else .stuck
  | _ => .stuck
section
variable {X : Cx} {G : Gs} {elt t iter : Expr} {ifs : List Expr} {scope : Scope} {own : List (Str × Nat)} {mi me : M SV} {mc : M Bool} {tg : Tg} {pos : Pos} {tt : TT} {te : TE}
theorem lc_imp (hsub : ∀ j ∈ tg.slots, j ∈ own.map (·.2)) (ht : ∀ (D0 : Addr) (xs : List V) (σ' : St) (H' : Hp) Q, tT (G.blk D0 xs) mc σ' H' Q → tt σ' H' Q) (he : ∀ (D0 : Addr) (xs : List V) (σ' : St) (H' : Hp) Q, tE (G.blk D0 xs) (mkeep me) σ' H' Q → te σ' H' Q)
    (σ : St) (H : Hp) (Q : VK) (h : tE G (mLc tg (own.map (·.2)) mi mc me) σ H Q) : tLc (iAny G.K (tE G (mfrz mi))) (gOf G.K tg) tt te (own.map (·.2)) σ H Q := by
  obtain ⟨en, L, R, q⟩ := h
  refine (seqE R q).mono fun v H1 ⟨en1, L1, sv, R1, s1, r1, q1⟩ => ?_
  cases sv with
  | own _ => exact q1.elim
  | bor i =>
    obtain ⟨e1, b, e2⟩ := r1
    simp only [e2] at q1
    cases b with
    | dct _ => exact q1.elim
    | lst ds =>
      dsimp only at q1
      split at q1
      · exact q1.elim
      · rename_i hni
        obtain ⟨a, xs, e3, ma, ho, hr⟩ := slot_lst R1 e2
        rw [e1] at e3
        cases e3
        have mi' : i ∉ own.map (·.2) := fun z => hni (List.contains_iff_mem.mpr z)
        refine .inl ⟨a, xs, rfl, .of ho, comp_run walks_list R1 q1 hsub (fun G' H' L' hK R' s' => ?_) ht he⟩
        obtain ⟨a', xs', e4, _, ho', hr'⟩ := slot_lst R' (i := i) (ds := ds) (by rw [wipeEn_out _ mi']; exact e2)
        rw [wipe_keeps σ _ i mi', e1] at e4
        cases e4
        rw [hK] at hr'
        exact ⟨xs', ho', hr'⟩
  | d d =>
    cases d with
    | list ds =>
      cases r1 with
      | lst hs ha => exact .inl ⟨_, _, rfl, .of (hid_same _ _ hs), comp_run walks_list R1 q1 hsub (fun G' H' L' hK R' s' => ⟨_, hid_same _ _ (s' _ _ hs), DqAll.mono s' _ ha⟩) ht he⟩
    | tuple ds =>
      cases r1 with
      | tup hs ha => exact .inr (.inl ⟨_, _, rfl, sqT_mono hid_same hs, comp_run walks_tup R1 q1 hsub (fun G' H' L' hK R' s' => ⟨_, sqT_mono hid_same (sqT_mono s' hs), DqAll.mono s' _ ha⟩) ht he⟩)
    | str z =>
      cases r1
      exact .inr (.inr ⟨z, rfl, comp_run walks_str R1 q1 hsub (fun _ _ _ _ _ _ => trivial) ht he⟩)
    | _ => exact q1.elim
theorem lcR_imp (hsub : ∀ j ∈ tg.slots, j ∈ own.map (·.2)) (ht : ∀ (D0 : Addr) (xs : List V) (σ' : St) (H' : Hp) Q, tT (G.blk D0 xs) mc σ' H' Q → tt σ' H' Q) (he : ∀ (D0 : Addr) (xs : List V) (σ' : St) (H' : Hp) Q, tE (G.blk D0 xs) (mkeep me) σ' H' Q → te σ' H' Q)
    {mas : M (List SV)} (σ : St) (H : Hp) (Q : VK) (h : tE G (mLcR tg (own.map (·.2)) mas mc me) σ H Q) : tLc (iRng1 (tA G mas)) (gOf G.K tg) tt te (own.map (·.2)) σ H Q := by
  obtain ⟨en, L, R, q⟩ := h
  refine (seqAE R q).mono fun vs H1 ⟨en1, L1, svs, R1, s1, r1, q1⟩ => ?_
  cases e : looks en1 svs with
  | none => simp only [e] at q1; exact q1.elim
  | some ds =>
    simp only [e] at q1
    have o := RVs.opd R1 (Same.refl _) r1 e
    split at q1
    · rename_i j heq
      cases heq
      split at q1
      · rename_i hj
        cases o with
        | cons h t => cases t; exact ⟨j, by rw [h.int], hj.1, hj.2, comp_run walks_rng R1 q1 hsub (fun _ _ _ _ _ _ => trivial) ht he⟩
      · exact q1.elim
    · exact q1.elim
end
end L2

namespace L2
open PySem PySem.Spec PyProof.Rows

theorem PE.ex {ι : Sort u} {X : Cx} {e : Expr} {t : ι → TE} (h : ∀ i, PE X e (t i)) : PE X e (fun σ H Q => ∃ i, t i σ H Q) := ⟨fun pins s σ H Q I ⟨i, q⟩ => (h i).run pins s σ H Q I q⟩
theorem PTs.ex {ι : Sort u} {X : Cx} {e : List Expr} {t : ι → TT} (h : ∀ i, PTs X e (t i)) : PTs X e (fun σ H Q => ∃ i, t i σ H Q) := ⟨fun pins s σ H Q I ⟨i, q⟩ => (h i).run pins s σ H Q I q⟩
theorem PTs.imp {X : Cx} {e : List Expr} {t u : TT} (h : PTs X e t) (k : ∀ σ H Q, u σ H Q → t σ H Q) : PTs X e u := ⟨fun pins s σ H Q I q => h.run pins s σ H Q I (k _ _ _ q)⟩
def mYes : M Bool := mpure true
section
variable {X : Cx} {G : Gs}
theorem jts_nil : PTs X [] (tT G mYes) := pts_nil.imp fun σ H Q ⟨en, L, R, q⟩ => q H L R (Same.refl _)
theorem jts_one {c : Expr} {m : M Bool} (h : PT X c (tT G m)) : PTs X [c] (tT G m) := pts_one h
end
/-! ### list comprehensions -/
section
variable {X : Cx} {G : Gs} {elt t iter : Expr} {ifs : List Expr} {scope : Scope} {own : List (Str × Nat)} {mi me : M SV} {mc : M Bool} {tg : Tg} {pos : Pos}
/-- what stands in the block -/
structure InBlk (X : Cx) (G : Gs) (scope : Scope) (t elt : Expr) (ifs : List Expr) (tg : Tg) (mc : M Bool) (me : M SV) : Prop where
  g : ∀ (s : Shared) (H : Hp) (C : Addr) (cl : List (Str × Addr)) (fp : List Addr), PG (X.blk s H scope (compEnvC scope cl C X.env) fp) t (gOf X.K tg)
  c : ∀ (s : Shared) (H : Hp) (C : Addr) (cl : List (Str × Addr)) (fp : List Addr) (D0 : Addr) (xs : List V), PTs (X.blk s H scope (compEnvC scope cl C X.env) fp) ifs (tT (G.blk D0 xs) mc)
  e : ∀ (s : Shared) (H : Hp) (C : Addr) (cl : List (Str × Addr)) (fp : List Addr) (D0 : Addr) (xs : List V), PE (X.blk s H scope (compEnvC scope cl C X.env) fp) elt (tE (G.blk D0 xs) me)
abbrev exT (G : Gs) (mc : M Bool) : TT := fun σ H Q => ∃ p : Addr × List V, tT (G.blk p.1 p.2) mc σ H Q
abbrev exE (G : Gs) (me : M SV) : TE := fun σ H Q => ∃ p : Addr × List V, tE (G.blk p.1 p.2) (mkeep me) σ H Q
theorem je_lc (hc : X.calm = true) (hN : X.N.Nodup) (hK : X.K = G.K) (hi : PE X iter (tE G mi)) (ok : BlkOk X.N X.env.scope scope own) (B : InBlk X G scope t elt ifs tg mc me) (hsub : ∀ j ∈ tg.slots, j ∈ own.map (·.2))
    (hs : ∀ x, foldedSetIterable iter X.env x = pure x := by intro _; rfl) : PE X (.ListComp elt [⟨t, iter, ifs, 0⟩] scope pos) (tE G (mLc tg (own.map (·.2)) mi mc me)) :=
  (pe_lc (tt := exT G mc) (te := exE G me) hc hN (pi_any (je_frz hi)) ok B.g (fun s H C cl fp => PTs.ex fun p => B.c s H C cl fp p.1 p.2) (fun s H C cl fp => PE.ex fun p => je_keep (B.e s H C cl fp p.1 p.2)) hs).imp fun σ H Q h => by
    rw [hK]
    exact lc_imp hsub (fun D0 xs _ _ _ q => ⟨(D0, xs), q⟩) (fun D0 xs _ _ _ q => ⟨(D0, xs), q⟩) σ H Q h
theorem je_lcR {a : Expr} {mas : M (List SV)} {p pos' : Pos} (hc : X.calm = true) (hN : X.N.Nodup) (hK : X.K = G.K) (hgl : Gl X "range") (hm : X.mg "range" = none) (ha : PA X [a] (tA G mas)) (ok : BlkOk X.N X.env.scope scope own) (B : InBlk X G scope t elt ifs tg mc me) (hsub : ∀ j ∈ tg.slots, j ∈ own.map (·.2))
    (hse : starEach [a] X.env = [(false, eval a X.env)] := by rfl) (hs : ∀ x, foldedSetIterable (.Call (.Name "range" p) [a] [] pos') X.env x = pure x := by intro _; rfl) : PE X (.ListComp elt [⟨t, .Call (.Name "range" p) [a] [] pos', ifs, 0⟩] scope pos) (tE G (mLcR tg (own.map (·.2)) mas mc me)) :=
  (pe_lc (tt := exT G mc) (te := exE G me) hc hN (pi_range1 hgl hm ha hse) ok B.g (fun s H C cl fp => PTs.ex fun p => B.c s H C cl fp p.1 p.2) (fun s H C cl fp => PE.ex fun p => je_keep (B.e s H C cl fp p.1 p.2)) hs).imp fun σ H Q h => by
    rw [hK]
    exact lcR_imp hsub (fun D0 xs _ _ _ q => ⟨(D0, xs), q⟩) (fun D0 xs _ _ _ q => ⟨(D0, xs), q⟩) σ H Q h
/-- name = [..] -/
theorem js_setLc (i : Nat) {y : Str} {py spos : Pos} (hc : X.calm = true) (hN : X.N.Nodup) (hy : X.N[i]? = some y) (hyl : X.env.scope.names.lookup y = some .local) (hsw : swapsWith (.ListComp elt [⟨t, iter, ifs, 0⟩] scope pos) (some (.Name y py)) spos.line X.env = pure true) (hK : X.K = G.K) (hi : PE X iter (tE G mi))
    (ok : BlkOk X.N X.env.scope scope own) (B : InBlk X G scope t elt ifs tg mc me) (hsub : ∀ j ∈ tg.slots, j ∈ own.map (·.2))
    (hs : ∀ x, foldedSetIterable iter X.env x = pure x := by intro _; rfl) : PS X (.Assign [.Name y py] (.ListComp elt [⟨t, iter, ifs, 0⟩] scope pos) spos) (tS G [i] (mSet i (mLc tg (own.map (·.2)) mi mc me))) :=
  (ps_setLc (tt := exT G mc) (te := exE G me) hc hN hy hyl hsw (pi_any (je_frz hi)) ok B.g (fun s H C cl fp => PTs.ex fun p => B.c s H C cl fp p.1 p.2) (fun s H C cl fp => PE.ex fun p => je_keep (B.e s H C cl fp p.1 p.2)) hs).imp fun E σ H h => by
    rw [hK]
    exact lc_imp hsub (fun D0 xs _ _ _ q => ⟨(D0, xs), q⟩) (fun D0 xs _ _ _ q => ⟨(D0, xs), q⟩) σ H _ (set_imp E σ H h)
theorem js_setLcR (i : Nat) {a : Expr} {mas : M (List SV)} {p pos' : Pos} {y : Str} {py spos : Pos} (hc : X.calm = true) (hN : X.N.Nodup) (hy : X.N[i]? = some y) (hyl : X.env.scope.names.lookup y = some .local) (hsw : swapsWith (.ListComp elt [⟨t, .Call (.Name "range" p) [a] [] pos', ifs, 0⟩] scope pos) (some (.Name y py)) spos.line X.env = pure true) (hK : X.K = G.K) (hgl : Gl X "range") (hm : X.mg "range" = none) (ha : PA X [a] (tA G mas))
    (ok : BlkOk X.N X.env.scope scope own) (B : InBlk X G scope t elt ifs tg mc me) (hsub : ∀ j ∈ tg.slots, j ∈ own.map (·.2)) (hse : starEach [a] X.env = [(false, eval a X.env)] := by rfl)
    (hs : ∀ x, foldedSetIterable (.Call (.Name "range" p) [a] [] pos') X.env x = pure x := by intro _; rfl) : PS X (.Assign [.Name y py] (.ListComp elt [⟨t, .Call (.Name "range" p) [a] [] pos', ifs, 0⟩] scope pos) spos) (tS G [i] (mSet i (mLcR tg (own.map (·.2)) mas mc me))) :=
  (ps_setLc (tt := exT G mc) (te := exE G me) hc hN hy hyl hsw (pi_range1 hgl hm ha hse) ok B.g (fun s H C cl fp => PTs.ex fun p => B.c s H C cl fp p.1 p.2) (fun s H C cl fp => PE.ex fun p => je_keep (B.e s H C cl fp p.1 p.2)) hs).imp fun E σ H h => by
    rw [hK]
    exact lcR_imp hsub (fun D0 xs _ _ _ q => ⟨(D0, xs), q⟩) (fun D0 xs _ _ _ q => ⟨(D0, xs), q⟩) σ H _ (set_imp E σ H h)
end
/-! ### a op b op c -/
def mChain (f g : D → D → M SV) (ma mb mc : M SV) : M SV := mbind (mfrz ma) fun a => mbind (mfrz mb) fun b => fun en => match look en a, look en b with
  | some x, some y => (mbind (f x y) fun r => match r with
    | .d (.bool true) => mOp1 (fun z => g y z) mc
    | .d (.bool false) => mpure (.d (.bool false))
    | _ => mstuck) en
  | _, _ => .stuck
/-- the tests' own functions leave the state -/
def Quiet (f : D → D → M SV) : Prop := ∀ x y en, f x y en = .stuck ∨ ∃ d, f x y en = .ok (.d d) en
section
variable {X : Cx} {G : Gs} {a b c : Expr} {ma mb mc : M SV} {r r' : R2} {f g : D → D → M SV} {pos : Pos}
theorem chain_imp (F : Fits2 G r f) (F' : Fits2 G r' g) (hq : Quiet f) (hK : ∀ d, isFlat d = true → True) (hfl : ∀ x y en d, f x y en = .ok (.d d) en → isFlat y = true) (σ : St) (H : Hp) (Q : VK) (h : tE G (mChain f g ma mb mc) σ H Q) : tChain r r' (tE G (mfrz ma)) (tE G (mfrz mb)) (tE G (mfrz mc)) σ H Q := by
  obtain ⟨en, L, R, q⟩ := h
  refine (seqE R q).mono fun x H1 ⟨en1, L1, sv1, R1, s1, r1, q1⟩ => ?_
  refine (seqE R1 q1).mono fun y H2 ⟨en2, L2, sv2, R2, s2, r2, q2⟩ => ?_
  cases e1 : look en2 sv1 with
  | none => simp only [e1] at q2; exact q2.elim
  | some d1 =>
    cases e2 : look en2 sv2 with
    | none => simp only [e1, e2] at q2; exact q2.elim
    | some d2 =>
      simp only [e1, e2] at q2
      have o1 := RV.opd R2 s2 r1 e1
      have o2 := RV.opd R2 (Same.refl _) r2 e2
      refine F σ H2 L2 en2 x y d1 d2 _ R2 o1 o2 ?_
      rcases hq d1 d2 en2 with e3 | ⟨d, e3⟩
      · unfold mbind at q2; rw [e3] at q2; exact q2.elim
      · rw [e3]
        unfold mbind at q2
        rw [e3] at q2
        dsimp only at q2
        intro v H3 L3 R3 s3 hv
        have q3 := q2.from s3
        cases d with
        | bool k =>
          cases hv
          refine ⟨k, rfl, ?_⟩
          cases k with
          | false => exact q3 _ H3 L3 R3 (Same.refl _) (.bl false)
          | true =>
            rw [if_pos rfl]
            have hf := hfl _ _ _ _ e3
            have o2' : Dq G.K (hid H3 L3) y d2 := Dq.mono s3 _ (o2.flat hf)
            refine op1_imp (r := fun w H4 Q => r' y w H4 Q) (f := fun z => g d2 z) (ma := mc) (fun σ' H' L' en' w dw Q' R' ow q' => ?_) σ H3 Q ⟨en2, L3, R3, q3⟩
            have oy : Opd G.K H' L' y d2 := .inl (by
              have hz : ∀ {K : Kf} {H H' : Hp}, Dq K H y d2 → isFlat d2 = true → Dq K H' y d2 := fun h f => by
                cases h <;> first | (cases f; done) | constructor
              exact hz o2' hf)
            exact F' σ' H' L' en' y w d2 dw Q' R' oy ow q'
        | _ => exact q3.elim
theorem je_chain {op op' : CmpOp} (ho : OpR X (compareOp op) r) (ho' : OpR X (compareOp op') r') (F : Fits2 G r f) (F' : Fits2 G r' g) (hq : Quiet f) (hfl : ∀ x y en d, f x y en = .ok (.d d) en → isFlat y = true) (ha : PE X a (tE G ma)) (hb : PE X b (tE G mb)) (hc : PE X c (tE G mc))
    (hm : lastMarks [op, op'] [b, c] = false := by with_unfolding_all rfl) : PE X (.Compare a [op, op'] [b, c] pos) (tE G (mChain f g ma mb mc)) := (pe_chain ho ho' (je_frz ha) (je_frz hb) (je_frz hc) hm).imp (chain_imp F F' hq (fun _ _ => trivial) hfl)
theorem jt_chain {op op' : CmpOp} (ho : OpR X (compareOp op) r) (ho' : OpR X (compareOp op') r') (F : Fits2 G r f) (F' : Fits2 G r' g) (hq : Quiet f) (hfl : ∀ x y en d, f x y en = .ok (.d d) en → isFlat y = true) (ha : PE X a (tE G ma)) (hb : PE X b (tE G mb)) (hc : PE X c (tE G mc))
    (hm : lastMarks [op, op'] [b, c] = false := by with_unfolding_all rfl) : PT X (.Compare a [op, op'] [b, c] pos) (tT G (mB (mChain f g ma mb mc))) := (pt_chain ho ho' (je_frz ha) (je_frz hb) (je_frz hc) hm).imp (test_imp (chain_imp F F' hq (fun _ _ => trivial) hfl))
end
theorem quiet_of {g : D → D → Option D} {f : D → D → M SV} (h : ∀ x y, f x y = ivD (g x y)) : Quiet f := fun x y en => by
  rw [h]
  unfold ivD
  cases g x y with
  | none => exact .inl rfl
  | some d => exact .inr ⟨d, rfl⟩
theorem quiet_le : Quiet dLe := fun x y en => by
  unfold dLe
  split
  · exact .inr ⟨_, rfl⟩
  · exact .inr ⟨_, rfl⟩
  · exact .inl rfl
theorem flat_le : ∀ x y en d, dLe x y en = .ok (.d d) en → isFlat y = true := fun x y en d e => by
  unfold dLe at e
  split at e
  · rfl
  · rfl
  · cases e
theorem quiet_lt : Quiet dLt := fun x y en => by
  unfold dLt
  split
  · exact .inr ⟨_, rfl⟩
  · exact .inr ⟨_, rfl⟩
  · exact .inl rfl
theorem flat_lt : ∀ x y en d, dLt x y en = .ok (.d d) en → isFlat y = true := fun x y en d e => by
  unfold dLt at e
  split at e
  · rfl
  · rfl
  · cases e
end L2

namespace L2
open PySem PySem.Spec PyProof.Rows

/-! ### * of a list -/
def rMulL : R2 := fun x y H Q => rMulA x y H Q ∨ rRep x y H Q
theorem op_mulL {X : Cx} : OpR X (binaryOp .Mult) rMulL := op_mulA.or op_rep
def repD (ds : List D) (k : Nat) : List D := (List.replicate k ds).flatten
def dMulL : D → D → M SV
  | .list ds, .int k => if (-(2 ^ 63) ≤ k ∧ k < 2 ^ 63) ∧ ds.length * k.toNat ≤ sizeLine then mpure (.own (.lst (repD ds k.toNat))) else mstuck
  | x, y => dMulA x y
theorem DqAll.rep {K : Kf} {H : Hp} {vs : List V} {ds : List D} (h : DqAll K H vs ds) : ∀ k : Nat, DqAll K H (List.replicate k vs).flatten (List.replicate k ds).flatten
  | 0 => .nil
  | k + 1 => by
    rw [List.replicate_succ, List.replicate_succ, List.flatten_cons, List.flatten_cons]
    exact h.append (DqAll.rep h k)
section
variable {G : Gs}
theorem fit_mulL : Fits2 G rMulL dMulL := by
  intro σ H L en x y dx dy Q R ox oy q
  unfold dMulL at q
  split at q
  · rename_i ds k
    split at q
    · rename_i h
      obtain ⟨a, xs, rfl, h1, h2⟩ := ox.list
      exact .inr ⟨a, k, xs, rfl, oy.int, h1, h.1.1, h.1.2, by rw [h2.length]; exact h.2, fun p n => post_lst R n (h2.rep k.toNat) q⟩
    · exact q.elim
  · exact .inl (fit_mulA σ H L en x y _ _ Q R ox oy q)
end
/-! ### xs.insert(i, y) -/
def mInsert (i : Nat) (mk me : M SV) : M Ct := fun en => match en[i]? with
  | some (some (.own (.lst _))) => mbind (mfrz mk) (fun sk => mbind (mkeep me) fun sv en => match look en sk, sv, en[i]? with
    | some (.int k), .d d, some (some (.own (.lst ds))) => if ds.length < sizeLine ∧ 0 ≤ k ∧ k < 2 ^ 63 then .ok .nx (en.set i (some (.own (.lst (ds.take k.toNat ++ [d] ++ ds.drop k.toNat))))) else .stuck
    | _, _, _ => .stuck) en
  | _ => .stuck
section
variable {X : Cx} {G : Gs} {e e2 : Expr} {me mk : M SV} {pos : Pos}
theorem js_insert (i : Nat) {x : Str} {p apos cpos : Pos} (hK : X.K = G.K) (hN : X.N[i]? = some x) (hv : Vis X.env.scope x) (hk : PE X e (tE G mk)) (he : PE X e2 (tE G me)) (hd : (x == ("__debug__" : Str)) = false := by decide) (hcd : (x == ("__classdict__" : Str)) = false := by decide)
    (hbase : attributeBase (.Name x p) "insert" X.env (eval (.Name x p) X.env) = eval (.Name x p) X.env := by rfl)
    (hfew : ((backTo cpos (starEach [e, e2] X.env)).all (fun x => !x.1) && (backToKw cpos (keywordEach [] X.env)).all (fun x => x.1.isSome) && decide (([e, e2] : List Expr).length + ([] : List Keyword).length + (if ([] : List Keyword).isEmpty then 0 else 1) < 30)) = true := by rfl)
    (hline : (apos.endLine == cpos.line) = true := by rfl) (hse : starEach [e, e2] X.env = (false, eval e X.env) :: starEach [e2] X.env := by rfl) (hse2 : starEach [e2] X.env = (false, eval e2 X.env) :: starEach [] X.env := by rfl)
    (hpl : (backTo cpos (starEach [e2] X.env)).any (·.1) = false := by rfl)
    (hs : swapsWith (.Call (.Attribute (.Name x p) "insert" apos) [e, e2] [] cpos) none pos.line X.env = pure false := by rfl) :
    PS X (.Expr (.Call (.Attribute (.Name x p) "insert" apos) [e, e2] [] cpos) pos) (tS G [] (mInsert i mk me)) :=
  (ps_expr (pe_bm PySem.F.plainAttrs_list PySem.F.slot_list_insert PySem.F.type_list_insert mt_insert (pe_var hN hv hd hcd) (pa_cons (je_frz hk) (pa_cons (je_keep he) pa_nil hse2) hse) hbase hfew hline hse hpl) hs).imp fun E σ H h => by
    obtain ⟨en, L, R, q⟩ := h
    unfold mInsert at q
    split at q
    · rename_i ds0 e0
      obtain ⟨a, xs0, e1, m0, ho0, hr0⟩ := slot_lst R e0
      refine ⟨.ref a, e1, .inl ⟨rfl, xs0, .of ho0⟩, ?_⟩
      refine (seqES R q).mono fun k H1 ⟨en1, L1, sk, R1, s1, r1, q1⟩ => ?_
      refine (seqES R1 q1).mono fun y H2 ⟨en2, L2, sv, R2, s2, r2, q2⟩ => ?_
      split at q2
      · rename_i kk d ds ek e2'
        split at q2
        · rename_i hc
          obtain ⟨a', xs, e3, m, ho, hr⟩ := slot_lst R2 e2'
          rw [e1] at e3
          cases e3
          have ok := RV.opd R2 s2 r1 ek
          refine ⟨a, xs, kk, y, rfl, by rw [ok.int], ho, by rw [hr.length]; exact hc.1, hc.2.1, hc.2.2, ?_⟩
          exact q2 σ _ L2 (R2.put e2' e1 m (b' := .lst (ds.take kk.toNat ++ [d] ++ ds.drop kk.toNat)) (((hr.take kk.toNat).append (.cons r2 .nil)).append (hr.drop kk.toNat))) (by rw [hid_upd m]; exact Same.refl _) Keeps.refl
        · exact q2.elim
      · exact q2.elim
    · exact q.elim
end
/-! ### slices -/
def cutD (ds : List D) (lo hi : Option Int) : List D := (ds.drop (HT.sIx ds.length 0 lo)).take (HT.sIx ds.length ds.length hi - HT.sIx ds.length 0 lo)
def rSlAll (K : Kf) : V → Option Int → Option Int → Hp → VK → Prop := fun x lo hi H Q => rSlL K x lo hi H Q ∨ rSlA K x lo hi H Q ∨ rSlS x lo hi H Q
theorem sl_all {X : Cx} : SlR X (rSlAll X.K) := sl_list.or (sl_tupA.or sl_str)
def dSl : D → Option Int → Option Int → M SV
  | .list ds, lo, hi => mpure (.own (.lst (cutD ds lo hi)))
  | .tuple ds, lo, hi => mpure (.d (.tuple (cutD ds lo hi)))
  | .str z, lo, hi => if z.length ≤ sizeLine then mpure (.d (.str (cutS z lo hi))) else mstuck
  | .dict [(.none, .list ds)], lo, hi => mpure (.own (.lst (cutD ds lo hi)))
  | _, _, _ => mstuck
theorem DqAll.cut {K : Kf} {H : Hp} {vs : List V} {ds : List D} (h : DqAll K H vs ds) (lo hi : Option Int) : DqAll K H (cutV vs lo hi) (cutD ds lo hi) := by
  unfold cutV cutD
  rw [h.length]
  exact (h.drop _).take _
section
variable {G : Gs}
theorem sl_fit {σ : St} {H : Hp} {L : List Addr} {en : En} {x : V} {dx : D} {lo hi : Option Int} {Q : VK} (R : RelS G L σ H en) (ox : Opd G.K H L x dx) (q : PostE G σ H L (dSl dx lo hi en) Q) : rSlAll G.K x lo hi H Q := by
  unfold dSl at q
  split at q
  · obtain ⟨a, xs, rfl, h1, h2⟩ := ox.list'
    exact .inl ⟨a, xs, rfl, h1, fun p n => post_lst R n (h2.cut lo hi) q⟩
  · obtain ⟨a, xs, rfl, h1, h2⟩ := ox.tupleD
    refine .inr (.inl ⟨a, xs, rfl, sqT_mono hid_same h1, fun h => ?_, fun _ p n => post_tup R n (h2.cut lo hi) q⟩)
    refine post_d R (.tup h1 ?_) q
    have e : cutV xs lo hi = xs := by
      unfold cutV
      rw [h.1, h.2, List.drop_zero, Nat.sub_zero, List.take_length]
    have z := h2.cut lo hi
    rw [e] at z
    exact z
  · split at q
    · rename_i h
      exact .inr (.inr ⟨_, ox.str, h, post_d R (.str _) q⟩)
    · exact q.elim
  · rename_i ds
    have dqi : ∀ ns : List Int, DqAll G.K (hid H L) (ns.map V.int) (ns.map .int) := fun ns => by
      induction ns with
      | nil => exact .nil
      | cons i r ih => exact .cons (.int i) ih
    rcases ox.dct with ⟨a, ns, rfl, e2, hs⟩ | ⟨a, kvs, ks, rfl, e2, _⟩
    · injection e2 with e2 _
      injection e2 with _ e2
      injection e2 with e2
      subst e2
      exact .inl ⟨a, _, rfl, hs, fun p n => post_lst R n ((dqi ns).cut lo hi) q⟩
    · cases ks with
      | nil => cases e2
      | cons p r =>
        injection e2 with e2 _
        injection e2 with e2 _
        cases h1 : p.1 <;> (rw [h1] at e2; exact nomatch e2)
  · exact q.elim
def mSl2 (ma : M SV) (lo hi : Option (M SV)) : M SV := mbind (mfrz ma) fun a => match lo, hi with
  | none, none => fun en => match look en a with
    | some x => dSl x none none en
    | none => .stuck
  | some ml, none => mbind (mfrz ml) fun l en => match look en a, look en l with
    | some x, some (.int i) => dSl x (some i) none en
    | _, _ => .stuck
  | none, some mh => mbind (mfrz mh) fun h en => match look en a, look en h with
    | some x, some (.int j) => dSl x none (some j) en
    | _, _ => .stuck
  | some ml, some mh => mbind (mfrz ml) fun l en => match look en l with
    | some (.int i) => mbind (mfrz mh) (fun h en => match look en a, look en h with
      | some x, some (.int j) => dSl x (some i) (some j) en
      | _, _ => .stuck) en
    | _ => .stuck
variable {X : Cx} {e lo hi : Expr} {ma ml mh : M SV} {pos p2 : Pos}
theorem je_sl (hK : X.K = G.K) (he : PE X e (tE G ma)) : PE X (.Subscript e (.Slice none none none p2) pos) (tE G (mSl2 ma none none)) := (pe_slice sl_all (je_frz he) po_none po_none).imp fun σ H Q h => by
  obtain ⟨en, L, R, q⟩ := h
  refine (seqE R q).mono fun x H1 ⟨en1, L1, sv1, R1, s1, r1, q1⟩ => ?_
  rw [hK]
  cases e1 : look en1 sv1 with
  | none => simp only [e1] at q1; exact q1.elim
  | some dx =>
    simp only [e1] at q1
    exact sl_fit R1 (RV.opd R1 (Same.refl _) r1 e1) q1
theorem je_slL (hK : X.K = G.K) (he : PE X e (tE G ma)) (hl : PE X lo (tE G ml)) : PE X (.Subscript e (.Slice (some lo) none none p2) pos) (tE G (mSl2 ma (some ml) none)) := (pe_slice sl_all (je_frz he) (po_some (je_frz hl)) po_none).imp fun σ H Q h => by
  obtain ⟨en, L, R, q⟩ := h
  refine (seqE R q).mono fun x H1 ⟨en1, L1, sv1, R1, s1, r1, q1⟩ => ?_
  refine (seqE R1 q1).mono fun y H2 ⟨en2, L2, sv2, R2, s2, r2, q2⟩ => ?_
  rw [hK]
  split at q2
  · rename_i dx i e1 e2
    have oy := RV.opd R2 (Same.refl _) r2 e2
    exact ⟨i, oy.int, sl_fit R2 (RV.opd R2 s2 r1 e1) q2⟩
  · exact q2.elim
theorem je_slH (hK : X.K = G.K) (he : PE X e (tE G ma)) (hh : PE X hi (tE G mh)) : PE X (.Subscript e (.Slice none (some hi) none p2) pos) (tE G (mSl2 ma none (some mh))) := (pe_slice sl_all (je_frz he) po_none (po_some (je_frz hh))).imp fun σ H Q h => by
  obtain ⟨en, L, R, q⟩ := h
  refine (seqE R q).mono fun x H1 ⟨en1, L1, sv1, R1, s1, r1, q1⟩ => ?_
  refine (seqE R1 q1).mono fun y H2 ⟨en2, L2, sv2, R2, s2, r2, q2⟩ => ?_
  rw [hK]
  split at q2
  · rename_i dx i e1 e2
    have oy := RV.opd R2 (Same.refl _) r2 e2
    exact ⟨i, oy.int, sl_fit R2 (RV.opd R2 s2 r1 e1) q2⟩
  · exact q2.elim
theorem je_slLH (hK : X.K = G.K) (he : PE X e (tE G ma)) (hl : PE X lo (tE G ml)) (hh : PE X hi (tE G mh)) : PE X (.Subscript e (.Slice (some lo) (some hi) none p2) pos) (tE G (mSl2 ma (some ml) (some mh))) := (pe_slice sl_all (je_frz he) (po_some (je_frz hl)) (po_some (je_frz hh))).imp fun σ H Q h => by
  obtain ⟨en, L, R, q⟩ := h
  refine (seqE R q).mono fun x H1 ⟨en1, L1, sv1, R1, s1, r1, q1⟩ => ?_
  refine (seqE R1 q1).mono fun y H2 ⟨en2, L2, sv2, R2, s2, r2, q2⟩ => ?_
  split at q2
  · rename_i i e2
    have oy := RV.opd R2 (Same.refl _) r2 e2
    refine ⟨i, oy.int, ?_⟩
    refine (seqE R2 q2).mono fun z H3 ⟨en3, L3, sv3, R3, s3, r3, q3⟩ => ?_
    rw [hK]
    split at q3
    · rename_i dx j e1 e3
      have oz := RV.opd R3 (Same.refl _) r3 e3
      exact ⟨j, oz.int, sl_fit R3 (RV.opd R3 (s2.trans s3) r1 e1) q3⟩
    · exact q3.elim
  · exact q2.elim
end
/-! ### f(k = v, ..): no argument by its place -/
section
variable {X : Cx} {G : Gs} {e : Expr} {kws : List Keyword} {m : M SV} {r : M (List SV)} {nm : Option Str} {kpos : Pos}
theorem jk_nil : PK X [] (tA G mNil) := ⟨fun pos pins s σ H Q I h => pk_nil.run pos pins s σ H Q I (by
  obtain ⟨en, L, R, q⟩ := h
  exact q _ H L R (Same.refl _) .nil)⟩
theorem cons_imp (σ : St) (H : Hp) (Q : List V → Hp → Prop) (h : tA G (mCons m r) σ H Q) : tCons (tE G (mfrz m)) (tA G r) σ H Q := by
  obtain ⟨en, L, R, q⟩ := h
  refine (seqA R q).mono fun v H1 ⟨en1, L1, sv1, R1, s1, r1, q1⟩ => ?_
  refine (seqAA R1 q1).mono fun vs H2 ⟨en2, L2, svs, R2, s2, r2, q2⟩ => ?_
  by_cases hl : lentOk en2 sv1 = true
  · simp only [hl, if_true] at q2
    have n : ∀ b, sv1 ≠ .own b := fun b z => by subst z; cases hl
    refine q2 (v :: vs) H2 L2 R2 (Same.refl _) (.cons ⟨RV.later R2 s2 r1 n fun i e => ?_, n⟩ r2)
    subst e
    unfold lentOk at hl
    cases q : en2[i]? with
    | none => simp [q] at hl
    | some o => cases o with
      | none => simp [q] at hl
      | some s => cases s with
        | own b => exact ⟨b, rfl⟩
        | d _ => simp [q] at hl
        | bor _ => simp [q] at hl
  · simp only [hl] at q2
    exact q2.elim
theorem jk_cons (ha : PE X e (tE G m)) (hr : PK X kws (tA G r)) : PK X (⟨nm, e, kpos⟩ :: kws) (tA G (mCons m r)) :=
  ⟨fun pos pins s σ H Q I h => (pk_cons (je_frz ha) hr).run pos pins s σ H Q I (cons_imp σ H Q h)⟩
variable {k : Nat} {f : Addr} {fd : FuncData} {ps ks : List Str} {F : Fm} {mas : M (List SV)} {x : Str} {p pos : Pos}
/-- names in the parameters' own order -/
def KwB (K : Kf) (fd : FuncData) (ps : List Str) : Prop := ∀ (s : Shared) (us : List Value), K.In s.heap → us.length = ps.length → BindsTo s fd ⟨[], ps.zip us⟩ (ps.zip us)
theorem je_callKw (hF : FnOk X.prog X.w X.K X.mg X.base (L2N.CX X.prog X.w) k f fd ps (spF G.K G.mg ps.length F)) (hr : Room k X.A) (tk : L2N.Takes X G.W) (hg : Gl X x) (hm : X.mg x = some (.ref f)) (hk : PySem.W.keepIn X.K (.ref f) = true) (hb : KwB X.K fd ps)
    (hn : ArgN mas ps.length) (hkw : PK X kws (tA G mas)) (hall : (backToKw pos (keywordEach kws X.env)).all (·.1.isSome) = true := by rfl) (hks : (backToKw pos (keywordEach kws X.env)).filterMap (·.1) = ps := by rfl) (hdb : (x == ("__debug__" : Str)) = false := by decide)
    (hpl : ((backTo pos (starEach [] X.env)).any (·.1) || (backToKw pos (keywordEach kws X.env)).any (·.1.isNone)) = false := by rfl) :
    PE X (.Call (.Name x p) [] kws pos) (tE G (mCall F mas)) := by
  refine ⟨fun pins s σ H Q I h => ?_⟩
  refine wpAny_Call_Name_kw (ld_glob I hg hm ?_ hdb)
  refine PySem.W.callWith_KW0 (h₀ := X.base) I.ok.mod.kin hk hall ?_ hpl
  have h' : tCallS (spF G.K G.mg ps.length F) (WE G.W) (tA G mas) σ H Q := call_imp hn σ H Q h
  refine thn (hkw.run pos pins s σ H _ I h') fun ws s2 ⟨zs, H2, I2, rz, q2⟩ => ⟨I2.kIn, ?_⟩
  rw [hks]
  have hl : ws.length = ps.length := by rw [← rz.length]; exact q2.1
  refine wpAny_call (codeAny_mono (hF.run X.A X.stack s2 H2 ⟨[], ps.zip ws⟩ ws zs Q (WE G.W σ) hr I2.env0 (hb s2 ws I2.kIn hl) rz q2) fun r s' hq => ?_)
  cases r with
  | error er => exact (L2N.passAt tk σ) pins H2 s2 er s' I2 hq
  | ok fl =>
    cases fl with
    | ret u => exact I2.after hq
    | next => exact False.elim hq
    | brk => exact False.elim hq
    | cont => exact False.elim hq
end
end L2

namespace L2
open PySem PySem.Spec PyProof.Rows

/-! ### an exception with an own __init__, made where nothing is handled -/
section
variable {X : Cx} {e : Expr} {es : List Expr} {ta : TA} {p pos : Pos} {CX : CXT} {x : Str} {C fI : Addr} {k : Nat} {fd : FuncData} {ps : List Str} {sp : Sp}
theorem mkN (T : OexC X.K C)
    (iC : W.findIn X.K (.ref C) "__init__" = some (some (.ref fI))) (tI : W.typeIn X.K (.ref fI) = some (.type "function"))
    (F1 : FnOk X.prog X.w X.K X.mg X.base CX k fI fd ps sp) (hr : Room (k + 1) X.A) (hb : Binds X.K fd ps []) (hx : Passes CX X fun _ _ _ => False)
    (hg : Gl X x) (hm : X.mg x = some (.ref C)) (ha : PA X (e :: es) ta) (hdb : (x == ("__debug__" : Str)) = false := by decide)
    (he : starEach (e :: es) X.env = (false, eval e X.env) :: starEach es X.env := by rfl) (hpl : (backTo pos (starEach es X.env)).any (·.1) = false := by rfl) :
    L2N.PMk X (.Call (.Name x p) (e :: es) [] pos) (tMkO C sp [] ta) := by
  intro pins s σ H Q I h
  obtain ⟨nm, q, N, bs, bm, sn, sub, ab, col, dd, k0, k1, k2, k3, k5, hC, hbm⟩ := T.cls
  refine wpAny_Call_Name_kw (ld_glob I hg hm ?_ hdb)
  refine W.callWith_K (h₀ := X.base) I.ok.mod.kin T.kC ?_ he hpl
  refine thn (ha.run pos pins s σ H _ I h) fun us s1 hh => ?_
  obtain ⟨vs, H1, I1, r1, hl, q1⟩ := hh
  refine ⟨I1.kIn, ?_⟩
  obtain ⟨hp, g, dr, tk, os⟩ := s1
  have fr : H1 (hp.objs.size + 1) = none := I1.hok.fresh (Nat.le_succ _)
  have kk : ∀ b o, hp.get? b = some o → ((hp.push (W.kdv_tup us)).push (HandSPX.excO C hp.objs.size)).get? b = some o := fun b o z => Heap.get?_push_of_some _ (Heap.get?_push_of_some _ z)
  have hget : ((hp.push (W.kdv_tup us)).push (HandSPX.excO C hp.objs.size)).get? (hp.objs.size + 1) = some (HandSPX.excO C hp.objs.size) := by heap_get
  have I2 := I1.laid (t' := tk) kk (Nat.le_succ _) (exo_ok hget)
  have hq := q1 _ fr
  have hul : us.length = vs.length := (Paired.length r1).symm
  have hus : us.length ≤ sizeLine := by
    rw [sizeLine_eq, hul]
    omega
  have hpl2 : (Value.ref (hp.objs.size + 1) :: us ++ []).length = ps.length := by
    have z := F1.len _ _ _ _ hq
    simp only [List.length_cons, List.length_append, List.length_nil, Nat.add_zero] at z ⊢
    omega
  have b2 := hb ⟨(hp.push (W.kdv_tup us)).push (HandSPX.excO C hp.objs.size), g, dr, tk, os⟩ (.ref (hp.objs.size + 1) :: us) I2.kIn hpl2
  rw [List.append_nil] at b2 hq
  refine wpAny_call (HandSPX.call_own F.excBase_ValueError (fun Y => HandSPX.refsVE_contains Y bm hbm) (I1.kIn _ _ hC) (W.looks_findIn I1.kIn iC) (fun self => W.bind_fn I1.kIn self tI) hus ?_)
  refine codeAny_mono (F1.run _ X.stack ⟨(hp.push (W.kdv_tup us)).push (HandSPX.excO C hp.objs.size), g, dr, tk, os⟩ _ ⟨.ref (hp.objs.size + 1) :: us, []⟩ (.ref (hp.objs.size + 1) :: us) (V.ref (hp.objs.size + 1) :: vs) _ _ (hr.make C us []) (I2.env0.make C us []) b2 (.cons (by exact rfl) r1) hq) ?_
  intro r s' hq'
  cases r with
  | error er => exact hx pins σ _ _ er s' I2 hq'
  | ok fl =>
    cases fl with
    | next => exact False.elim hq'
    | brk => exact False.elim hq'
    | cont => exact False.elim hq'
    | ret u =>
      obtain ⟨v, H2, os2, bare2, un2, hok2, rv, ev, d, fs, ea, ed, hd1, q2⟩ := hq'
      subst ev
      obtain ⟨h2, g2, d2, t2, os'⟩ := s'
      obtain ⟨t0, G, J, kG, ge, hoe, na⟩ := mk_end0 (g2 := g2) (d2 := d2) (t2 := t2) I1 (Nat.le_succ _) kk un2 hok2 os2 bare2 ea ed hd1
      refine ⟨rv, hp.objs.size + 1, _, _, ⟨G, g2, d2, t2, os'⟩, _, .ref C, some d, rfl, J, kG, ge, hoe, ⟨rfl, rfl, fun vs hv => ?_⟩, rfl, rfl, na, rfl, bare2, raises_own T.exC T.tyC, q2⟩
      cases hv
      rfl
end
/-! ### the __init__ of an exception: its fields, one or two -/
def spI (C : Addr) (nms : List Str) : Sp := fun vs H Q _ => ∃ (a : Addr) (xs : List V), vs = .ref a :: xs ∧ xs.length = nms.length ∧ H a = some (exo a C none) ∧
  ∀ (d : Addr) (H' : Hp), H d = none → d ≠ a → H' a = some (exo a C (some d)) → H' d = some (exd d (nms.zip xs).reverse) → (∀ b, b ≠ a → b ≠ d → H' b = H b) → Q .non H'
section
variable {P : Program} {w : World} {K : Kf} {mg : Str → Option Value} {base : Heap} {x qual : Str} {st : Stmt} {f C : Addr} {fd : FuncData} {N ps : List Str} {k : Nat}
theorem ok_init1 {n1 : Str} (F : Fun K x qual st f fd) (S : FnScope N ps (defScope st)) (hN : N.length = 2) (hp : ps.length = 2) (T : OexC K C) (no : W.findIn K (.ref C) n1 = some none)
    (hb : ∀ (cdv : Value) (A : Around) (outer : List Env) (s : Shared) (H : Hp) (E : XK), PSs (cxOf (L2N.CX P w) P w K mg base N qual (defScope st) f cdv A outer s H E) (defBody st) (tOst K n1 (tVar 0) (tVar 1))) :
    FnOk P w K mg base (L2N.CX P w) (k + 1) f fd ps (spI C [n1]) := by
  refine okN F S (fun vs H Q E h => ?_) fun cdv A outer s H vs Q E hr h => ?_
  · obtain ⟨a, xs, rfl, hl, _⟩ := h
    rw [hp, List.length_cons, hl]
    rfl
  · obtain ⟨a, xs, rfl, hl, h1, h2⟩ := h
    obtain ⟨y, rfl⟩ : ∃ y, xs = [y] := by
      match xs, hl with
      | [y], _ => exact ⟨y, rfl⟩
    refine ⟨_, hb cdv A outer s H E, y, by unfold start; simp, .ref a, by unfold start; simp, a, C, rfl, T, no, .inl ⟨h1, fun d hd hne => ?_⟩⟩
    exact h2 d _ hd hne upd_same (by rw [upd_ne hne, upd_same]; rfl) fun b n1 n2 => by rw [upd_ne n1, upd_ne n2]
theorem ok_init2 {n1 n2 : Str} (F : Fun K x qual st f fd) (S : FnScope N ps (defScope st)) (hN : N.length = 3) (hp : ps.length = 3) (T : OexC K C) (no1 : W.findIn K (.ref C) n1 = some none) (no2 : W.findIn K (.ref C) n2 = some none)
    (hb : ∀ (cdv : Value) (A : Around) (outer : List Env) (s : Shared) (H : Hp) (E : XK), PSs (cxOf (L2N.CX P w) P w K mg base N qual (defScope st) f cdv A outer s H E) (defBody st) (tSeq (tOst K n1 (tVar 0) (tVar 1)) (tOst K n2 (tVar 0) (tVar 2)))) :
    FnOk P w K mg base (L2N.CX P w) (k + 1) f fd ps (spI C [n1, n2]) := by
  refine okN F S (fun vs H Q E h => ?_) fun cdv A outer s H vs Q E hr h => ?_
  · obtain ⟨a, xs, rfl, hl, _⟩ := h
    rw [hp, List.length_cons, hl]
    rfl
  · obtain ⟨a, xs, rfl, hl, h1, h2⟩ := h
    obtain ⟨y, z, rfl⟩ : ∃ y z, xs = [y, z] := by
      match xs, hl with
      | [y, z], _ => exact ⟨y, z, rfl⟩
    refine ⟨_, hb cdv A outer s H E, y, by unfold start; simp, .ref a, by unfold start; simp, a, C, rfl, T, no1, .inl ⟨h1, fun d hd hne => ?_⟩⟩
    refine ⟨z, by unfold start; simp, .ref a, by unfold start; simp, a, C, rfl, T, no2, .inr ⟨d, [(n1, y)], upd_same, by rw [upd_ne hne, upd_same], by simp, ?_⟩⟩
    exact h2 d _ hd hne (by rw [upd_ne (Ne.symm hne), upd_same]) upd_same fun b m1 m2 => by rw [upd_ne m2, upd_ne m1, upd_ne m2]
end
/-! ### raise -/
def dataOf : List SV → Option (List D)
  | [] => some []
  | .d d :: r => match dataOf r with
    | some ds => some (d :: ds)
    | none => none
  | _ => none
def mRaise (cls : Str) (nms : List Str) (mas : M (List SV)) : M Ct := mbind mas fun svs en => match dataOf svs with
  | some ds => .exc ⟨cls, (nms.zip ds).reverse⟩ en
  | none => .stuck
theorem RVs.data {G : Gs} {H : Hp} {L : List Addr} {σ : St} {en : En} : ∀ {vs : List V} {svs : List SV} {ds : List D}, RVs G L σ H en vs svs → dataOf svs = some ds → DqAll G.K (hid H L) vs ds
  | _, _, _, .nil, e => by cases e; exact .nil
  | _, .d d :: r, ds, .cons h t, e => by
    unfold dataOf at e
    cases q : dataOf r with
    | none => rw [q] at e; cases e
    | some es =>
      rw [q] at e
      cases e
      exact .cons h.1 (RVs.data t q)
  | _, .own _ :: _, _, .cons h t, e => by cases e
  | _, .bor _ :: _, _, .cons h t, e => by cases e
theorem zip_rel {K : Kf} {H : Hp} : ∀ {nms : List Str} {vs : List V} {ds : List D}, DqAll K H vs ds → Paired (fun p q => p.1 = q.1 ∧ Dq K H p.2 q.2) (nms.zip vs) (nms.zip ds)
  | [], _, _, _ => .nil
  | _ :: _, _, _, .nil => .nil
  | _ :: _, _, _, .cons h t => .cons ⟨rfl, h⟩ (zip_rel t)
theorem pairApp {α β : Type} {r : α → β → Prop} : ∀ {a c : List α} {b d : List β}, Paired r a b → Paired r c d → Paired r (a ++ c) (b ++ d)
  | _, _, _, _, .nil, h => h
  | _, _, _, _, .cons h t, g => .cons h (pairApp t g)
theorem pairRev {α β : Type} {r : α → β → Prop} : ∀ {a : List α} {b : List β}, Paired r a b → Paired r a.reverse b.reverse
  | _, _, .nil => .nil
  | _, _, .cons h t => by
    rw [List.reverse_cons, List.reverse_cons]
    exact pairApp (pairRev t) (.cons h .nil)
section
variable {X : Cx} {G : Gs} {e : Expr} {es : List Expr} {mas : M (List SV)} {p pos pos2 : Pos} {x : Str} {C fI : Addr} {k : Nat} {fd : FuncData} {ps nms : List Str}
theorem raise_imp (hn : ArgN mas nms.length) (hlen : nms.length ≤ 1000) (hm : G.mg x = some (.ref C)) (D : Ends) (σ : St) (H : Hp) (h : tS G [] (mRaise x nms mas) D σ H) :
    tMkO C (spI C nms) [] (tA G mas) σ H fun cls d H' => G.W cls d σ H' := by
  obtain ⟨en, L, R, q⟩ := h
  unfold mRaise at q
  refine ⟨en, L, R, ?_⟩
  unfold mbind at q
  cases e0 : mas en with
  | stuck => rw [e0] at q; exact q
  | exc x en' => rw [e0] at q; exact PostX.at q
  | ok svs en1 =>
    rw [e0] at q
    intro vs H1 L1 R1 s1 r1
    have q1 := q.from0 s1
    have hl : vs.length = nms.length := by rw [Paired.length r1]; exact hn _ _ _ e0
    refine ⟨by rw [hl]; exact hlen, fun a na => ⟨a, vs, by rw [List.append_nil], hl, upd_same, fun d H' hd hda ha hdd ho => ⟨rfl, d, _, ha, hdd, ?_, ?_⟩⟩⟩
    · rw [upd_ne hda] at hd
      exact hd
    · have hd1 : H1 d = none := by rw [upd_ne hda] at hd; exact hd
      have eH : upd (del H' a) d (.xd (nms.zip vs).reverse) = upd H1 d (.xd (nms.zip vs).reverse) := by
        funext b
        by_cases hb : b = d
        · subst hb; rw [upd_same, upd_same]
        · rw [upd_ne hb, upd_ne hb]
          by_cases hba : b = a
          · subst hba
            rw [na]
            exact del_same
          · rw [del_ne hba, ho b hba hb, upd_ne hba]
      rw [eH]
      dsimp only at q1
      cases e1 : dataOf svs with
      | none => rw [e1] at q1; exact q1.elim
      | some ds =>
        rw [e1] at q1
        have hds := RVs.data r1 e1
        refine q1 (.ref C) (some d) σ (upd H1 d (.xd (nms.zip vs).reverse)) L1 Keeps.refl (R1.grow (same_new hd1)) (hid_mono (same_new hd1)) ?_
        refine ⟨C, d, (nms.zip vs).reverse, hm, rfl, rfl, by rw [hid_out (R1.fresh_out hd1), upd_same], pairRev ?_⟩
        exact Paired.mapP (zip_rel hds) fun _ _ ⟨z1, z2⟩ => ⟨z1, Dq.mono (hid_mono (same_new hd1)) _ z2⟩
theorem js_raise (hc : X.calm = true) (tk : L2N.Takes X G.W) (T : OexC X.K C) (iC : W.findIn X.K (.ref C) "__init__" = some (some (.ref fI))) (tI : W.typeIn X.K (.ref fI) = some (.type "function"))
    (F1 : FnOk X.prog X.w X.K X.mg X.base (L2N.CX X.prog X.w) k fI fd ps (spI C nms)) (hr : Room (k + 1) X.A) (hb : Binds X.K fd ps []) (hmg : X.mg = G.mg) (hn : ArgN mas nms.length) (hlen : nms.length ≤ 1000) (hg : Gl X x) (hm : X.mg x = some (.ref C)) (ha : PA X (e :: es) (tA G mas)) (hdb : (x == ("__debug__" : Str)) = false := by decide)
    (he : starEach (e :: es) X.env = (false, eval e X.env) :: starEach es X.env := by rfl) (hpl : (backTo pos (starEach es X.env)).any (·.1) = false := by rfl) :
    PS X (.Raise (some (.Call (.Name x p) (e :: es) [] pos)) none pos2) (tS G [] (mRaise x nms mas)) :=
  (L2N.ps_raise hc tk (mkN T iC tI F1 hr hb (L2N.passes_call tk fun _ _ _ _ h => h.elim) hg hm ha hdb he hpl)).imp (raise_imp hn hlen (hmg ▸ hm))
end
end L2

namespace L2
open PySem PySem.Spec PyProof.Rows

/-! ### try .. except X as n -/
def noBor (en : En) : Bool := en.all fun o => match o with
  | some (.bor _) => false
  | _ => true
theorem noBor_at {en : En} (h : noBor en = true) {j k : Nat} (e : en[j]? = some (some (.bor k))) : False := by
  have z := List.all_eq_true.mp h _ (List.mem_of_getElem? e)
  cases z
/-- kn: the classes that may come, and whether each is caught -/
def mTry (kn : List (Str × Bool)) (i : Nat) (mb : M Ct) (mh : Xc → M Ct) : M Ct := fun en => match mb en with
  | .exc x en1 => (match kn.lookup x.cls with
    | some true => if noBor en1 then (match mh x (en1.set i (some (.bor 0))) with
      | .ok c en2 => if noBor (en2.set i none) then (match c with
        | .rt (.bor _) => .stuck
        | c => .ok c (en2.set i none)) else .stuck
      | _ => .stuck) else .stuck
    | some false => .exc x en1
    | none => .stuck)
  | r => r
def Gs.wish (G : Gs) (W : WX) : Gs := { G with W := W }
def Gs.held (G : Gs) (H0 : Hp) (a : Addr) : Gs := { G with W := fun _ _ _ _ => False, H0 := H0, px := some a }
section
variable {G : Gs} {H H' : Hp} {L L' : List Addr} {σ : St} {en : En} {v : V} {sv : SV} {W : WX} {H0 : Hp} {a : Addr} {i : Nat}
theorem RelS.wish (R : RelS G L σ H en) : RelS (G.wish W) L σ H en := ⟨R.own, R.same, R.len, R.slot, R.apart, R.base⟩
theorem RelS.ofWish (R : RelS (G.wish W) L σ H en) : RelS G L σ H en := ⟨R.own, R.same, R.len, R.slot, R.apart, R.base⟩
theorem RV.ofWish (h : RV (G.wish W) L σ H en v sv) : RV G L σ H en v sv := by
  cases sv <;> exact h
theorem RV.ofHeld (h : RV (G.held H0 a) L σ H en v sv) : RV G L σ H en v sv := by
  cases sv <;> exact h
theorem RelS.catch (R : RelS G L σ H en) (nb : noBor en = true) (a : Addr) (i : Nat) : RelS (G.held (hid H L) a) L (σ.set i (some (.ref a))) H (en.set i (some (.bor 0))) := by
  have key : ∀ (j : Nat) (b : OB), (en.set i (some (.bor 0)))[j]? = some (some (SV.own b)) → j ≠ i ∧ en[j]? = some (some (SV.own b)) := fun j b e => by
    by_cases hj : j = i
    · subst hj
      by_cases hl : j < en.length
      · rw [List.getElem?_set_self hl] at e
        cases e
      · rw [List.getElem?_eq_none (by rw [List.length_set]; omega)] at e
        cases e
    · rw [List.getElem?_set_ne (Ne.symm hj)] at e
      exact ⟨hj, e⟩
  refine ⟨R.own, Same.refl _, by rw [List.length_set, List.length_set]; exact R.len, fun j sv e => ?_, fun j k b c a' hjk ej ek => ?_, fun b m => ?_⟩
  · by_cases hj : j = i
    · subst hj
      have hl : j < en.length := by
        by_cases hl : j < en.length
        · exact hl
        · rw [List.getElem?_eq_none (by rw [List.length_set]; omega)] at e
          cases e
      rw [List.getElem?_set_self hl] at e
      cases e
      exact ⟨a, rfl, List.getElem?_set_self (by rw [R.len]; exact hl)⟩
    · rw [List.getElem?_set_ne (Ne.symm hj)] at e
      rw [List.getElem?_set_ne (Ne.symm hj)]
      have z := R.slot j sv e
      cases sv with
      | d d => exact z
      | own b => exact z
      | bor k => exact (noBor_at nb e).elim
  · obtain ⟨n1, e1⟩ := key j b ej
    obtain ⟨n2, e2⟩ := key k c ek
    rw [List.getElem?_set_ne (Ne.symm n1), List.getElem?_set_ne (Ne.symm n2)]
    exact R.apart j k b c a' hjk e1 e2
  · obtain ⟨h1, h2, h3⟩ := R.base b m
    refine ⟨h1, h2, fun j c e => ?_⟩
    obtain ⟨n1, e1⟩ := key j c e
    rw [List.getElem?_set_ne (Ne.symm n1)]
    exact h3 j c e1
theorem RelS.let_go (R : RelS (G.held H0 a) L σ H en) (s : Same G.H0 H0) (i : Nat) (nb : noBor (en.set i none) = true) : RelS G L (σ.set i none) H (en.set i none) := by
  have key : ∀ (j : Nat) (sv : SV), (en.set i none)[j]? = some (some sv) → j ≠ i ∧ en[j]? = some (some sv) := fun j b e => by
    by_cases hj : j = i
    · subst hj
      by_cases hl : j < en.length
      · rw [List.getElem?_set_self hl] at e
        cases e
      · rw [List.getElem?_eq_none (by rw [List.length_set]; omega)] at e
        cases e
    · rw [List.getElem?_set_ne (Ne.symm hj)] at e
      exact ⟨hj, e⟩
  refine ⟨R.own, s.trans R.same, by rw [List.length_set, List.length_set]; exact R.len, fun j sv e => ?_, fun j k b c a' hjk ej ek => ?_, fun b m => ?_⟩
  · obtain ⟨n1, e1⟩ := key j sv e
    rw [List.getElem?_set_ne (Ne.symm n1)]
    have z := R.slot j sv e1
    cases sv with
    | d d => exact z
    | own b => exact z
    | bor k => exact (noBor_at nb e).elim
  · obtain ⟨n1, e1⟩ := key j _ ej
    obtain ⟨n2, e2⟩ := key k _ ek
    rw [List.getElem?_set_ne (Ne.symm n1), List.getElem?_set_ne (Ne.symm n2)]
    exact R.apart j k b c a' hjk e1 e2
  · obtain ⟨h1, h2, h3⟩ := R.base b m
    refine ⟨h1, h2, fun j c e => ?_⟩
    obtain ⟨n1, e1⟩ := key j _ e
    rw [List.getElem?_set_ne (Ne.symm n1)]
    exact h3 j c e1
end
/-- what the suite sees -/
def tHeld (G : Gs) (wh : List Nat) (mh : Xc → M Ct) (a : Addr) (cls : Value) (d : Option Addr) : TS := fun E σ H =>
  ∃ (x : Xc) (H0 : Hp), XR G.K G.mg x cls d H0 ∧ tS (G.held H0 a) wh (mh x) E σ H
section
variable {X : Cx} {G : Gs} {wb wh : List Nat} {kn : List (Str × Bool)} {mb : M Ct} {mh : Xc → M Ct} {i : Nat} {c : Value}
theorem try_imp (hex : ∀ y b, kn.lookup y = some b → ∃ Cy, G.mg y = some (.ref Cy) ∧ W.exmOne G.K (.ref Cy) c = some b) (D : Ends) (σ : St) (H : Hp) (h : tS G (wb ++ i :: wh) (mTry kn i mb mh) D σ H) :
    tS (G.wish (wAs G.K c i (tHeld G wh mh) G.W D)) wb mb D σ H := by
  obtain ⟨en, L, R, q⟩ := h
  refine ⟨en, L, R.wish, ?_⟩
  have lw : ∀ {σ' : St}, Keeps wb σ σ' → Keeps (wb ++ i :: wh) σ σ' := fun k => k.mono fun j m => List.mem_append_left _ m
  unfold mTry at q
  cases e : mb en with
  | stuck => rw [e] at q; exact q
  | ok ct en1 =>
    rw [e] at q
    cases ct with
    | nx => exact fun σ' H' L' R' s' k' => q σ' H' L' R'.ofWish s' (lw k')
    | bk => exact fun σ' H' L' R' s' k' => q σ' H' L' R'.ofWish s' (lw k')
    | ct => exact fun σ' H' L' R' s' k' => q σ' H' L' R'.ofWish s' (lw k')
    | rt sv => exact fun v σ' H' L' R' s' r => q v σ' H' L' R'.ofWish s' r.ofWish
  | exc x en1 =>
    rw [e] at q
    dsimp only at q
    intro cls d σ' H' L' k' R' s' hx
    have R1 : RelS G L' σ' H' en1 := R'.ofWish
    obtain ⟨C, dd, fv, a1, a2, a3, a4, a5⟩ := hx
    cases ek : kn.lookup x.cls with
    | none => rw [ek] at q; exact q.elim
    | some b =>
      rw [ek] at q
      obtain ⟨Cy, g1, g2⟩ := hex _ _ ek
      have hC : Cy = C := by
        rw [show G.mg x.cls = some (.ref C) from a1] at g1
        cases g1
        rfl
      subst hC
      refine ⟨b, by rw [a2]; exact g2, fun hb a na => ?_, fun hb => ?_⟩
      · subst hb
        dsimp only at q
        split at q
        · rename_i nb
          refine ⟨x, hid H' L', ⟨Cy, dd, fv, a1, a2, a3, a4, a5⟩, _, L', R1.catch nb a i, ?_⟩
          have sH : Same G.H0 (hid H' L') := R1.same
          cases e2 : mh x (en1.set i (some (.bor 0))) with
          | stuck => rw [e2] at q; exact q
          | exc y en2 => rw [e2] at q; exact q.elim
          | ok ct en2 =>
            rw [e2] at q
            dsimp only at q
            split at q
            · rename_i nb2
              have kk : ∀ {σ'' : St}, Keeps wh (σ'.set i (some (.ref a))) σ'' → Keeps (wb ++ i :: wh) σ (σ''.set i none) := fun {σ''} k2 j hj => by
                have n1 : j ∉ wb := fun m => hj (List.mem_append_left _ m)
                have n2 : i ≠ j := fun z => hj (List.mem_append_right _ (z ▸ List.mem_cons_self))
                have n3 : j ∉ wh := fun m => hj (List.mem_append_right _ (List.mem_cons_of_mem _ m))
                rw [List.getElem?_set_ne n2, k2 j n3, List.getElem?_set_ne n2]
                exact k' j n1
              cases ct with
              | nx => exact fun σ'' H'' L'' R2 s2 k2 => q _ H'' L'' (R2.let_go sH i nb2) (s'.trans s2) (kk k2)
              | bk => exact fun σ'' H'' L'' R2 s2 k2 => q _ H'' L'' (R2.let_go sH i nb2) (s'.trans s2) (kk k2)
              | ct => exact fun σ'' H'' L'' R2 s2 k2 => q _ H'' L'' (R2.let_go sH i nb2) (s'.trans s2) (kk k2)
              | rt sv =>
                cases sv with
                | bor _ => exact q.elim
                | d d => exact fun v σ'' H'' L'' R2 s2 r => q v _ H'' L'' (R2.let_go sH i nb2) (s'.trans s2) r
                | own o =>
                  intro v σ'' H'' L'' R2 s2 r
                  obtain ⟨p, ho, r1, r2, r3, r4, r5, r6⟩ := r
                  refine q v _ H'' L'' (R2.let_go sH i nb2) (s'.trans s2) ⟨p, ho, r1, r2, r3, r4, r5, fun j c ej => ?_⟩
                  by_cases hj : j = i
                  · subst hj
                    by_cases hl : j < en2.length
                    · rw [List.getElem?_set_self hl] at ej
                      cases ej
                    · rw [List.getElem?_eq_none (by rw [List.length_set]; omega)] at ej
                      cases ej
                  · rw [List.getElem?_set_ne (Ne.symm hj)] at ej ⊢
                    exact r6 j c ej
            · exact q.elim
        · exact q.elim
      · subst hb
        dsimp only at q
        exact q cls d σ' H' L' (lw k') R1 s' ⟨Cy, dd, fv, a1, a2, a3, a4, a5⟩
theorem js_try {n x : Str} {body suite : List Stmt} {b₀ : Stmt} {np pos pos' : Pos} (hs : X.stack = X.env :: X.outer) (hf : X.env.frame = some X.env.locals) (hN : X.N.Nodup) (hi : X.N[i]? = some n) (hln : X.env.kindOf n = some .local) (hc : Names X x c) (tk : L2N.Takes X G.W) (hK : X.K = G.K)
    (hex : ∀ y b, kn.lookup y = some b → ∃ Cy, G.mg y = some (.ref Cy) ∧ W.exmOne G.K (.ref Cy) c = some b)
    (hb : ∀ (W : WX) (pn : List (Addr × Obj)) (xe : Value → Shared → Prop), L2N.Takes (X.tr pn xe) (G.wish W).W → PassesOwn (model X.prog X.w) X.A X.env xe → PSs (X.tr pn xe) body (tS (G.wish W) wb mb))
    (hh : ∀ (a : Addr) (oe : Obj) (cls : Value) (d : Option Addr) (pn : List (Addr × Obj)) (x : Xc) (H0 : Hp), L2N.Zn cls d oe → (∃ vs, oe.data = .fields vs) → XR G.K G.mg x cls d H0 → PSs (X.suite a ((a, oe) :: pn)) (b₀ :: suite) (tS (G.held H0 a) wh (mh x))) :
    PS X (.Try body [.ExceptHandler (some (.Name x np)) (some n) (b₀ :: suite) pos'] [] [] pos) (tS G (wb ++ i :: wh) (mTry kn i mb mh)) :=
  (L2N.ps_try_as (tb := fun W => tS (G.wish W) wb mb) (ts := tHeld G wh mh) (Wout := G.W) hs hf hN hi hln hc tk hb fun a oe cls d pn z f => ⟨fun pins s σ H E I q => by
    obtain ⟨x, H0, hx, q⟩ := q
    exact (hh a oe cls d pn x H0 z f hx).run pins s σ H E I q⟩).imp fun D σ H h => by
      rw [hK]
      exact try_imp hex D σ H h
end
/-! ### in the suite -/
theorem hot_suite {X : Cx} {a : Addr} {oe : Obj} {cls : Value} {d : Option Addr} {pn : List (Addr × Obj)} (z : L2N.Zn cls d oe) (f : ∃ vs, oe.data = .fields vs) : L2H.HotC (X.suite a ((a, oe) :: pn)) := by
  obtain ⟨vs, e⟩ := f
  exact ⟨(a, oe), ⟨rfl, vs, e, z.2.2 vs e⟩, List.mem_cons_self⟩
theorem takes_no {X : Cx} {W : WX} (h : ∀ cls d σ H, ¬ W cls d σ H) : L2N.Takes X W := fun u s' q => by
  obtain ⟨a, B, sI, pins, σ, H, cls, d, _, _, _, _, _, _, _, _, w⟩ := q
  exact (h _ _ _ _ w).elim
theorem takes_held {X : Cx} {G : Gs} {H0 : Hp} {a : Addr} : L2N.Takes X (G.held H0 a).W := takes_no fun _ _ _ _ h => h
/-- n.f, n the exception at hand -/
def mXf (c : Str) (i : Nat) (f : Str) (x : Xc) : M SV := fun en => if x.cls = c then (match en[i]?, x.fs.lookup f with
  | some (some (.bor _)), some d => .ok (.d d) en
  | _, _ => .stuck) else .stuck
theorem pair_lookup {K : Kf} {H : Hp} {f : Str} {d : D} : ∀ {fv : List (Str × V)} {fs : List (Str × D)}, Paired (fun p q => p.1 = q.1 ∧ Dq K H p.2 q.2) fv fs → fs.lookup f = some d → ∃ v, fv.lookup f = some v ∧ Dq K H v d
  | _, _, .nil, e => by cases e
  | (a, v) :: r, (b, w) :: t, .cons h g, e => by
    obtain ⟨h1, h2⟩ := h
    dsimp only at h1
    subst h1
    rw [List.lookup_cons] at e ⊢
    split at e
    · cases e
      exact ⟨v, rfl, h2⟩
    · exact pair_lookup g e
theorem je_xf {X : Cx} {G : Gs} {a C : Addr} {oe : Obj} {cls : Value} {d : Option Addr} {pn : List (Addr × Obj)} {H0 : Hp} {x : Xc} {c n f : Str} {p pos : Pos} (i : Nat) (T : XfC X.K C) (no : W.findIn X.K (.ref C) f = some none) (z : L2N.Zn cls d oe) (hf : ∃ vs, oe.data = .fields vs)
    (hx : XR G.K G.mg x cls d H0) (hm : G.mg c = some (.ref C)) (hN : X.N[i]? = some n) (hv : Vis X.env.scope n) (hd : (n == ("__debug__" : Str)) = false := by decide) (hcd : (n == ("__classdict__" : Str)) = false := by decide)
    (hb : attributeBase (.Name n p) f X.env (eval (.Name n p) X.env) = eval (.Name n p) X.env := by rfl) :
    PE (X.suite a ((a, oe) :: pn)) (.Attribute (.Name n p) f pos) (tE (G.held H0 a) (mXf c i f x)) :=
  (pe_xf T no ⟨z.1, z.2.1⟩ hf (pe_var (X := X.suite a ((a, oe) :: pn)) hN hv hd hcd) hb).imp fun σ H Q h => by
    obtain ⟨en, L, R, q⟩ := h
    unfold mXf at q
    split at q
    · rename_i hc
      split at q
      · rename_i k dd e1 e2
        obtain ⟨a', ea, es⟩ := R.slot i _ e1
        cases ea
        obtain ⟨C', d', fv, a1, a2, a3, a4, a5⟩ := hx
        rw [hc, hm] at a1
        cases a1
        obtain ⟨v, ev, hv⟩ := pair_lookup a5 e2
        refine ⟨.ref a, es, rfl, a2, d', fv, v, a3, hid_same _ _ (R.same _ _ a4), ev, ?_⟩
        exact q v H L R (Same.refl _) (Dq.mono R.same _ hv)
      · exact q.elim
    · exact q.elim
end L2

namespace L2
open PySem PySem.Spec PyProof.Rows

/-! ### small things -/

def dNeg : D → M SV
  | .int i => mpure (.d (.int (-i)))
  | _ => mstuck
section
variable {X : Cx} {G : Gs}
theorem fit_neg : Fits1 G (rU fun i => V.int (-i)) dNeg := fun σ H L en x dx Q R o q => by
  unfold dNeg at q
  split at q
  · rename_i i
    exact ⟨i, o.int, q _ H L R (Same.refl _) (.int _)⟩
  · exact q.elim
/-- a module's constant -/
theorem je_gl {x : Str} {v : V} {u : Value} {d : D} {pos : Pos} (hg : Gl X x) (hm : X.mg x = some u) (r : RelV v u) (hd : ∀ H, Dq G.K H v d) (hdb : (x == ("__debug__" : Str)) = false := by decide) : PE X (.Name x pos) (tE G (mC d)) := je_c (pe_glob hg hm r hdb) hd
/-- a def that is called no deeper -/
theorem fn_stuck {P : Program} {w : World} {K : Kf} {mg : Str → Option Value} {base : Heap} {CX : CXT} {k : Nat} {f : Addr} {fd : FuncData} {ps : List Str} : FnOk P w K mg base CX k f fd ps (spF K mg ps.length fun _ => .stuck) where
  len := fun vs H Q E h => h.1
  run := fun A outer s H args us vs Q E _ _ _ _ h => by
    obtain ⟨_, _, _, _, _, h⟩ := h
    exact h.elim
theorem fn_stuckH {P : Program} {w : World} {K : Kf} {mg : Str → Option Value} {base : Heap} {CX : CXT} {k : Nat} {f : Addr} {fd : FuncData} {ps : List Str} : L2H.FnH P w K mg base CX k f fd ps (spF K mg ps.length fun _ => .stuck) where
  len := fun vs H Q E h => h.1
  run := fun A outer s H args us vs Q E p _ _ _ _ _ _ h => by
    obtain ⟨_, _, _, _, _, h⟩ := h
    exact h.elim
theorem FnOk.up {P : Program} {w : World} {K : Kf} {mg : Str → Option Value} {base : Heap} {CX : CXT} {j k : Nat} {f : Addr} {fd : FuncData} {ps : List Str} {sp : Sp} (h : FnOk P w K mg base CX j f fd ps sp) (l : j ≤ k) : FnOk P w K mg base CX k f fd ps sp where
  len := h.len
  run := fun A outer s H args us vs Q E hr => h.run A outer s H args us vs Q E (hr.mono l)
end
theorem hr_65 {k : Nat} {A : Around} (h : Room k A) : A.units + 65 < cLine := by have := h.un; omega
theorem hr_64 {k : Nat} {A : Around} (h : Room k A) : A.units + 64 < cLine := by have := h.un; omega
theorem hr_1 {k : Nat} {A : Around} (h : Room k A) : A.units + 1 < cLine := by have := h.un; omega
theorem hrH_65 {k : Nat} {A : Around} (h : L2H.RoomH k A) : A.units + 65 < cLine := by have := h.un; omega
theorem hrH_64 {k : Nat} {A : Around} (h : L2H.RoomH k A) : A.units + 64 < cLine := by have := h.un; omega
theorem hrH_1 {k : Nat} {A : Around} (h : L2H.RoomH k A) : A.units + 1 < cLine := by have := h.un; omega
theorem hot_fn {CX : CXT} {P : Program} {w : World} {K : Kf} {mg : Str → Option Value} {base : Heap} {N : List Str} {qual : Str} {scope : Scope} {f : Addr} {cd : Value} {A : Around} {outer : List Env} {s : Shared} {H : Hp} {E : XK} {p : Addr × Obj} (h : L2H.Hot1 A p) : L2H.HotC (L2H.cxH CX P w K mg base N qual scope f cd A outer s H E p) :=
  ⟨p, h, List.mem_singleton.mpr rfl⟩
theorem ex_one {K : Kf} {mg : Str → Option Value} {c : Str} {C : Addr} (h : mg c = some (.ref C)) (e : W.exmOne K (.ref C) (.ref C) = some true) : ∀ y b, [(c, true)].lookup y = some b → ∃ Cy, mg y = some (.ref Cy) ∧ W.exmOne K (.ref Cy) (.ref C) = some b := fun y b q => by
  rw [List.lookup_cons] at q
  split at q
  · rename_i hy
    cases q
    have := eq_of_beq hy
    subst this
    exact ⟨C, h, e⟩
  · cases q
end L2

namespace L2
open PySem PySem.Spec PyProof.Rows

/-! ### the order of texts; the one sorted list -/
theorem ltCps_lt : ∀ a b : List Nat, ltCps a b = decide (a < b)
  | [], [] => rfl
  | [], _ :: _ => by simp [ltCps]
  | _ :: _, [] => by simp [ltCps]
  | a :: r, b :: t => by
    rw [ltCps, ltCps_lt r t]
    by_cases h : a < b
    · simp [h, List.cons_lt_cons_iff]
    · by_cases e : a = b
      · subst e
        simp [List.cons_lt_cons_iff]
      · simp [h, e, List.cons_lt_cons_iff]
def leS (a b : Str) : Bool := !ltCps b.cps.toList a.cps.toList
theorem leS_iff {a b : Str} : leS a b = true ↔ ¬ b.cps.toList < a.cps.toList := by
  unfold leS
  rw [ltCps_lt]
  simp
theorem str_ext {a b : Str} (h : a.cps.toList = b.cps.toList) : a = b := by
  cases a; cases b
  simp only [Str.mk.injEq]
  exact Array.toList_inj.mp h
theorem leS_antisymm {a b : Str} (h1 : leS a b = true) (h2 : leS b a = true) : a = b :=
  str_ext (List.le_antisymm (leS_iff.mp h1) (leS_iff.mp h2))
theorem leS_trans (a b c : Str) (h1 : leS a b = true) (h2 : leS b c = true) : leS a c = true :=
  leS_iff.mpr (List.le_trans (leS_iff.mp h1) (leS_iff.mp h2))
theorem leS_total (a b : Str) : (leS a b || leS b a) = true := by
  rcases List.le_total a.cps.toList b.cps.toList with h | h
  · simp [leS_iff.mpr h]
  · simp [leS_iff.mpr h]
theorem sortedS_pw : ∀ {xs : List Str}, sortedS xs = true → xs.Pairwise fun a b => leS a b = true
  | [], _ => .nil
  | x :: r, h => by
    have key : ∀ (r : List Str) (x : Str), risingS x r = true → (x :: r).Pairwise fun a b => leS a b = true := by
      intro r
      induction r with
      | nil => intro x _; exact List.pairwise_singleton _ _
      | cons y t ih =>
        intro x h
        rw [risingS, Bool.and_eq_true] at h
        have p := ih y h.2
        refine List.pairwise_cons.mpr ⟨fun z m => ?_, p⟩
        rcases List.mem_cons.mp m with rfl | m
        · exact h.1
        · exact leS_trans _ _ _ h.1 ((List.pairwise_cons.mp p).1 z m)
    exact key r x h
def sortStrs (xs : List Str) : List Str := xs.mergeSort leS
theorem sortStrs_pw (xs : List Str) : (sortStrs xs).Pairwise fun a b => leS a b = true := List.pairwise_mergeSort leS_trans leS_total xs
theorem sortStrs_perm (xs : List Str) : (sortStrs xs).Perm xs := List.mergeSort_perm _ _
theorem sortStrs_uniq {xs ys : List Str} (h : ys.Perm xs) (s : ys.Pairwise fun a b => leS a b = true) : ys = sortStrs xs :=
  List.Perm.eq_of_pairwise (le := fun a b => leS a b = true) (fun a b _ _ h1 h2 => leS_antisymm h1 h2) s (sortStrs_pw xs) (h.trans (sortStrs_perm xs).symm)
def sortInts (xs : List Int) : List Int := xs.mergeSort fun a b => decide (a ≤ b)
theorem sortInts_pw (xs : List Int) : (sortInts xs).Pairwise (· ≤ ·) := by
  have h := List.pairwise_mergeSort (le := fun a b : Int => decide (a ≤ b)) (fun a b c h1 h2 => by simp at *; omega) (fun a b => by simp; omega) xs
  exact h.imp fun h => by simpa using h
theorem sortInts_perm (xs : List Int) : (sortInts xs).Perm xs := List.mergeSort_perm _ _
theorem sortInts_uniq {xs ys : List Int} (h : ys.Perm xs) (s : ys.Pairwise (· ≤ ·)) : ys = sortInts xs :=
  List.Perm.eq_of_pairwise (le := (· ≤ ·)) (fun a b _ _ h1 h2 => Int.le_antisymm h1 h2) s (sortInts_pw xs) (h.trans (sortInts_perm xs).symm)
/-! ### sorted(..) -/
def strsOf : List D → Option (List Str)
  | [] => some []
  | .str x :: r => (strsOf r).map (x :: ·)
  | _ => none
def intsOf : List D → Option (List Int)
  | [] => some []
  | .int x :: r => (intsOf r).map (x :: ·)
  | _ => none
theorem strsOf_eq : ∀ {ds : List D} {xs : List Str}, strsOf ds = some xs → ds = xs.map .str
  | [], _, e => by cases e; rfl
  | .str x :: r, xs, e => by
    unfold strsOf at e
    cases q : strsOf r with
    | none => rw [q] at e; cases e
    | some ys => rw [q] at e; cases e; rw [strsOf_eq q]; rfl
  | .int _ :: _, _, e => by cases e
  | .none :: _, _, e => by cases e
  | .bool _ :: _, _, e => by cases e
  | .list _ :: _, _, e => by cases e
  | .tuple _ :: _, _, e => by cases e
  | .dict _ :: _, _, e => by cases e
theorem intsOf_eq : ∀ {ds : List D} {xs : List Int}, intsOf ds = some xs → ds = xs.map .int
  | [], _, e => by cases e; rfl
  | .int x :: r, xs, e => by
    unfold intsOf at e
    cases q : intsOf r with
    | none => rw [q] at e; cases e
    | some ys => rw [q] at e; cases e; rw [intsOf_eq q]; rfl
  | .str _ :: _, _, e => by cases e
  | .none :: _, _, e => by cases e
  | .bool _ :: _, _, e => by cases e
  | .list _ :: _, _, e => by cases e
  | .tuple _ :: _, _, e => by cases e
  | .dict _ :: _, _, e => by cases e
theorem dqAll_strs {K : Kf} {H : Hp} : ∀ {xs : List Str} {vs : List V}, DqAll K H vs (xs.map .str) → vs = xs.map .str
  | [], _, .nil => rfl
  | x :: r, _, .cons h t => by cases h; rw [dqAll_strs t]; rfl
theorem dqAll_ints {K : Kf} {H : Hp} : ∀ {xs : List Int} {vs : List V}, DqAll K H vs (xs.map .int) → vs = xs.map .int
  | [], _, .nil => rfl
  | x :: r, _, .cons h t => by cases h; rw [dqAll_ints t]; rfl
theorem strs_dq {K : Kf} {H : Hp} : ∀ xs : List Str, DqAll K H (xs.map .str) (xs.map .str)
  | [] => .nil
  | x :: r => .cons (.str x) (strs_dq r)
theorem ints_dq {K : Kf} {H : Hp} : ∀ xs : List Int, DqAll K H (xs.map .int) (xs.map .int)
  | [] => .nil
  | x :: r => .cons (.int x) (ints_dq r)
def keysOf (kds : List (D × D)) : List D := kds.map (·.1)
/-- of a list of texts or of ints, or of a dict's keys, texts -/
def sortD : D → Option (List D)
  | .list ds => (match strsOf ds with
    | some xs => if xs.length < 64 then some ((sortStrs xs).map .str) else none
    | none => (match intsOf ds with
      | some ns => some ((sortInts ns).map .int)
      | none => none))
  | .dict kds => (match strsOf (keysOf kds) with
    | some xs => if xs.length < 64 then some ((sortStrs xs).map .str) else none
    | none => none)
  | _ => none
def dSorted (d : D) : M SV := fun en => match sortD d with
  | some l => .ok (.own (.lst l)) en
  | none => .stuck
def rSortA (K : Kf) : List V → Hp → VK → Prop := fun vs H Q => rSortedS K vs H Q ∨ rSortedI K vs H Q ∨ ∃ (a : Addr) (kvs : List (Key × V)) (ks : List Str), vs = [.ref a] ∧ Rd H a (.dK kvs) ∧ kvs.map (·.1) = ks.map Sum.inr ∧ ks.length < 64 ∧ ∀ ys p, ys.Perm ks → sortedS ys = true → H p = none → Q (.ref p) (upd H p (.lst (ys.map V.str)))
theorem cr_sortA {X : Cx} (hc : X.calm = true) : CallR X (.builtin "sorted") (rSortA X.K) := cr_sortedS.or (cr_sortedI.or (call_sortedD hc))
theorem keys_strs {K : Kf} {H : Hp} : ∀ {kvs : List (Key × V)} {ks : List (Key × D)} {xs : List Str}, KD K H kvs ks → keysOf (ks.map fun p => (kD p.1, p.2)) = xs.map .str → kvs.map (·.1) = xs.map Sum.inr
  | _, _, [], .nil, _ => rfl
  | _, _, _ :: _, .nil, e => by cases e
  | _, _, [], .cons _ _, e => by cases e
  | p :: _, q :: _, x :: xs, .cons ⟨h1, h2⟩ t, e => by
    simp only [keysOf, List.map_cons, List.cons.injEq] at e
    rw [List.map_cons, List.map_cons, keys_strs t e.2]
    congr 1
    rw [h1]
    cases h : q.1 with
    | inl i => rw [h] at e; cases e.1
    | inr s => rw [h] at e; cases e.1; rfl
section
variable {G : Gs}
theorem fit_sorted : FitsC G (rSortA G.K) (d1 dSorted) := fit1 fun σ H L en x d Q R o q => by
  unfold dSorted at q
  cases e : sortD d with
  | none => rw [e] at q; exact q.elim
  | some l =>
    rw [e] at q
    dsimp only at q
    unfold sortD at e
    split at e
    · rename_i ds
      obtain ⟨a, ys, rfl, ho, hr⟩ := o.list'
      split at e
      · rename_i xs e1
        have e2 := strsOf_eq e1
        subst e2
        have e3 := dqAll_strs hr
        subst e3
        split at e
        · rename_i hl
          cases e
          refine .inl ⟨a, xs, rfl, ho, hl, fun zs p hp hs hn => ?_⟩
          rw [sortStrs_uniq hp (sortedS_pw hs)]
          exact post_lst R hn (strs_dq _) q
        · cases e
      · split at e
        · rename_i ns e1
          cases e
          have e2 := intsOf_eq e1
          subst e2
          have e3 := dqAll_ints hr
          subst e3
          refine .inr (.inl ⟨a, ns, rfl, ho, fun zs p hp hs hn => ?_⟩)
          rw [sortInts_uniq hp hs]
          exact post_lst R hn (ints_dq _) q
        · cases e
    · rename_i kds
      split at e
      · rename_i xs e1
        have e2 := strsOf_eq e1
        split at e
        · rename_i hl
          cases e
          rcases o.dct with ⟨a, ns, rfl, e3, hs⟩ | ⟨a, kvs, ks, rfl, e3, ho, hk⟩
          · subst e3
            cases xs with
            | nil => cases e2
            | cons x r => cases e2
          · subst e3
            refine .inr (.inr ⟨a, kvs, xs, rfl, .inl ho, keys_strs hk e2, hl, fun zs p hp hs hn => ?_⟩)
            rw [sortStrs_uniq hp (sortedS_pw hs)]
            exact post_lst R hn (strs_dq _) q
        · cases e
      · cases e
    · cases e
end
end L2

namespace L2
open PySem PySem.Spec PyProof.Rows

/-! ### dicts -/
def putD (kds : List (Key × D)) (k : Key) (d : D) : List (Key × D) :=
  if (kds.any fun kv => decide (kv.1 = k)) = true then kds.map fun kv => if kv.1 = k then (kv.1, d) else kv else kds ++ [(k, d)]
def valD (kds : List (Key × D)) (k : Key) : Option D := (kds.find? fun kv => decide (kv.1 = k)).map (·.2)
theorem KD.any {K : Kf} {H : Hp} {k : Key} : ∀ {kvs : List (Key × V)} {kds : List (Key × D)}, KD K H kvs kds → (kvs.any fun kv => decide (kv.1 = k)) = (kds.any fun kv => decide (kv.1 = k))
  | _, _, .nil => rfl
  | _, _, .cons ⟨h1, _⟩ t => by rw [List.any_cons, List.any_cons, KD.any t, h1]
theorem KD.length {K : Kf} {H : Hp} {kvs : List (Key × V)} {kds : List (Key × D)} (h : KD K H kvs kds) : kvs.length = kds.length := Paired.length h
theorem KD.mapPut {K : Kf} {H : Hp} {k : Key} {v : V} {d : D} (hv : Dq K H v d) : ∀ {kvs : List (Key × V)} {kds : List (Key × D)}, KD K H kvs kds → KD K H (kvs.map fun kv => if kv.1 = k then (kv.1, v) else kv) (kds.map fun kv => if kv.1 = k then (kv.1, d) else kv)
  | _, _, .nil => .nil
  | a :: _, b :: _, .cons ⟨h1, h2⟩ t => by
    refine .cons ?_ (KD.mapPut hv t)
    dsimp only
    by_cases e : a.1 = k
    · rw [if_pos e, if_pos (h1 ▸ e)]
      exact ⟨h1, hv⟩
    · rw [if_neg e, if_neg (h1 ▸ e)]
      exact ⟨h1, h2⟩
theorem KD.put {K : Kf} {H : Hp} {k : Key} {v : V} {d : D} {kvs : List (Key × V)} {kds : List (Key × D)} (h : KD K H kvs kds) (hv : Dq K H v d) : KD K H (putK kvs k v) (putD kds k d) := by
  unfold putK putD
  rw [h.any (k := k)]
  split
  · exact h.mapPut hv
  · exact pairApp h (.cons ⟨rfl, hv⟩ .nil)
theorem KD.val {K : Kf} {H : Hp} {k : Key} : ∀ {kvs : List (Key × V)} {kds : List (Key × D)}, KD K H kvs kds → (valV kvs k = none ∧ valD kds k = none) ∨ ∃ v d, valV kvs k = some v ∧ valD kds k = some d ∧ Dq K H v d
  | _, _, .nil => .inl ⟨rfl, rfl⟩
  | a :: _, b :: _, .cons ⟨h1, h2⟩ t => by
    unfold valV valD
    rw [List.find?_cons, List.find?_cons]
    by_cases e : a.1 = k
    · rw [h1] at e
      simp only [h1, e, decide_true]
      exact .inr ⟨_, _, rfl, rfl, h2⟩
    · have e2 : ¬ b.1 = k := h1 ▸ e
      simp only [e, e2, decide_false]
      exact KD.val t
theorem slot_dct {G : Gs} {H : Hp} {L : List Addr} {σ : St} {en : En} {i : Nat} {kds : List (Key × D)} (R : RelS G L σ H en) (e : en[i]? = some (some (.own (.dct kds)))) : ∃ a kvs, σ[i]? = some (some (.ref a)) ∧ a ∈ L ∧ H a = some (.dK kvs) ∧ KD G.K (hid H L) kvs kds := by
  obtain ⟨a, o, e1, m, ho, hr⟩ := R.slot i _ e
  cases o with
  | dK kvs => exact ⟨a, kvs, e1, m, ho, hr⟩
  | _ => exact hr.elim
/-! d[k] = v, d in slot i -/
def mDPut (i : Nat) (mk mv : M SV) : M Ct := mbind (mkeep mv) fun sv en => match en[i]? with
  | some (some (.own (.dct _))) => mbind (mfrz mk) (fun sk en => match look en sk, sv, en[i]? with
    | some y, .d z, some (some (.own (.dct kds))) => (match keyD y with
      | some k => if kds.length < sizeLine then .ok .nx (en.set i (some (.own (.dct (putD kds k z))))) else .stuck
      | none => .stuck)
    | _, _, _ => .stuck) en
  | _ => .stuck
section
variable {X : Cx} {G : Gs} {ek ev : Expr} {mk mv : M SV} {pos pos' : Pos}
theorem js_dput (i : Nat) {x : Str} {p : Pos} (hK : X.K = G.K) (hu : X.A.units + 1 < cLine) (hN : X.N[i]? = some x) (hv : Vis X.env.scope x) (hk : PE X ek (tE G mk)) (he : PE X ev (tE G mv)) (hd : (x == ("__debug__" : Str)) = false := by decide) (hcd : (x == ("__classdict__" : Str)) = false := by decide)
    (hs : swapsWith ev (some (.Subscript (.Name x p) ek pos')) pos.line X.env = pure false := by rfl) :
    PS X (.Assign [.Subscript (.Name x p) ek pos'] ev pos) (tS G [] (mDPut i mk mv)) :=
  (ps_dput hu (pe_var hN hv hd hcd) (je_frz hk) (je_keep he) hs).imp fun D σ H h => by
    obtain ⟨en, L, R, q⟩ := h
    refine (seqES R q).mono fun v H1 ⟨en1, L1, sv, R1, s1, r1, q1⟩ => ?_
    split at q1
    · rename_i kds0 e0
      obtain ⟨a, kvs0, e1, m0, ho0, hr0⟩ := slot_dct R1 e0
      refine ⟨.ref a, e1, ?_⟩
      refine (seqES R1 q1).mono fun y H2 ⟨en2, L2, sk, R2, s2, r2, q2⟩ => ?_
      split at q2
      · rename_i dy z kds ey e2 _
        split at q2
        · rename_i k ek
          split at q2
          · rename_i hl
            obtain ⟨a', kvs, e3, m, ho, hr⟩ := slot_dct R2 e2
            rw [e1] at e3
            cases e3
            obtain ⟨rfl, _⟩ := key_of_D (RV.opd R2 (Same.refl _) r2 ey) ek
            refine ⟨a, _, rfl, DPut.k ho (by rw [hr.length]; exact hl), ?_⟩
            exact q2 σ _ L2 (R2.put e2 e1 m (b' := .dct (putD kds k z)) (hr.put (Dq.mono s2 _ r1))) (by rw [hid_upd m]; exact Same.refl _) Keeps.refl
          · exact q2.elim
        · exact q2.elim
      · exact q2.elim
    · exact q1.elim
end
/-! ### a hold: an object that nobody else changes -/
def Gs.hold (G : Gs) (a : Addr) (o : HO) : Gs := { G with B := a :: G.B, HB := upd G.HB a o }
section
variable {G : Gs} {H H1 : Hp} {L : List Addr} {σ : St} {en : En} {a : Addr} {o o' : HO} {v : V} {sv : SV}
theorem RelS.hold (R : RelS G L σ H en) (m : a ∈ L) (nb : a ∉ G.B) (ho : H a = some o) (no : ∀ (i : Nat) (c : OB), en[i]? = some (some (SV.own c)) → σ[i]? ≠ some (some (V.ref a))) : RelS (G.hold a o) L σ H en where
  own := R.own
  same := R.same
  len := R.len
  slot := R.slot
  apart := R.apart
  base := fun b mb => by
    rcases List.mem_cons.mp mb with rfl | mb
    · exact ⟨m, by rw [ho]; exact upd_same.symm, no⟩
    · obtain ⟨h1, h2, h3⟩ := R.base b mb
      have hne : b ≠ a := fun z => nb (z ▸ mb)
      exact ⟨h1, h2.trans (by show G.HB b = upd G.HB a o b; rw [upd_ne hne]), h3⟩
theorem RelS.ofHold (R : RelS (G.hold a o) L σ H en) (nb : a ∉ G.B) : RelS G L σ H en where
  own := R.own
  same := R.same
  len := R.len
  slot := R.slot
  apart := R.apart
  base := fun b mb => by
    obtain ⟨h1, h2, h3⟩ := R.base b (List.mem_cons_of_mem _ mb)
    have hne : b ≠ a := fun z => nb (z ▸ mb)
    exact ⟨h1, h2.trans (by show upd G.HB a o b = G.HB b; rw [upd_ne hne]), h3⟩
theorem RelS.held (R : RelS (G.hold a o) L σ H en) : a ∈ L ∧ H a = some o ∧ ∀ (i : Nat) (c : OB), en[i]? = some (some (SV.own c)) → σ[i]? ≠ some (some (V.ref a)) := by
  obtain ⟨h1, h2, h3⟩ := R.base a List.mem_cons_self
  exact ⟨h1, h2.trans upd_same, h3⟩
theorem RV.ofHold (h : RV (G.hold a o) L σ H en v sv) : RV G L σ H en v sv := by
  cases sv with
  | d d => exact h
  | own b =>
    obtain ⟨p, u, h1, h2, h3, h4, h5, h6⟩ := h
    exact ⟨p, u, h1, h2, fun z => h3 (List.mem_cons_of_mem _ z), h4, h5, h6⟩
  | bor i => exact h
/-- an expression under a hold, then the rest -/
theorem seqHold {ma : M SV} {f : SV → M SV} {Q : VK} (R : RelS (G.hold a o) L σ H en) (nb : a ∉ G.B) (q : PostE G σ H L (mbind ma f en) Q) :
    tE (G.hold a o) ma σ H fun x H1 => ∃ en1 L1 sv, RelS (G.hold a o) L1 σ H1 en1 ∧ Same (hid H L) (hid H1 L1) ∧ RV G L1 σ H1 en1 x sv ∧ PostE G σ H1 L1 (f sv en1) Q := by
  refine ⟨en, L, R, ?_⟩
  unfold mbind at q
  cases e : ma en with
  | ok sv en' =>
    rw [e] at q
    exact fun v H' L' a b c => ⟨en', L', sv, a, b, c.ofHold, q.from b⟩
  | exc x en' =>
    rw [e] at q
    exact fun cls d σ' H' L' h1 h2 h3 h4 => q cls d σ' H' L' h1 (h2.ofHold nb) h3 h4
  | stuck =>
    rw [e] at q
    exact q
end
/-! ### d.get(k, x) -/
def getOr (kds : List (Key × D)) (y z : D) : M SV := fun en => match keyD y with
  | some k => .ok (.d ((valD kds k).getD z)) en
  | none => .stuck
def mGet2 (mo mk mx : M SV) : M SV := mbind mo fun so en => match so with
  | .own (.dct kds) => mbind (mfrz mk) (fun sk => mbind (mkeep mx) fun sx en => match look en sk, sx with
    | some y, .d z => getOr kds y z en
    | _, _ => .stuck) en
  | .bor i => (match en[i]? with
    | some (some (.own (.dct _))) => mbind (mfrz mk) (fun sk => mbind (mkeep mx) fun sx en => match look en sk, sx, en[i]? with
      | some y, .d z, some (some (.own (.dct kds))) => getOr kds y z en
      | _, _, _ => .stuck) en
    | _ => .stuck)
  | _ => .stuck
theorem getD_dq {K : Kf} {H : Hp} {k : Key} {kvs : List (Key × V)} {kds : List (Key × D)} {w : V} {z : D} (h : KD K H kvs kds) (hw : Dq K H w z) : Dq K H ((valV kvs k).getD w) ((valD kds k).getD z) := by
  rcases h.val (k := k) with ⟨e1, e2⟩ | ⟨v, d, e1, e2, q⟩
  · rw [e1, e2]; exact hw
  · rw [e1, e2]; exact q
section
variable {X : Cx} {G : Gs} {eo ek ex : Expr} {mo mk mx : M SV} {apos cpos : Pos}
/-- the key and the other value are read under any hold -/
theorem je_get2 (hu : X.A.units + 1 < cLine) (ho : PE X eo (tE G mo)) (hk : PE X ek (tE G mk)) (hx : PE X ex (tE G mx)) (hk' : ∀ a o, PE X ek (tE (G.hold a o) mk)) (hx' : ∀ a o, PE X ex (tE (G.hold a o) mx)) (m : M2 X eo "get" apos ek ex cpos) :
    PE X (.Call (.Attribute eo "get" apos) [ek, ex] [] cpos) (tE G (mGet2 mo mk mx)) :=
  (pe_dget2 (ty := fun σ H Q => tE G (mfrz mk) σ H Q ∨ ∃ p : Addr × HO, tE (G.hold p.1 p.2) (mfrz mk) σ H Q) (tx := fun σ H Q => tE G (mkeep mx) σ H Q ∨ ∃ p : Addr × HO, tE (G.hold p.1 p.2) (mkeep mx) σ H Q) hu ho
    ⟨fun pins s σ H Q I q => q.elim (fun q => (je_frz hk).run pins s σ H Q I q) fun ⟨p, q⟩ => (je_frz (hk' p.1 p.2)).run pins s σ H Q I q⟩
    ⟨fun pins s σ H Q I q => q.elim (fun q => (je_keep hx).run pins s σ H Q I q) fun ⟨p, q⟩ => (je_keep (hx' p.1 p.2)).run pins s σ H Q I q⟩ m).imp fun σ H Q h => by
    obtain ⟨en, L, R, q⟩ := h
    refine (seqE R q).mono fun x H1 ⟨en1, L1, so, R1, s1, r1, q1⟩ => ?_
    cases so with
    | d _ => exact q1.elim
    | own b =>
      cases b with
      | lst _ => exact q1.elim
      | dct kds =>
        obtain ⟨a, o, rfl, ma, nb, ho, hr, no⟩ := r1
        cases o with
        | dK kvs =>
          refine ⟨a, rfl, .inl ⟨kvs, .inl ho⟩, .inr ⟨(a, .dK kvs), ?_⟩⟩
          have Rh := R1.hold ma nb ho no
          refine (seqHold Rh nb q1).mono fun y H2 ⟨en2, L2, sk, R2, s2, r2, q2⟩ => .inr ⟨(a, .dK kvs), ?_⟩
          refine (seqHold R2 nb q2).mono fun w H3 ⟨en3, L3, sx, R3, s3, r3, q3⟩ => ?_
          split at q3
          · rename_i dy z ey
            unfold getOr at q3
            split at q3
            · rename_i k ek
              have R3' := R3.ofHold nb
              obtain ⟨rfl, _⟩ := key_of_D (RV.opd R3' s3 r2 ey) ek
              refine ⟨_, DGet.k R3.held.2.1, ?_⟩
              exact post_d R3' (getD_dq (hr.mono (s2.trans s3)) r3) q3
            · exact q3.elim
          · exact q3.elim
        | _ => exact hr.elim
    | bor i =>
      obtain ⟨e1, b, e2⟩ := r1
      dsimp only at q1
      split at q1
      · rename_i kds0 e0
        obtain ⟨a, kvs0, e3, m0, ho0, hr0⟩ := slot_dct R1 e0
        rw [e1] at e3
        cases e3
        refine ⟨a, rfl, .inl ⟨kvs0, .inl ho0⟩, .inl ?_⟩
        refine (seqE R1 q1).mono fun y H2 ⟨en2, L2, sk, R2, s2, r2, q2⟩ => .inl ?_
        refine (seqE R2 q2).mono fun w H3 ⟨en3, L3, sx, R3, s3, r3, q3⟩ => ?_
        split at q3
        · rename_i dy z kds ey e4
          unfold getOr at q3
          split at q3
          · rename_i k ek
            obtain ⟨a', kvs, e5, m, ho, hr⟩ := slot_dct R3 e4
            rw [e1] at e5
            cases e5
            obtain ⟨rfl, _⟩ := key_of_D (RV.opd R3 s3 r2 ey) ek
            exact ⟨_, DGet.k ho, post_d R3 (getD_dq hr r3) q3⟩
          · exact q3.elim
        · exact q3.elim
      · exact q1.elim
end
end L2

namespace L2
open PySem PySem.Spec PyProof.Rows

/-! ### {k: v for x in ..} -/
open Classical in
noncomputable def dcGo (tg : Tg) (mc : M Bool) (mk mv : M SV) (en0 : En) : List D → List (Key × D) → Option (List (Key × D))
  | [], acc => some acc
  | d :: r, acc => match setTg tg d en0 with
    | none => none
    | some en1 => match mc en1 with
      | .ok false en2 => if en2 = en1 then dcGo tg mc mk mv en0 r acc else none
      | .ok true en2 => if en2 = en1 then (match mkeep mk en1 with
        | .ok (.d y) en3 => if en3 = en1 then (match mkeep mv en1 with
          | .ok (.d z) en4 => (match keyD y with
            | some k => if en4 = en1 ∧ acc.length < sizeLine then dcGo tg mc mk mv en0 r (putD acc k z) else none
            | none => none)
          | _ => none) else none
        | _ => none) else none
      | _ => none
noncomputable def mDcGo (tg : Tg) (vs : List Nat) (mc : M Bool) (mk mv : M SV) (ds : List D) : M SV := fun en => if noOwn en vs then (match dcGo tg mc mk mv (wipeEn en vs) ds [] with
  | some acc => .ok (.own (.dct acc)) en
  | none => .stuck) else .stuck
def Gs.blkD (G : Gs) (D0 : Addr) (kvs : List (Key × V)) : Gs := { G with W := fun _ _ _ _ => False, B := D0 :: G.B, HB := upd G.HB D0 (.dK kvs) }
section
variable {G : Gs} {H H1 : Hp} {L : List Addr} {σ : St} {en : En} {D0 : Addr} {kvs : List (Key × V)}
theorem RelS.toBlkD (R : RelS G L σ H en) (n : H D0 = none) : RelS (G.blkD D0 []) (D0 :: L) σ (upd H D0 (.dK [])) en where
  own := (R.hide n (.inr ⟨[], rfl⟩)).own
  same := (R.hide n (.inr ⟨[], rfl⟩)).same
  len := R.len
  slot := (R.hide n (.inr ⟨[], rfl⟩)).slot
  apart := R.apart
  base := fun a m => by
    rcases List.mem_cons.mp m with rfl | m
    · exact ⟨List.mem_cons_self, by rw [upd_same]; exact upd_same.symm, own_out R (R.fresh_out n)⟩
    · obtain ⟨h1, h2, h3⟩ := (R.hide (o := .dK []) n (.inr ⟨[], rfl⟩)).base a m
      have hne : a ≠ D0 := fun z => R.fresh_base n (z ▸ m)
      exact ⟨h1, h2.trans (by show G.HB a = upd G.HB D0 (.dK []) a; rw [upd_ne hne]), h3⟩
theorem RelS.ofBlkD (R : RelS (G.blkD D0 kvs) L σ H en) (n : D0 ∉ G.B) : RelS G L σ H en where
  own := R.own
  same := R.same
  len := R.len
  slot := R.slot
  apart := R.apart
  base := fun a m => by
    obtain ⟨h1, h2, h3⟩ := R.base a (List.mem_cons_of_mem _ m)
    have hne : a ≠ D0 := fun z => n (z ▸ m)
    exact ⟨h1, h2.trans (by show upd G.HB D0 (.dK kvs) a = G.HB a; rw [upd_ne hne]), h3⟩
theorem RelS.pushBlkD (R : RelS (G.blkD D0 kvs) L σ H en) (n : D0 ∉ G.B) {kws : List (Key × V)} : RelS (G.blkD D0 kws) L σ (upd H D0 (.dK kws)) en := by
  obtain ⟨m, _, h3⟩ := R.base D0 List.mem_cons_self
  refine ⟨fun a ma => ?_, by rw [hid_upd m]; exact R.same, R.len, fun i sv e => ?_, R.apart, fun a ma => ?_⟩
  · by_cases ha : a = D0
    · subst ha
      exact .inr ⟨kws, upd_same⟩
    · rw [upd_ne ha]
      exact R.own a ma
  · have q := R.slot i sv e
    cases sv with
    | d dd => obtain ⟨v, e1, h⟩ := q; exact ⟨v, e1, by rw [hid_upd m]; exact h⟩
    | own b =>
      obtain ⟨c, u, e1, mc, hc, h⟩ := q
      have hne : c ≠ D0 := fun z => h3 i b e (by rw [← z]; exact e1)
      exact ⟨c, u, e1, mc, by rw [upd_ne hne]; exact hc, by rw [hid_upd m]; exact h⟩
    | bor _ => exact q
  · rcases List.mem_cons.mp ma with rfl | mb
    · exact ⟨m, by rw [upd_same]; exact upd_same.symm, h3⟩
    · obtain ⟨h1, h2, h4⟩ := R.base a ma
      have hne : a ≠ D0 := fun z => n (z ▸ mb)
      refine ⟨h1, ?_, h4⟩
      rw [upd_ne hne, h2]
      show upd G.HB D0 (.dK kvs) a = upd G.HB D0 (.dK kws) a
      rw [upd_ne hne, upd_ne hne]
end
section
variable {G : Gs} {J : It} {tg : Tg} {mc : M Bool} {mk mv : M SV} {ds : List D} {H : Hp} {L : List Addr} {σ : St} {en : En} {Q : VK} {vs : List Nat} {tt : TT} {tk tv : TE}
theorem dc_run {ok : Hp → List Addr → Prop} (W : Walks G.K J ok ds) (R : RelS G L σ H en) (q : PostE G σ H L (mDcGo tg vs mc mk mv ds en) Q) (hsub : ∀ j ∈ tg.slots, j ∈ vs)
    (k : ∀ (G' : Gs) H' L', G'.K = G.K → RelS G' L' (wipe σ vs) H' (wipeEn en vs) → Same (hid H L) (hid H' L') → ok H' L')
    (ht : ∀ (D0 : Addr) (xs : List (Key × V)) (σ' : St) (H' : Hp) Q, tT (G.blkD D0 xs) mc σ' H' Q → tt σ' H' Q) (hk : ∀ (D0 : Addr) (xs : List (Key × V)) (σ' : St) (H' : Hp) Q, tE (G.blkD D0 xs) (mkeep mk) σ' H' Q → tk σ' H' Q)
    (hv : ∀ (D0 : Addr) (xs : List (Key × V)) (σ' : St) (H' : Hp) Q, tE (G.blkD D0 xs) (mkeep mv) σ' H' Q → tv σ' H' Q) :
    ∀ D0, H D0 = none → ∃ W : Nat → Nat → Hp → Prop, (∃ m, W 0 m (upd H D0 (.dK []))) ∧ ∀ i m H, W i m H →
      (J.stop i H ∧ Q (.ref D0) H) ∨ (J.go i H ∧ ∃ Nx : Hp → Prop, (∀ H', Nx H' → ∃ m', m' < m ∧ W (i + 1) m' H') ∧ ∀ x H', J.yld i H x H' → gOf G.K tg x (wipe σ vs) H' fun σ2 H2 => wipe σ2 vs = wipe σ vs ∧ tt σ2 H2 fun b H3 =>
        if b = true then tk σ2 H3 fun y H4 => tv σ2 H4 fun z H5 => ∃ kvs k, y = kV k ∧ H5 D0 = some (.dK kvs) ∧ kvs.length < sizeLine ∧ Nx (upd H5 D0 (.dK (putK kvs k z))) else Nx H3) := by
  intro D0 nD
  have nB : D0 ∉ G.B := R.fresh_base nD
  have hw := (R.wipe vs)
  unfold mDcGo at q
  split at q
  · rename_i hno
    cases ec : dcGo tg mc mk mv (wipeEn en vs) ds [] with
    | none => rw [ec] at q; exact q.elim
    | some fin =>
      rw [ec] at q
      dsimp only at q
      let Inv : Nat → Nat → Hp → Prop := fun i m H' => i + m = ds.length ∧ ∃ (L' : List Addr) (acc : List (Key × D)) (xs : List (Key × V)), RelS (G.blkD D0 xs) L' (wipe σ vs) H' (wipeEn en vs) ∧ Same (hid H L) (hid H' L') ∧ KD G.K (hid H' L') xs acc ∧
        dcGo tg mc mk mv (wipeEn en vs) (ds.drop i) acc = some fin
      refine ⟨Inv, ⟨ds.length, by omega, D0 :: L, [], [], hw.toBlkD nD, hid_new nD, .nil, ec⟩, ?_⟩
      rintro i m H1 ⟨hm, L1, acc, xs, R1, s1, hacc, e1⟩
      have hD : H1 D0 = some (.dK xs) := (R1.base D0 List.mem_cons_self).2.1.trans upd_same
      have mD : D0 ∈ L1 := (R1.base D0 List.mem_cons_self).1
      have hok := k (G.blkD D0 xs) H1 L1 rfl R1 s1
      by_cases hi : i < ds.length
      · obtain ⟨d, hd⟩ : ∃ d, ds[i]? = some d := ⟨ds[i], List.getElem?_eq_getElem hi⟩
        have hdrop : ds.drop i = d :: ds.drop (i + 1) := by
          rw [List.drop_eq_getElem_cons hi]
          rw [List.getElem?_eq_getElem hi] at hd
          cases hd
          rfl
        rw [hdrop] at e1
        unfold dcGo at e1
        refine .inr ⟨W.go i H1 L1 hok hi, fun H' => ∃ (L' : List Addr) (acc : List (Key × D)) (xs : List (Key × V)), RelS (G.blkD D0 xs) L' (wipe σ vs) H' (wipeEn en vs) ∧ Same (hid H L) (hid H' L') ∧ KD G.K (hid H' L') xs acc ∧
          dcGo tg mc mk mv (wipeEn en vs) (ds.drop (i + 1)) acc = some fin, fun H' n => ⟨m - 1, by omega, by omega, n⟩, fun x H2 hy => ?_⟩
        obtain ⟨s2, hx⟩ := W.yld i H1 L1 x H2 d hok hd hy R1.own
        have R2 := R1.grow s2
        cases e2 : setTg tg d (wipeEn en vs) with
        | none => rw [e2] at e1; cases e1
        | some en1 =>
          rw [e2] at e1
          dsimp only at e1
          obtain ⟨hl1, ho1⟩ := setTg_out e2
          refine g_run (G := G.blkD D0 xs) R2 hx e2 fun σ2 R3 k3 => ?_
          have hwσ : wipe σ2 vs = wipe σ vs := by
            have := wipe_same (σ := wipe σ vs) (σ' := σ2) (vs := vs) (by rw [R2.len, R3.len, hl1]) fun j hj => k3 j fun z => hj (hsub j z)
            rw [this]
            exact wipe_same (by rw [wipe_length]) fun j hj => wipe_keeps σ vs j hj
          have hwe : wipeEn en1 vs = wipeEn en vs := by
            rw [wipeEn_same (en := wipeEn en vs) (en' := en1) hl1.symm fun j hj => ho1 j fun z => hj (hsub j z)]
            exact wipeEn_same (by rw [wipeEn_len]) fun j hj => wipeEn_out en hj
          have back : ∀ {xs' : List (Key × V)} {L' : List Addr} {H' : Hp}, RelS (G.blkD D0 xs') L' σ2 H' en1 → RelS (G.blkD D0 xs') L' (wipe σ vs) H' (wipeEn en vs) := fun r => by
            have z := r.wipe vs
            rw [hwσ, hwe] at z
            exact z
          refine ⟨hwσ, ht D0 xs σ2 H2 _ ⟨en1, L1, R3, ?_⟩⟩
          have s12 : Same (hid H1 L1) (hid H2 L1) := hid_mono s2
          cases e3 : mc en1 with
          | stuck => rw [e3] at e1; cases e1
          | exc _ _ => rw [e3] at e1; cases e1
          | ok b en2 =>
            rw [e3] at e1
            intro H3 L3 R4 s3
            cases b with
            | false =>
              dsimp only at e1
              split at e1
              · rename_i he2
                subst he2
                rw [if_neg Bool.false_ne_true]
                exact ⟨L3, acc, xs, back R4, s1.trans (s12.trans s3), hacc.mono (s12.trans s3), e1⟩
              · cases e1
            | true =>
              dsimp only at e1
              split at e1
              · rename_i he2
                subst he2
                rw [if_pos rfl]
                refine hk D0 xs σ2 H3 _ ⟨en2, L3, R4, ?_⟩
                cases e4 : mkeep mk en2 with
                | stuck => rw [e4] at e1; cases e1
                | exc _ _ => rw [e4] at e1; cases e1
                | ok sv en3 =>
                  rw [e4] at e1
                  cases sv with
                  | own _ => cases e1
                  | bor _ => cases e1
                  | d y =>
                    dsimp only at e1
                    split at e1
                    · rename_i he3
                      subst he3
                      intro u H4 L4 R5 s4 hu
                      refine hv D0 xs σ2 H4 _ ⟨en3, L4, R5, ?_⟩
                      cases e5 : mkeep mv en3 with
                      | stuck => rw [e5] at e1; cases e1
                      | exc _ _ => rw [e5] at e1; cases e1
                      | ok sv en4 =>
                        rw [e5] at e1
                        cases sv with
                        | own _ => cases e1
                        | bor _ => cases e1
                        | d z =>
                          dsimp only at e1
                          split at e1
                          · rename_i kk ek
                            split at e1
                            · rename_i hc
                              obtain ⟨he4, hlen⟩ := hc
                              subst he4
                              intro v H5 L5 R6 s5 hv5
                              have hD5 : H5 D0 = some (.dK xs) := (R6.base D0 List.mem_cons_self).2.1.trans upd_same
                              have mD5 : D0 ∈ L5 := (R6.base D0 List.mem_cons_self).1
                              have st : Same (hid H1 L1) (hid H5 L5) := s12.trans (s3.trans (s4.trans s5))
                              obtain ⟨rfl, _⟩ := key_of_D (L := L4) (.inl hu) ek
                              refine ⟨xs, kk, rfl, hD5, by rw [hacc.length]; exact hlen, L5, putD acc kk z, putK xs kk v, (back R6).pushBlkD nB, by rw [hid_upd mD5]; exact s1.trans st, ?_, e1⟩
                              rw [hid_upd mD5]
                              exact (hacc.mono st).put hv5
                            · cases e1
                          · cases e1
                    · cases e1
              · cases e1
      · have hi' : i = ds.length := by omega
        have hdrop : ds.drop i = [] := List.drop_eq_nil_of_le (by omega)
        rw [hdrop] at e1
        cases e1
        refine .inl ⟨W.stop i H1 L1 hok hi', ?_⟩
        have hbase := (R1.base D0 List.mem_cons_self).2.2
        have R2 : RelS G L1 (wipe σ vs) H1 (wipeEn en vs) := R1.ofBlkD nB
        have nown : ∀ (j : Nat) (c : OB), en[j]? = some (some (SV.own c)) → j ∉ vs := fun j c ej mj => by
          have z := List.all_eq_true.mp hno j mj
          simp only [ej] at z
          cases z
        have R3 : RelS G L1 σ H1 en := by
          refine ⟨R2.own, R2.same, R.len, fun j sv ej => ?_, R.apart, fun a ma => ?_⟩
          · by_cases mj : j ∈ vs
            · have z := R.slot j sv ej
              cases sv with
              | d dd => obtain ⟨v, q1, q2⟩ := z; exact ⟨v, q1, Dq.mono s1 _ q2⟩
              | own c => exact absurd mj (nown j c ej)
              | bor _ => exact z
            · have z := R2.slot j sv (by rw [wipeEn_out _ mj]; exact ej)
              rw [wipe_keeps σ vs j mj] at z
              exact z
          · obtain ⟨h1, h2, h3⟩ := R2.base a ma
            refine ⟨h1, h2, fun j c ej => ?_⟩
            have mj := nown j c ej
            have z := h3 j c (by rw [wipeEn_out _ mj]; exact ej)
            rw [wipe_keeps σ vs j mj] at z
            exact z
        refine q _ H1 L1 R3 s1 ⟨D0, .dK xs, rfl, mD, nB, hD, hacc, fun j c ej => ?_⟩
        have mj := nown j c ej
        have z := hbase j c (by rw [wipeEn_out _ mj]; exact ej)
        rw [wipe_keeps σ vs j mj] at z
        exact z
  · exact q.elim
end
noncomputable def mDc (tg : Tg) (vs : List Nat) (mi : M SV) (mc : M Bool) (mk mv : M SV) : M SV := mbind (mfrz mi) fun sv en => match sv with
  | .d (.list ds) => mDcGo tg vs mc mk mv ds en
  | .d (.tuple ds) => mDcGo tg vs mc mk mv ds en
  | .d (.str z) => mDcGo tg vs mc mk mv (signs z) en
  | .bor i => (match en[i]? with
    | some (some (.own (.lst ds))) => if vs.contains i then .stuck else mDcGo tg vs mc mk mv ds en
    | _ => .stuck)
  | _ => .stuck
section
variable {X : Cx} {G : Gs} {kx vx t iter : Expr} {ifs : List Expr} {scope : Scope} {own : List (Str × Nat)} {mi mk mv : M SV} {mc : M Bool} {tg : Tg} {pos : Pos} {tt : TT} {tk tv : TE}
theorem dc_imp (hsub : ∀ j ∈ tg.slots, j ∈ own.map (·.2)) (ht : ∀ (D0 : Addr) (xs : List (Key × V)) (σ' : St) (H' : Hp) Q, tT (G.blkD D0 xs) mc σ' H' Q → tt σ' H' Q) (hk : ∀ (D0 : Addr) (xs : List (Key × V)) (σ' : St) (H' : Hp) Q, tE (G.blkD D0 xs) (mkeep mk) σ' H' Q → tk σ' H' Q)
    (hv : ∀ (D0 : Addr) (xs : List (Key × V)) (σ' : St) (H' : Hp) Q, tE (G.blkD D0 xs) (mkeep mv) σ' H' Q → tv σ' H' Q)
    (σ : St) (H : Hp) (Q : VK) (h : tE G (mDc tg (own.map (·.2)) mi mc mk mv) σ H Q) : tDc (iAny G.K (tE G (mfrz mi))) (gOf G.K tg) tt tk tv (own.map (·.2)) σ H Q := by
  obtain ⟨en, L, R, q⟩ := h
  refine (seqE R q).mono fun v H1 ⟨en1, L1, sv, R1, s1, r1, q1⟩ => ?_
  cases sv with
  | own _ => exact q1.elim
  | bor i =>
    obtain ⟨e1, b, e2⟩ := r1
    simp only [e2] at q1
    cases b with
    | dct _ => exact q1.elim
    | lst ds =>
      dsimp only at q1
      split at q1
      · exact q1.elim
      · rename_i hni
        obtain ⟨a, xs, e3, ma, ho, hr⟩ := slot_lst R1 e2
        rw [e1] at e3
        cases e3
        have mi' : i ∉ own.map (·.2) := fun z => hni (List.contains_iff_mem.mpr z)
        refine .inl ⟨a, xs, rfl, .of ho, dc_run walks_list R1 q1 hsub (fun G' H' L' hK R' s' => ?_) ht hk hv⟩
        obtain ⟨a', xs', e4, _, ho', hr'⟩ := slot_lst R' (i := i) (ds := ds) (by rw [wipeEn_out _ mi']; exact e2)
        rw [wipe_keeps σ _ i mi', e1] at e4
        cases e4
        rw [hK] at hr'
        exact ⟨xs', ho', hr'⟩
  | d d =>
    cases d with
    | list ds =>
      cases r1 with
      | lst hs ha => exact .inl ⟨_, _, rfl, .of (hid_same _ _ hs), dc_run walks_list R1 q1 hsub (fun G' H' L' hK R' s' => ⟨_, hid_same _ _ (s' _ _ hs), DqAll.mono s' _ ha⟩) ht hk hv⟩
    | tuple ds =>
      cases r1 with
      | tup hs ha => exact .inr (.inl ⟨_, _, rfl, sqT_mono hid_same hs, dc_run walks_tup R1 q1 hsub (fun G' H' L' hK R' s' => ⟨_, sqT_mono hid_same (sqT_mono s' hs), DqAll.mono s' _ ha⟩) ht hk hv⟩)
    | str z =>
      cases r1
      exact .inr (.inr ⟨z, rfl, dc_run walks_str R1 q1 hsub (fun _ _ _ _ _ _ => trivial) ht hk hv⟩)
    | _ => exact q1.elim
/-- what stands in the block -/
structure InBlkD (X : Cx) (G : Gs) (scope : Scope) (t kx vx : Expr) (ifs : List Expr) (tg : Tg) (mc : M Bool) (mk mv : M SV) : Prop where
  g : ∀ (s : Shared) (H : Hp) (C : Addr) (cl : List (Str × Addr)) (fp : List Addr), PG (X.blk s H scope (compEnvC scope cl C X.env) fp) t (gOf X.K tg)
  c : ∀ (s : Shared) (H : Hp) (C : Addr) (cl : List (Str × Addr)) (fp : List Addr) (D0 : Addr) (xs : List (Key × V)), PTs (X.blk s H scope (compEnvC scope cl C X.env) fp) ifs (tT (G.blkD D0 xs) mc)
  k : ∀ (s : Shared) (H : Hp) (C : Addr) (cl : List (Str × Addr)) (fp : List Addr) (D0 : Addr) (xs : List (Key × V)), PE (X.blk s H scope (compEnvC scope cl C X.env) fp) kx (tE (G.blkD D0 xs) mk)
  v : ∀ (s : Shared) (H : Hp) (C : Addr) (cl : List (Str × Addr)) (fp : List Addr) (D0 : Addr) (xs : List (Key × V)), PE (X.blk s H scope (compEnvC scope cl C X.env) fp) vx (tE (G.blkD D0 xs) mv)
theorem je_dc (hc : X.calm = true) (hN : X.N.Nodup) (hK : X.K = G.K) (hi : PE X iter (tE G mi)) (ok : BlkOk X.N X.env.scope scope own) (B : InBlkD X G scope t kx vx ifs tg mc mk mv) (hsub : ∀ j ∈ tg.slots, j ∈ own.map (·.2))
    (hs : ∀ x, foldedSetIterable iter X.env x = pure x := by intro _; rfl) : PE X (.DictComp kx vx [⟨t, iter, ifs, 0⟩] scope pos) (tE G (mDc tg (own.map (·.2)) mi mc mk mv)) :=
  (pe_dc (tt := fun σ H Q => ∃ p : Addr × List (Key × V), tT (G.blkD p.1 p.2) mc σ H Q) (tk := fun σ H Q => ∃ p : Addr × List (Key × V), tE (G.blkD p.1 p.2) (mkeep mk) σ H Q) (tv := fun σ H Q => ∃ p : Addr × List (Key × V), tE (G.blkD p.1 p.2) (mkeep mv) σ H Q)
    hc hN (pi_any (je_frz hi)) ok B.g (fun s H C cl fp => PTs.ex fun p => B.c s H C cl fp p.1 p.2) (fun s H C cl fp => PE.ex fun p => je_keep (B.k s H C cl fp p.1 p.2)) (fun s H C cl fp => PE.ex fun p => je_keep (B.v s H C cl fp p.1 p.2)) hs).imp fun σ H Q h => by
    rw [hK]
    exact dc_imp hsub (fun D0 xs _ _ _ q => ⟨(D0, xs), q⟩) (fun D0 xs _ _ _ q => ⟨(D0, xs), q⟩) (fun D0 xs _ _ _ q => ⟨(D0, xs), q⟩) σ H Q h
end
end L2

namespace L2
open PySem PySem.Spec PyProof.Rows

/-! ### sorted(set(xs)), xs texts -/
def sortSet (xs : List Str) : List Str := sortStrs xs.eraseDups
def ssD : D → Option (List Str)
  | .list ds => (match strsOf ds with
    | some xs => if xs.length < 64 then some (sortSet xs) else none
    | none => none)
  | _ => none
def mSortSet (m : M SV) : M SV := mbind (mfrz m) fun sv en => match look en sv with
  | some d => (match ssD d with
    | some xs => .ok (.own (.lst (xs.map .str))) en
    | none => .stuck)
  | none => .stuck
section
variable {X : Cx} {G : Gs} {e : Expr} {m : M SV} {p p2 pos pos2 : Pos}
/-! ### an expression as a statement -/
def mExpr (m : M SV) : M Ct := mbind m fun _ => mpure .nx
theorem js_expr (he : PE X e (tE G m)) (hs : swapsWith e none pos.line X.env = pure false := by rfl) : PS X (.Expr e pos) (tS G [] (mExpr m)) := (ps_expr he hs).imp fun E σ H h => by
  obtain ⟨en, L, R, q⟩ := h
  refine (seqES R q).mono fun v H1 ⟨en1, L1, sv, R1, s1, r1, q1⟩ => ?_
  exact q1 σ H1 L1 R1 (Same.refl _) Keeps.refl
end
end L2

namespace L2
open PySem PySem.Spec PyProof.Rows

/-! ### the law's own call -/
def spLaw (K : Kf) : Sp := fun vs H Q _ => ∃ (a : Addr) (ns : List Int), vs = [.ref a] ∧ ns.length ≤ 63 ∧ SqL K H a (ns.map V.int) ∧ ∀ H', Q (.bl true) H'
theorem fn_law {P : Program} {w : World} {K : Kf} {mg : Str → Option Value} {base : Heap} {k : Nat} {f : Addr} {fd : FuncData} {ps : List Str} {F : Fm} (hp : ps.length = 1) (h : FnOk P w K mg base (L2N.CX P w) k f fd ps (spF K mg 1 F))
    (math : ∀ ns : List Int, ns.length ≤ 63 → ∃ en, F [scrD ns] = .ok (.d (.bool true)) en) : FnOk P w K mg base (L2N.CX P w) k f fd ps (spLaw K) where
  len := fun vs H Q E ⟨a, ns, e, _⟩ => by rw [e, hp]; rfl
  run := fun A outer s H args us vs Q E hr he hb hv ⟨a, ns, e, hl, hS, q⟩ => h.run A outer s H args us vs Q E hr he hb hv (by
    subst e
    obtain ⟨en, em⟩ := math ns hl
    refine ⟨rfl, [], [scrD ns], (fun a m => absurd m List.not_mem_nil), .cons (.scr ?_) .nil, ?_⟩
    · rw [hid_nil]; exact hS
    · rw [em]
      intro v H' _ r
      cases r
      exact q H')
theorem cx_no {P : Program} {w : World} {H : Hp} {s s' : Shared} {e : Value} (h : L2N.CX P w [] H s (fun _ _ _ => False) e s') : False := by
  obtain ⟨a, B, H', cls, d, _, _, _, _, _, _, _, z⟩ := h
  exact z
theorem exm_eq {K : Kf} {C : Addr} (e : W.subIn K (.ref C) (.type "BaseException") = some true) (j : W.isClsIn K C = true) (t : W.typeIn K (.ref C) = some (.type "type")) (s : W.subIn K (.ref C) (.ref C) = some true) : W.exmOne K (.ref C) (.ref C) = some true := by
  have j' : (W.clsIn K C).isSome = true := j
  unfold W.exmOne W.kitCls
  rw [e]
  simp only [beq_self_eq_true, if_true]
  rw [j', t]
  simp only [beq_self_eq_true, Bool.and_self, if_true]
  exact s
end L2

namespace L2
open PySem PySem.Spec PyProof.Rows

/-! ### a set of texts, with what its order rests on -/
def GoodT (w : World) (e : Int × Value) : Prop := ∃ x tk, e.2 = .str x tk ∧ e.1 = hashStr w x
def keyT (e : Int × Value) : Str := match e.2 with
  | .str x _ => x
  | _ => Str.empty
structure SetT (w : World) (h : Heap) (a : Addr) (xs : List Str) (n : Nat) (ob : Obj) (es : Array (Int × Value)) (ep : Nat) (t : SetTable) : Prop where
  at_ : h.get? a = some ob
  ex : ob.ExactSet
  dat : ob.data = .set es ep t
  good : ∀ e ∈ es.toList, GoodT w e
  nd : (es.toList.map keyT).Nodup
  mem : ∀ x, x ∈ xs ↔ x ∈ es.toList.map keyT
  few : es.size ≤ n
  fits : t.fits es.size = true
  ris : Ris t.place.toList
  led : w.params.followText "set-order" = true ∨ t.led = true
def HasT (w : World) (h : Heap) (a : Addr) (xs : List Str) (n : Nat) : Prop := ∃ ob es ep t, SetT w h a xs n ob es ep t
theorem HasT.keep {w : World} {h h' : Heap} {a : Addr} {xs : List Str} {n : Nat} (S : HasT w h a xs n) (k : ∀ o, h.get? a = some o → h'.get? a = some o) : HasT w h' a xs n := by
  obtain ⟨ob, es, ep, t, S⟩ := S
  exact ⟨ob, es, ep, t, { S with at_ := k _ S.at_ }⟩
theorem goodT_elems {P : Program} {w : World} {l : List (Int × Value)} (g : ∀ e ∈ l, GoodT w e) : ElemsOf (PySem.strKind P w) l := fun e m => by
  obtain ⟨x, tk, h1, h2⟩ := g e m
  rw [h1]
  exact ⟨⟨x, strKind_is _ _ _ _, h2⟩, rfl⟩
theorem goodT_key {P : Program} {w : World} {l : List (Int × Value)} (g : ∀ e ∈ l, GoodT w e) (x : Str) : x ∈ l.map keyT ↔ ∃ e ∈ l, (PySem.strKind P w).is x e.2 = true := by
  constructor
  · intro m
    obtain ⟨e, me, q⟩ := List.mem_map.mp m
    obtain ⟨y, tk, h1, _⟩ := g e me
    refine ⟨e, me, ?_⟩
    have : y = x := by rw [← q]; unfold keyT; rw [h1]
    rw [h1, this]
    exact strKind_is _ _ _ _
  · rintro ⟨e, me, q⟩
    obtain ⟨y, tk, h1, _⟩ := g e me
    refine List.mem_map.mpr ⟨e, me, ?_⟩
    have c : (PySem.strKind P w).is y e.2 = true := by rw [h1]; exact strKind_is _ _ _ _
    have := (PySem.strKind P w).inj _ _ _ c q
    unfold keyT
    rw [h1]
    exact this
section
variable {P : Program} {w : World} {A : Around} {E : Value → Shared → Prop} {s : Shared} {a : Addr} {xs : List Str} {n : Nat} {x : Str}
/-- what stands behind the table's new row -/
theorem add_end {g : Bool → Sem Unit} (hg : ∀ b s₁ (Q' : Unit → Shared → Prop), Q' () s₁ → wpAny (model P w) A (g b) Q' E s₁) {ob : Obj} {es es1 : Array (Int × Value)} {ep : Nat} {t t2 : SetTable}
    (h0 : s.heap.get? a = some ob) (hx : ob.ExactSet) (h1 : ob.data = .set es ep t) (g1 : ∀ e ∈ es1.toList, GoodT w e) (n1 : (es1.toList.map keyT).Nodup) (m1 : ∀ y, y ∈ x :: xs ↔ y ∈ es1.toList.map keyT)
    (f1 : es1.size ≤ n) (hn : n < scanBound) (f2 : t2.fits es1.size = true) (r2 : Ris t2.place.toList) (l2 : w.params.followText "set-order" = true ∨ t2.led = true) {old : Bool} {R : Option Bool → Shared → Prop}
    (k : ∀ h', Heap.SameBut a s.heap h' → HasT w h' a (x :: xs) n → R (some true) { s with heap := h' }) :
    wpAny (model P w) A (do
      storeSet a es1 t2
      if (!old && t2.tooFull) = true then do
        g (relayAll t2 es1 (SetTable.grown es1.size)).2.2
        storeSet a (relayAll t2 es1 (SetTable.grown es1.size)).1 (relayAll t2 es1 (SetTable.grown es1.size)).2.1
        pure (some true)
      else pure (some true)) R E s := by
  have b1 : es1.size < scanBound := Nat.lt_of_le_of_lt f1 hn
  have o1 := store_at (es' := es1) (t' := t2) h0 h1
  have c1 := Heap.SameBut.update s.heap a (Obj.putSet es1 t2)
  refine wpAny_bind (wpAny_storeSet_of h0 h1 ?_ (fits_of_scanBound b1))
  by_cases hf : (!old && t2.tooFull) = true
  · rw [if_pos hf]
    have pm := relayAll_perm t2 es1 (SetTable.grown es1.size); have f3 := relayAll_fits t2 es1 (SetTable.grown es1.size)
    have r3 := relayAll_ris t2 es1 (SetTable.grown es1.size); have l3 := relayAll_led t2 es1 (SetTable.grown es1.size)
    generalize relayAll t2 es1 (SetTable.grown es1.size) = Y at pm f3 r3 l3 ⊢
    obtain ⟨es2, t3, gv⟩ := Y
    dsimp only at pm f3 r3 l3 ⊢
    have z2 : es2.size = es1.size := by rw [← Array.length_toList, pm.length_eq, Array.length_toList]
    refine wpAny_bind (hg _ _ _ (wpAny_bind (wpAny_storeSet_of o1 rfl ?_ (fits_of_scanBound (by rw [z2]; exact b1)))))
    have o2 := store_at (es' := es2) (t' := t3) o1 rfl
    exact wpAny_pure (k _ (c1.trans (Heap.SameBut.update _ a _)) ⟨_, es2, _, t3, { at_ := o2, ex := hx, dat := rfl, good := fun e m => g1 e (pm.mem_iff.mp m), nd := (pm.map keyT).nodup_iff.mpr n1, mem := fun y => (m1 y).trans (pm.map keyT).mem_iff.symm, few := by rw [z2]; exact f1, fits := f3, ris := r3, led := l2.imp id fun q => by rw [l3]; exact q }⟩)
  · rw [if_neg hf]
    exact wpAny_pure (k _ c1 ⟨_, es1, _, t2, { at_ := o1, ex := hx, dat := rfl, good := g1, nd := n1, mem := m1, few := f1, fits := f2, ris := r2, led := l2 }⟩)
theorem addT {tk : Tok} {Q : Bool → Shared → Prop} (S : HasT w s.heap a xs n) (room : n + 1 < scanBound) (k : ∀ b h', Heap.SameBut a s.heap h' → HasT w h' a (x :: xs) (n + 1) → Q b { s with heap := h' }) :
    wpAny (model P w) A (setAddHashed a (.str x tk) ((PySem.strKind P w).hash x)) Q E s := by
  obtain ⟨ob, es, ep, t, S⟩ := S
  have hk : (PySem.strKind P w).is x (.str x tk) = true := strKind_is _ _ _ _
  have hs : (Value.str x tk).scannable = true := rfl
  have he := goodT_elems (P := P) S.good
  have hb : es.size < scanBound := by have := S.few; omega
  unfold setAddHashed setAddHashedIn
  refine wpAny_holding (wpAny_bind (wpAny_setState_of S.at_ S.dat S.fits ?_))
  dsimp only
  rw [byScan_of hs hb he, if_pos rfl]
  unfold setAddByScan
  refine wpAny_bind (wpAny_bind (wpAny_rule (wpAny_bind (wpAny_setScan_of hk S.at_ S.dat S.fits he ?_))))
  cases hf : List.findIdx? (fun e => (PySem.strKind P w).is x e.2) es.toList with
  | some j =>
    obtain ⟨lj, pj, _⟩ := List.findIdx?_eq_some_iff_getElem.mp hf
    have mx : x ∈ es.toList.map keyT := (goodT_key (P := P) S.good x).mpr ⟨_, List.getElem_mem lj, pj⟩
    refine wpAny_pure (wpAny_pure (k false s.heap (Heap.SameBut.refl a s.heap) ⟨ob, es, ep, t, { S with mem := fun y => ?_, few := Nat.le_succ_of_le S.few }⟩))
    rw [List.mem_cons, ← S.mem y]
    exact ⟨fun z => z.elim (fun q => by rw [q]; exact (S.mem x).mpr mx) id, .inr⟩
  | none =>
    dsimp only
    have nx : x ∉ es.toList.map keyT := fun z => by
      obtain ⟨e, me, q⟩ := (goodT_key (P := P) S.good x).mp z
      have c := List.findIdx?_eq_none_iff.mp hf e me
      rw [q] at c
      cases c
    have gw : ∀ (b : Bool) {s₁ : Shared} {Q' : Unit → Shared → Prop}, Q' () s₁ → wpAny (model P w) A (match b with
        | true => rule "set.scan.the-table-gave-way"
        | false => pure ()) Q' E s₁ := fun b s₁ Q' q => by cases b <;> first | exact wpAny_pure q | exact wpAny_rule q
    have pm := layNew_perm t es ((PySem.strKind P w).hash x) (.str x tk); have f1 := layNew_fits t es ((PySem.strKind P w).hash x) (.str x tk)
    have r1 := layNew_ris t es ((PySem.strKind P w).hash x) (.str x tk) S.ris; have l1 := layNew_led t es ((PySem.strKind P w).hash x) (.str x tk)
    generalize layNew t es ((PySem.strKind P w).hash x) (.str x tk) = Y at pm f1 r1 l1 ⊢
    obtain ⟨es1, t1, old, gv⟩ := Y
    dsimp only at pm f1 r1 l1 ⊢
    rw [Array.toList_push] at pm
    have pc : es1.toList.Perm (((PySem.strKind P w).hash x, Value.str x tk) :: es.toList) := pm.trans (List.perm_append_singleton _ _)
    have pk : (es1.toList.map keyT).Perm (x :: es.toList.map keyT) := pc.map keyT
    have g1 : ∀ e ∈ es1.toList, GoodT w e := fun e m => (List.mem_cons.mp (pc.mem_iff.mp m)).elim (fun q => by rw [q]; exact ⟨x, tk, rfl, rfl⟩) (S.good e)
    have n1 : (es1.toList.map keyT).Nodup := pk.nodup_iff.mpr (List.nodup_cons.mpr ⟨nx, S.nd⟩)
    have m1 : ∀ y, y ∈ x :: xs ↔ y ∈ es1.toList.map keyT := fun y => by rw [pk.mem_iff, List.mem_cons, List.mem_cons, S.mem y]
    have z1 : es1.size ≤ n + 1 := by
      rw [← Array.length_toList, pc.length_eq, List.length_cons, Array.length_toList]
      exact Nat.succ_le_succ S.few
    have ld : w.params.followText "set-order" = true ∨ t1.led = true := S.led.imp id fun q => by rw [l1]; exact q
    refine wpAny_bind (gw _ ?_)
    split
    · refine wpAny_bind ?_
      rw [hashByValue_scannable 8 hs]
      refine wpAny_pure (add_end (fun b s₁ Q' q => by cases b <;> first | exact wpAny_pure q | exact wpAny_rule q) S.at_ S.ex S.dat g1 n1 m1 z1 room ?_ ?_ ?_ ?_)
      · first | (split <;> first | exact f1 | exact SetTable.fits_plain_off f1) | exact f1
      · first | (split <;> exact r1) | exact r1
      · first | (split <;> exact ld) | exact ld
      · exact fun h' sb r => wpAny_pure (k true h' sb r)
    · refine wpAny_bind (wpAny_pure ?_)
      rw [if_pos rfl]
      exact add_end (fun b s₁ Q' q => by cases b <;> first | exact wpAny_pure q | exact wpAny_rule q) S.at_ S.ex S.dat g1 n1 m1 z1 room f1 r1 ld fun h' sb r => wpAny_pure (k true h' sb r)
end
end L2

namespace L2
open PySem PySem.Spec PyProof.Rows

section
variable {P : Program} {w : World} {A : Around} {E : Value → Shared → Prop} {s : Shared} {a : Addr} {xs : List Str} {n : Nat}
theorem strs_of_all : ∀ (vs : List Value), (∀ v ∈ vs, ∃ x t, v = .str x t) → ∃ ss, StrsAre vs ss
  | [], _ => ⟨[], .nil⟩
  | v :: r, h => by
    obtain ⟨x, t, rfl⟩ := h v List.mem_cons_self
    obtain ⟨ss, q⟩ := strs_of_all r fun u m => h u (List.mem_cons_of_mem _ m)
    exact ⟨x :: ss, .cons x t q⟩
theorem strsAre_key : ∀ {vs : List Value} {ss : List Str}, StrsAre vs ss → ss = vs.map fun v => keyT (0, v)
  | _, _, .nil => rfl
  | _, _, .cons x t h => by rw [List.map_cons, ← strsAre_key h]; rfl
/-- sorted(it) -/
theorem sortT {Q : Value → Shared → Prop} (S : HasT w s.heap a xs n) (hh : A.handled = none) (hn : n < scanBound)
    (k : ∀ s' p (out : Array Value) (c : Nat) (ys : List Str), (∀ b o, s.heap.get? b = some o → s'.heap.get? b = some o) → s'.gens = s.gens → s'.os = s.os → s.heap.objs.size ≤ p →
      s'.heap.get? p = some (seqObj "list" out c) → StrsAre out.toList ys → ys.length ≤ n → ys.Nodup → (∀ x, x ∈ ys ↔ x ∈ xs) → sortedS ys = true → Q (.ref p) s') :
    wpAny (model P w) A (call (.builtin "sorted") [.ref a]) Q E s := by
  obtain ⟨ob, es, ep, t, S⟩ := S
  have hb : es.size < scanBound := Nat.lt_of_le_of_lt S.few hn
  refine Calls.call_function_entry kind_sorted plain_sorted entry_sorted (args_sorted1 _) ?_
  unfold Builtin.«sorted»
  refine wpAny_bind (m := checkCount "sorted" 1 1 _) (wpAny_pure (wpAny_bind (collect_set (A := A.in1) hh ⟨ob, S.at_, S.ex.1, S.dat⟩ S.fits hb S.ris S.led fun s1 vs k1 hz g1 o1 pm => ?_)))
  obtain ⟨ss, hS⟩ := strs_of_all vs fun v m => by
    obtain ⟨e, me, q⟩ := List.mem_map.mp (pm.mem_iff.mp m)
    obtain ⟨x, tk, h1, _⟩ := S.good e me
    exact ⟨x, tk, by rw [← q]; exact h1⟩
  have pk : ss.Perm (es.toList.map keyT) := by
    rw [strsAre_key hS]
    have q := pm.map fun v => keyT (0, v)
    rw [List.map_map] at q
    exact q
  have hvl : vs.length ≤ sizeLine := by
    rw [pm.length_eq, List.length_map, Array.length_toList]
    exact fits_of_scanBound hb
  refine wpAny_bind (wpAny_newList ?_ hvl)
  have hoL : (s1.heap.push (seqObj "list" vs.toArray 0)).get? s1.heap.objs.size = some (seqObj "list" vs.toArray 0) := Heap.get?_push_size _ rfl
  refine wpAny_bind (wpAny_holding (wpAny_call_entry slot_list_sort ⟨_, hoL, rfl⟩ entry_list_sort (list_sort_treeKAny strKind_oneLt hoL hS.keysOf (fun v₁ v₂ rest e => keyKind_strs (by rw [← e]; exact hS)) hvl fun st' hp hs => ⟨_, rfl, ?_⟩) (args_list_sort _)))
  obtain ⟨ys, h1, h2, h3⟩ := sorted_out_str hS hp hs
  obtain ⟨c, hc⟩ := sortedHeap_at (vs := vs) (out := (arrOf st').map (·.2)) hoL
  have pn : ys.Perm (es.toList.map keyT) := h2.trans pk
  refine wpAny_pure ⟨_, rfl, k _ s1.heap.objs.size _ c ys (fun b u e => ?_) g1 o1 hz hc h1 (by rw [pn.length_eq, List.length_map, Array.length_toList]; exact S.few) (pn.nodup_iff.mpr S.nd) (fun x => by rw [pn.mem_iff, ← S.mem x]) h3⟩
  have q := k1 b u e
  have hlt := Heap.lt_size q
  show (sortedHeap (s1.heap.push (seqObj "list" vs.toArray 0)) s1.heap.objs.size vs _).get? b = some u
  rw [sortedHeap_old (Nat.ne_of_lt hlt) (by rw [size_push']; exact Nat.lt_succ_of_lt hlt)]
  exact Heap.get?_push_of_some _ q
theorem led_fresh (w : World) : w.params.followText "set-order" = true ∨ (SetTable.fresh 0 0 (!w.params.followText "set-order")).led = true := by
  cases h : w.params.followText "set-order"
  · exact .inr rfl
  · exact .inl rfl
theorem HasT.fresh {h : Heap} (w : World) : HasT w (h.push { cls := .type "set", dict := none, data := .set #[] 0 (.fresh 0 0 (!w.params.followText "set-order")) }) h.objs.size [] 0 :=
  ⟨_, #[], 0, _, { at_ := Heap.get?_push_size _ rfl, ex := ⟨rfl, rfl, rfl⟩, dat := rfl, good := fun e he => by simp at he, nd := by simp, mem := fun x => by simp, few := Nat.le_refl 0, fits := by rfl, ris := .nil, led := led_fresh w }⟩
theorem HasT.more {h : Heap} {ys : List Str} {m : Nat} (S : HasT w h a xs n) (e : ∀ x, x ∈ ys ↔ x ∈ xs) (l : n ≤ m) : HasT w h a ys m := by
  obtain ⟨ob, es, ep, t, S⟩ := S
  exact ⟨ob, es, ep, t, { S with mem := fun x => (e x).trans (S.mem x), few := Nat.le_trans S.few l }⟩
/-- the loop of set(xs) -/
theorem loopT {R : Result → Shared → Prop} {I : Addr} {fp wr : List Addr} {G : Array GenState → Array GenState → Prop} {n : Nat} {Pv : Nat → Value → Prop} {St : Nat → Shared → Prop} (W : WalksS P w A.in1 I fp wr G n Pv St) (a : Addr) (hf : a ∉ fp) (ts : List Str) (hl : ts.length = n) (hn : n + 1 < scanBound)
    (hv : ∀ i v, Pv i v → ∃ t, v = .str (ts.getD i Str.empty) t) : ∀ (k i : Nat) (s : Shared), n - i = k → i ≤ n → St i s → HasT w s.heap a (ts.take i) i →
      (∀ s', Moved (a :: wr) G s s' → HasT w s'.heap a ts n → R (.ok (.ret .none)) s') → codeAny (model P w) A (.builtin "set.update.loop" ⟨[.ref a, .ref I], []⟩) R s := by
  have nw : a ∉ wr := fun h => hf (W.sub _ h)
  have ws : ∀ b ∈ wr, b ∈ a :: wr := fun b => List.mem_cons_of_mem _
  intro k
  induction k with
  | zero =>
    intro i s hk hi hst S kR
    obtain rfl : i = n := by omega
    refine codeAny_builtin PyProof.Rows.F.entry_set_update_loop ?_
    rw [Around.under_plainId PyProof.Rows.F.plain_set_update_loop _]
    show wpAny _ A.in1 (pyNext (.ref I) >>= _) _ _ s
    refine wpAny_bind (W.done s _ _ hst fun s' mv => ?_)
    rw [List.take_of_length_le (by omega)] at S
    exact wpAny_pure (kR s' (mv.mono ws) (S.keep fun o e => mv.heap a o nw e))
  | succ k ih =>
    intro i s hk hi hst S kR
    have lt : i < n := by omega
    refine codeAny_builtin PyProof.Rows.F.entry_set_update_loop ?_
    rw [Around.under_plainId PyProof.Rows.F.plain_set_update_loop _]
    show wpAny _ A.in1 (pyNext (.ref I) >>= _) _ _ s
    refine wpAny_bind (W.item i s _ _ lt hst fun v s1 hp hst1 mv => ?_)
    obtain ⟨t, rfl⟩ := hv i v hp
    have S1 : HasT w s1.heap a (ts.take i) i := S.keep fun o e => mv.heap a o nw e
    show wpAny _ A.in1 (holding [Value.str (ts.getD i Str.empty) t] (setAdd a (.str (ts.getD i Str.empty) t)) >>= _) _ _ s1
    refine wpAny_bind (wpAny_holding ?_)
    unfold setAdd
    refine wpAny_holding (wpAny_bind ((PySem.strKind P w).pyHash (k := ts.getD i Str.empty) (strKind_is _ _ _ _) ?_))
    refine addT (s := { s1 with toks := s1.toks + 1 }) S1 (by omega) fun b h' sb S2 => ?_
    have e2 : ∀ x, x ∈ ts.take (i + 1) ↔ x ∈ ts.getD i Str.empty :: ts.take i := fun x => by
      have gi : ts.getD i Str.empty = ts[i] := by rw [List.getD_eq_getElem?_getD, List.getElem?_eq_getElem (by omega)]; rfl
      rw [List.take_add_one, List.getElem?_eq_getElem (by omega), gi, List.mem_append, List.mem_cons]
      simp only [Option.toList_some, List.mem_singleton]
      exact Or.comm
    refine wpAny_pure ⟨plainId_quiet PyProof.Rows.F.plain_set_update_loop _, ih (i + 1) _ (by omega) lt (W.frame _ s1 _ _ hst1 (Nat.le_succ _) fun b hb o e => ?_) (S2.more e2 (Nat.le_refl _)) fun s2 mv2 S3 => ?_⟩
    · rw [sb.2 b fun h : b = a => hf (by rw [← h]; exact hb)]; exact e
    · refine kR s2 (Moved.trans W.gtrans ((mv.mono ws).then_heap (Nat.le_succ _) fun b o hb e => ?_) mv2) S3
      rw [sb.2 b fun h : b = a => hb (by rw [h]; exact List.mem_cons_self)]; exact e
/-- set.__new__ with one thing beside the class -/
theorem newT (v : Value) {Q₁ : Value → Shared → Prop} (k : Q₁ (.ref s.heap.objs.size) { s with heap := s.heap.push { cls := .type "set", dict := none, data := .set #[] 0 (.fresh 0 0 (!w.params.followText "set-order")) } }) :
    codeAny (model P w) A (.call (.builtin "set.__new__") ⟨[.type "set", v], []⟩) (wants Q₁ E) s := by
  refine codeAny_of_tree ?_
  show wpAny _ A.in1 (do checkBuiltinCall "set.__new__" ⟨[.type "set", v], []⟩; again (.builtin "set.__new__" ⟨[.type "set", v], []⟩)) _ _ s
  refine wpAny_bind (wpAny_of_eq (PySem.F.newCall_set_1 v) (wpAny_pure ⟨plainId_quiet F.plain_set_new _, codeAny_builtin F.entry_set_new ?_⟩))
  rw [Around.under_plainId F.plain_set_new _]
  unfold Builtin.«set.__new__» Builtin.Frozenset.newClass
  have hsub := sub_set_self
  obtain ⟨hp, g, d, tk, os⟩ := s
  dsimp only
  wp_walk
  refine wpAny_askSetting (wpAny_pure ?_)
  dsimp only
  simp only [newObj]
  exact wpAny_bind (wpAny_alloc (wpAny_pure (wpAny_pure k)))
end
end L2

namespace L2
open PySem PySem.Spec PyProof.Rows

section
variable {P : Program} {w : World} {A : Around} {E : Value → Shared → Prop} {s : Shared}
/-- set(xs), xs a list of texts -/
theorem setT {l : Addr} {items : Array Value} {ts : List Str} {Q : Value → Shared → Prop} (hh : A.handled = none) (hl : s.heap.IsList l items) (hi : StrsAre items.toList ts) (hn : ts.length + 1 < scanBound)
    (k : ∀ (h' : Heap) (tk : Nat), HasT w h' s.heap.objs.size ts ts.length → (∀ b o, b < s.heap.objs.size → s.heap.get? b = some o → h'.get? b = some o) → Q (.ref s.heap.objs.size) { s with heap := h', toks := tk }) :
    wpAny (model P w) A (call (.type "set") [.ref l]) Q E s := by
  obtain ⟨c, tl, hmro⟩ := PySem.F.called_set.mro; have hmade := PySem.F.called_set.made; have hsub := PySem.F.called_set.sub
  refine wpAny_call (codeAny_of_tree ?_); show wpAny _ _ (callAny (.type "set") _) _ _ _
  refine wpAny_pure ⟨Code.quiet_builtin _ (by decide +kernel), codeAny_builtin PySem.F.entry_type_call ?_⟩; rw [Around.under_plain (weight_type_call_type "set" [.ref l] []) rfl]
  have h1 := PySem.F.called_set.notType; have h2 := PySem.F.called_set.canCreate; have hct := PySem.F.typeCall_set_1 (.ref l)
  repeat (any_goals (first | assumption | wp_step))
  let h1 : Heap := s.heap.push { cls := .type "set", dict := none, data := .set #[] 0 (.fresh 0 0 (!w.params.followText "set-order")) }
  refine codeAny_mono (newT (.ref l) (E := E) (Q₁ := fun ob s₁ => ob = .ref s.heap.objs.size ∧ s₁ = { s with heap := h1 }) ⟨rfl, rfl⟩) fun r s₁ hr => ?_
  cases r with
  | error e => exact hr
  | ok fl =>
    cases fl with
    | next => exact hr.elim
    | brk => exact hr.elim
    | cont => exact hr.elim
    | ret ob =>
      obtain ⟨rfl, rfl⟩ := hr
      have S0 : HasT w h1 s.heap.objs.size [] 0 := HasT.fresh w
      have o0 : h1.get? s.heap.objs.size = some { cls := .type "set", dict := none, data := .set #[] 0 (.fresh 0 0 (!w.params.followText "set-order")) } := Heap.get?_push_size _ rfl
      have hT : Shared.TypeIs { s with heap := h1 } (.ref s.heap.objs.size) "set" := ⟨_, o0, rfl⟩
      have hli := PySem.F.called_set.init.lookup; have hbi := PySem.F.called_set.init.bind (.ref s.heap.objs.size)
      repeat (any_goals (first | assumption | wp_step))
      refine codeAny_mono (codeAny_call_builtin (R := wants (fun r s₂ => r = .none ∧ ∃ h' tk, s₂ = { s with heap := h', toks := tk } ∧ HasT w h' s.heap.objs.size ts ts.length ∧ (∀ b o, b < s.heap.objs.size → s.heap.get? b = some o → h'.get? b = some o)) E) PySem.F.called_set.init.plain PySem.F.entry_set_init (check_set_init_1 hT ?_)) fun r₂ s₂ hr₂ => ?_
      · obtain ⟨⟨oc, od, odt, osl⟩, hol, hcl, nl, hdl⟩ := hl
        simp only at hcl hdl
        subst hcl; subst hdl
        have hol' : h1.get? l = some { cls := .type "list", dict := od, data := .seq items nl, slots := osl } := Heap.get?_push_of_some _ hol
        have hsls := PySem.F.sub_list_set; have hslf := PySem.F.sub_list_frozenset
        have hne : (Value.type "list" == Value.type "dict") = false := by decide
        have hl1 : h1.IsList l items := ⟨_, hol', rfl, nl, rfl⟩
        unfold Builtin.«set.__init__» noKeywords Builtin.Frozenset.updateFrom
        generalize hPI : pyIter = PI
        wp_walk
        subst hPI
        refine wpAny_pyIter_list hl1 (wpAny_bind (wpAny_runValue ?_))
        have ll : l < s.heap.objs.size := Heap.lt_size hol
        have hh3 : A.in1.in1.in1.handled = none := by simp [hh]
        have z1 : h1.objs.size = s.heap.objs.size + 1 := Heap.size_push ..
        have ni : l ≠ h1.objs.size := fun e => absurd (e.trans z1) (Nat.ne_of_lt (Nat.lt_succ_of_lt ll))
        have nf : s.heap.objs.size ∉ [h1.objs.size, l] := fun m => by
          rcases List.mem_cons.mp m with e | m
          · exact absurd (e.trans z1) (Nat.ne_of_lt (Nat.lt_succ_self _))
          · exact absurd (List.mem_singleton.mp m) (Nat.ne_of_gt ll)
        have hsz : ts.length = items.size := by rw [← StrsAre.len_eq hi, Array.length_toList]
        refine loopT ((Walks.list hh3 _ l ni items).toS) s.heap.objs.size nf ts hsz (by rw [← hsz]; exact hn) (fun i v hv => SS.strs_at hi i v (by rw [Array.getElem?_toList]; exact hv)) (items.size - 0) 0 _ (by omega) (Nat.zero_le _) ⟨⟨_, Heap.get?_push_size _ rfl, rfl, rfl⟩, (hl1.push _)⟩ ?_ ?_
        · exact S0.keep fun o e => Heap.get?_push_of_some _ e
        · rintro ⟨h', g', d', tk', os'⟩ hm S'
          obtain rfl : g' = s.gens := hm.gens
          obtain rfl : d' = s.drawn := hm.drawn
          obtain rfl : os' = s.os := hm.os
          refine wpAny_pure (wpAny_pure ⟨rfl, h', tk', rfl, by rw [hsz]; exact S', fun b o hb e => ?_⟩)
          refine hm.heap b o (fun m => ?_) (Heap.get?_push_of_some _ (Heap.get?_push_of_some _ e))
          rcases List.mem_cons.mp m with e | m
          · exact absurd e (Nat.ne_of_lt hb)
          · exact absurd ((List.mem_singleton.mp m).trans z1) (Nat.ne_of_lt (Nat.lt_succ_of_lt hb))
      · cases r₂ with
        | error e => exact hr₂
        | ok fl₂ =>
          cases fl₂ with
          | next => exact hr₂.elim
          | brk => exact hr₂.elim
          | cont => exact hr₂.elim
          | ret r =>
            obtain ⟨rfl, h', tk, rfl, S', hk'⟩ := hr₂
            repeat (any_goals (first | assumption | wp_step))
            exact k _ _ S' hk'
end
/-! ### over the layer -/
def SetTO (w : World) (a : Addr) (xs : List Str) (n : Nat) : HO := .ext fun h => HasT w h a xs n
section
variable {X : Cx}
theorem setTO_ok {w : World} {P : Program} {H : Hp} {h : Heap} {a : Addr} {xs : List Str} {n : Nat} (S : HasT w h a xs n) : ObjOk P w H h a (SetTO w a xs n) := by
  have ⟨o, _, _, _, z⟩ := S
  exact ⟨S, ⟨o, z.at_⟩, fun h1 h2 q k => HasT.keep q k⟩
theorem setTO_get {pins : List (Addr × Obj)} {σ : St} {H : Hp} {s : Shared} {a : Addr} {xs : List Str} {n : Nat} (I : Inv X pins σ H s) (h : H a = some (SetTO X.w a xs n)) : HasT X.w s.heap a xs n := (I.hok a _ h).1
def rSetT (K : Kf) (w : World) : List V → Hp → VK → Prop := fun vs H Q => ∃ (a : Addr) (xs : List Str), vs = [.ref a] ∧ SqL K H a (xs.map V.str) ∧ xs.length + 1 < scanBound ∧ ∀ p, H p = none → Q (.ref p) (upd H p (SetTO w p xs xs.length))
theorem cr_setT (hc : X.calm = true) : CallR X (.type "set") (rSetT X.K X.w) := by
  intro pins s σ H vs us Q I r h
  obtain ⟨a, xs, rfl, hs, hl, q⟩ := h
  obtain ⟨its, rv, hi, _⟩ := I.list hs
  rw [Vals.ref1 r]
  refine setT (I.ok.hd hc) hi.isList rv.strs hl fun h' tk S k => ?_
  exact ⟨.ref _, upd H s.heap.objs.size (SetTO X.w s.heap.objs.size xs xs.length), I.laid (t' := tk) (fun b o e => k b o (Heap.lt_size e) e) (Nat.le_refl _) (setTO_ok S), rfl, q _ (I.hok.fresh (Nat.le_refl _))⟩
def rSortT (w : World) : List V → Hp → VK → Prop := fun vs H Q => ∃ (a : Addr) (xs : List Str) (n : Nat), vs = [.ref a] ∧ H a = some (SetTO w a xs n) ∧ n < scanBound ∧
  ∀ (ys : List Str) (p : Addr), ys.Nodup → (∀ x, x ∈ ys ↔ x ∈ xs) → sortedS ys = true → H p = none → Q (.ref p) (upd H p (.lst (ys.map V.str)))
theorem cr_sortT' (hc : X.calm = true) : CallR X (.builtin "sorted") (rSortT X.w) := by
  intro pins s σ H vs us Q I r h
  obtain ⟨a, xs, n, rfl, ha, hn, q⟩ := h
  rw [Vals.ref1 r]
  refine sortT (setTO_get I ha) (I.ok.hd hc) hn fun s' p out c ys k g o hp ho hi hl nd hm hs => ?_
  have hlen : (ys.map V.str).length ≤ sizeLine := by rw [List.length_map]; exact Nat.le_trans hl (fits_of_scanBound hn)
  have fr : H p = none := I.hok.fresh hp
  have J : Inv X pins σ (upd H p (.lst (ys.map V.str))) { s with heap := s'.heap, gens := s'.gens, drawn := s'.drawn, toks := s'.toks } :=
    I.call (ch := []) (Un.laid k hp fr) (I.hok.laid k hp ⟨hlen, out.toList, c, vals_of_strs hi, ho⟩) (by rw [g]; exact I.bare) fun _ z => nomatch z
  obtain ⟨sh, sg, sd, st, so⟩ := s'
  obtain rfl : so = s.os := o
  exact ⟨.ref p, _, J, rfl, q ys p nd hm hs fr⟩
end
end L2

namespace L2
open PySem PySem.Spec PyProof.Rows

theorem nodup_dedup : ∀ (n : Nat) (xs : List Str), xs.length ≤ n → xs.eraseDups.Nodup
  | _, [], _ => by rw [List.eraseDups_nil]; exact .nil
  | 0, _ :: _, h => by simp at h
  | n + 1, x :: r, h => by
    rw [List.eraseDups_cons]
    refine List.nodup_cons.mpr ⟨fun m => ?_, nodup_dedup n _ (Nat.le_trans (List.length_filter_le _ _) (by simpa using h))⟩
    have := List.mem_filter.mp (List.mem_eraseDups.mp m)
    simp at this
theorem sortSet_uniq {xs ys : List Str} (nd : ys.Nodup) (m : ∀ x, x ∈ ys ↔ x ∈ xs) (s : ys.Pairwise fun a b => leS a b = true) : ys = sortSet xs :=
  sortStrs_uniq ((List.perm_ext_iff_of_nodup nd (nodup_dedup _ xs (Nat.le_refl _))).mpr fun x => (m x).trans List.mem_eraseDups.symm) s
theorem small_scan {n : Nat} (h : n < 64) : n + 1 < scanBound := by
  unfold scanBound
  omega
section
variable {X : Cx} {G : Gs} {e : Expr} {m : M SV} {p p2 pos pos2 : Pos}
theorem je_sortedSet (hc : X.calm = true) (hK : X.K = G.K) (h1 : Gl X "sorted") (h2 : X.mg "sorted" = none) (h3 : Gl X "set") (h4 : X.mg "set" = none) (he : PE X e (tE G m))
    (e1 : starEach [.Call (.Name "set" p2) [e] [] pos2] X.env = (false, eval (.Call (.Name "set" p2) [e] [] pos2) X.env) :: starEach [] X.env := by rfl) (e2 : starEach [e] X.env = (false, eval e X.env) :: starEach [] X.env := by rfl) :
    PE X (.Call (.Name "sorted" p) [.Call (.Name "set" p2) [e] [] pos2] [] pos) (tE G (mSortSet m)) :=
  (pe_callB (cr_sortT' hc) h1 h2 (by decide +kernel) (pa_cons (pe_callTy (cr_setT hc) h3 h4 (by decide +kernel) (pa_cons (je_frz he) pa_nil e2) (he := e2)) pa_nil e1) (he := e1)).imp fun σ H Q h => by
    obtain ⟨en, L, R, q⟩ := h
    refine (seqE R q).mono fun x H1 ⟨en1, L1, sv, R1, s1, r1, q1⟩ => ?_
    cases e1 : look en1 sv with
    | none => rw [e1] at q1; exact q1.elim
    | some d =>
      rw [e1] at q1
      dsimp only at q1
      cases e2 : ssD d with
      | none => rw [e2] at q1; exact q1.elim
      | some zs =>
        rw [e2] at q1
        dsimp only at q1
        have o := RV.opd R1 (Same.refl _) r1 e1
        unfold ssD at e2
        split at e2
        · rename_i ds
          split at e2
          · rename_i xs e3
            split at e2
            · rename_i hl
              cases e2
              have e4 := strsOf_eq e3
              subst e4
              obtain ⟨a, ys, rfl, ho, hr⟩ := o.list'
              have e5 := dqAll_strs hr
              subst e5
              refine ⟨a, xs, rfl, by rw [hK]; exact ho, small_scan hl, fun b hb => ?_⟩
              refine ⟨b, xs, xs.length, rfl, upd_same, by have := small_scan hl; omega, fun ys p nd hm hs hn => ?_⟩
              rw [sortSet_uniq nd hm (sortedS_pw hs)] at *
              have R2 := R1.grow (same_new (o := SetTO X.w b xs xs.length) hb)
              have s2 := hid_mono (L := L1) (same_new (o := SetTO X.w b xs xs.length) hb)
              exact post_lst R2 hn (strs_dq _) (q1.from s2)
            · cases e2
          · cases e2
        · cases e2
end
end L2

namespace PySem
open Sem (wp)
set_option maxHeartbeats 1000000 in
/-- enumerate(v), v of any kind whose iterator is one new object -/
theorem enum1_new {v : Value} {ob : Obj} {Z : Heap → Prop} (B : Begins v ob Z) :
    Meets (Builtin.«enumerate.__new__» ⟨[.type "enumerate", v], []⟩) fun _ R s => Z s.heap ∧ R (.ok (.ret (.ref (s.heap.push ob).objs.size)))
      { s with heap := (s.heap.push ob).push { cls := .type "enumerate", data := .fields #[.none, .bool false, .ref s.heap.objs.size, rawInt 0, .none, .none] } } :=
  .of_wp fun prog w A R s q => by
    obtain ⟨hp, gn, dd, tk, os⟩ := s
    obtain ⟨hz, q⟩ := q
    have hsub := sub_enumerate
    have it : ∀ {A' : Around} {E : Value → Shared → Prop} {Q : Value → Shared → Prop}, Q (.ref hp.objs.size) ⟨hp.push ob, gn, dd, tk, os⟩ → wpAny (model prog w) A' (pyIter v) Q E ⟨hp, gn, dd, tk, os⟩ :=
      fun z => B.iter prog w _ _ ⟨hp, gn, dd, tk, os⟩ _ hz z
    wp_walk using it
    refine wpAny_stack_any fun st => wpAny_pure ?_
    split
    · rename_i c _ _ _ _ _
      cases (c == Value.type "enumerate") <;> (wp_walk using it; exact ⟨_, rfl, q⟩)
    · wp_walk using it
      exact ⟨_, rfl, q⟩
theorem enum1_call {prog : Program} {w : World} {A : Around} {E : Value → Shared → Prop} {s : Shared} {v : Value} {ob : Obj} {Z : Heap → Prop} {Q : Value → Shared → Prop} (B : Begins v ob Z) (hz : Z s.heap)
    (k : ∀ h1 : Heap, IsEnum h1 (s.heap.objs.size + 1) s.heap.objs.size 0 .none → h1.get? s.heap.objs.size = some ob → (∀ b o, s.heap.get? b = some o → h1.get? b = some o) → Q (.ref (s.heap.objs.size + 1)) { s with heap := h1 }) :
    wpAny (model prog w) A (call (.type "enumerate") [v]) Q E s := by
  refine callType_new F.called_enumerate (by decide) (F.typeCall_enumerate_1 _) (F.newCall_enumerate_1 _) (fun obj => F.args_object_init_2 obj _) F.entry_enumerate_new (enum1_new B) ⟨hz, ?_⟩
  have e1 : (s.heap.push ob).objs.size = s.heap.objs.size + 1 := Heap.size_push ..
  show _ ∧ _
  rw [e1]
  have e2 : IsEnum ((s.heap.push ob).push { cls := .type "enumerate", data := .fields #[.none, .bool false, .ref s.heap.objs.size, rawInt 0, .none, .none] }) (s.heap.objs.size + 1) s.heap.objs.size 0 .none := by
    have z := Heap.get?_push_size (s.heap.push ob) (o := { cls := .type "enumerate", data := .fields #[.none, .bool false, .ref s.heap.objs.size, rawInt 0, .none, .none] }) rfl
    rw [e1] at z
    exact z
  exact ⟨⟨_, e2, rfl⟩, k _ e2 (Heap.get?_push_of_some _ (Heap.get?_push_size _ B.free)) fun b o x => Heap.get?_push_of_some _ (Heap.get?_push_of_some _ x)⟩
end PySem
namespace L2
open PySem PySem.Spec PyProof.Rows
/-! ### enumerate(tuple) -/
def IteT (K : Kf) (a : Addr) : It where
  go i H := ∃ (xs : List V) (x : V), SqT K H a xs ∧ xs[i]? = some x
  yld i H v H' := ∃ T x, v = .ref T ∧ H T = none ∧ H' = upd H T (.tup [.int (i : Nat), x]) ∧ ∀ xs, SqT K H a xs → xs[i]? = some x
  stop i H := ∃ xs : List V, SqT K H a xs ∧ xs.length ≤ i
theorem turn_enumT {P : Program} {w : World} {K : Kf} {elts : List Expr} {kk : Nat} {tpos : Pos} (a e it : Addr) :
    Turn P w K (.Tuple elts kk tpos) (IteT K a) [e, it] e (fun i h => (∃ old, IsEnum h e it ((i : Nat) : Int) old) ∧ h.IsTupleIter it a i ∧ e ≠ it ∧ a ≠ it ∧ a ≠ e) where
  mem := by simp
  obj := fun i h st b hb => by
    obtain ⟨⟨old, he⟩, ⟨o, ho, hc, hd⟩, _⟩ := st
    have e1 : b = e ∨ b = it := by simpa using hb
    rcases e1 with rfl | rfl
    · exact ⟨_, he, fun v q => nomatch q⟩
    · exact ⟨o, ho, fun v q => by rw [hd] at q; cases q⟩
  keep := fun i h h' st k => let ⟨⟨old, he⟩, hi, hn⟩ := st; ⟨⟨old, k e (by simp) _ he⟩, hi.at fun o q => k it (by simp) o q, hn⟩
  item := by
    intro X hP hw hK hc i pins s σ H E I hf st hg
    subst hP hw hK
    obtain ⟨⟨old, he⟩, hit, hne, hai, hae⟩ := st
    obtain ⟨xs, x, hq, hx⟩ := hg
    obtain ⟨its, rv, p, hz⟩ := I.tuple hq
    obtain ⟨u, hu, ru⟩ := rv.get hx
    have hel : e < s.heap.objs.size := Heap.lt_size he
    have hil : it < s.heap.objs.size := by obtain ⟨_, q, _⟩ := hit; exact Heap.lt_size q
    have hh : X.A.handled = none := I.ok.hd hc
    have hlt : i < its.toArray.size := by
      have := (List.getElem?_eq_some_iff.mp hu).1
      simpa using this
    refine wpAny_pyNext_enum_itemD (Draws.tuple (A := X.A.in1) hh it a hai its.toArray) he ⟨hit, p⟩ hlt hne (by simp [hne, Ne.symm hae]) fun y h1 tk hy ho st1 hT hsz hk => ?_
    have hyu : y = u := by
      have hy' : its.toArray[i]? = some y := hy
      rw [List.getElem?_toArray, hu] at hy'
      exact (Option.some.inj hy').symm
    subst hyu
    refine ⟨_, rfl, wpAny_letOwnedTupleGo_enum (s := { s with heap := h1, toks := tk + 1 }) ho fun h2 he2 sb => ?_⟩
    have hT2 : h2.get? s.heap.objs.size = some { cls := .type "tuple", data := .seq #[.int i tk, y] } := (sb.2 _ (Nat.ne_of_gt hel)).trans hT
    have new : ObjOk X.prog X.w (upd H s.heap.objs.size (.tup [.int (i : Nat), x])) h2 s.heap.objs.size (.tup [.int (i : Nat), x]) :=
      ⟨by show 2 ≤ sizeLine; decide, [.int i tk, y], .cons ⟨_, rfl⟩ (.cons ru .nil), ⟨_, hT2, rfl, _, rfl⟩⟩
    have I1 : Inv X pins σ (upd H s.heap.objs.size (.tup [.int (i : Nat), x])) { s with heap := h2, toks := tk + 1 } :=
      I.turnedNew (ch := [e, it]) (fun b ob hb q => (sb.2 b (fun z => hb (by simp [z]))).trans (hk b ob (fun z => hb (by simp [z])) (fun z => hb (by simp [z])) q)) hf (Nat.le_refl _) new
    refine ⟨.ref s.heap.objs.size, _, I1, rfl, ⟨_, x, rfl, I.hok.fresh (Nat.le_refl _), rfl, fun ys hy => by rw [I.tuple_inj hy hq]; exact hx⟩, ⟨⟨y, ?_⟩, st1.1.at fun o q => (sb.2 it (Ne.symm hne)).trans q, hne, hai, hae⟩, fun b hb => ?_⟩
    · have e1 : ((i + 1 : Nat) : Int) = (i : Int) + 1 := by omega
      rw [e1]; exact he2
    · have hb' : b < s.heap.objs.size := by
        have e1 : b = e ∨ b = it := by simpa using hb
        rcases e1 with rfl | rfl
        · exact hel
        · exact hil
      rw [upd_ne (Nat.ne_of_lt hb')]
      exact (hf b hb).1
  done := by
    intro X hP hw hK hc i pins s σ H E I hf st hg
    subst hP hw hK
    obtain ⟨⟨old, he⟩, hit, hne, hai, hae⟩ := st
    obtain ⟨xs, hq, hx⟩ := hg
    obtain ⟨its, rv, p, hz⟩ := I.tuple hq
    obtain ⟨f0, f1, f2, f3, f4, f5⟩ := hf it (by simp)
    have hl := rv.length
    have hh : X.A.handled = none := I.ok.hd hc
    have hT : s.TypeIs (.ref e) "enumerate" := ⟨_, he, rfl⟩
    unfold pyNext
    refine wpAny_bind (wpAny_attempt (wpAny_callSpecial?_slot (name := Str.ofString "__next__") hT F.slot_enumerate_next
      (wpAny_call_entry F.slot_enumerate_next hT F.entry_enumerate_next ?_ (F.args_enumerate_next_1 _))))
    show wpAny _ _ (field (.ref e) 2 >>= _) _ _ _
    refine wpAny_bind (wpAny_field he rfl (x := .ref it) rfl ?_)
    refine wpAny_bind (wpAny_nextOf_tuple_end (items := its.toArray) hh hit p (Array.getElem?_eq_none (by simp; omega)) fun h1 x he1 hx1 => ?_)
    obtain ⟨o, ho, hc'⟩ := hx1
    refine wpAny_bind (wpAny_isInstance (T := "StopIteration") (b := true) ⟨o, ho, hc'⟩ isSubtype_stop ?_)
    exact wpAny_pure ⟨rfl, I.turned (t' := s.toks) (fun b o hb q => he1 b o hb q) f0 f1 f3 f4 f5⟩
  self := fun A i s Q E st h => let ⟨⟨_, he⟩, _⟩ := st; wpAny_pyIter_enum he h
def iEnumT (K : Kf) (te : TE) : TI := fun σ H R => te σ H fun v H1 => ∃ a xs, v = .ref a ∧ SqT K H1 a xs ∧ R (IteT K a) H1
theorem pi_enumT {X : Cx} {e : Expr} {te : TE} {p pos tpos : Pos} {elts : List Expr} {kk : Nat} (hg : Gl X "enumerate") (hm : X.mg "enumerate" = none) (he : PE X e te) (hs : starEach [e] X.env = (false, eval e X.env) :: starEach [] X.env := by rfl) :
    PI X (.Tuple elts kk tpos) (.Call (.Name "enumerate" p) [e] [] pos) (iEnumT X.K te) := by
  refine ⟨fun pins s σ H R I h => ?_⟩
  refine Call_ (ld_blt I hg hm boot_enumerate (PyProof.Rows.callWith_type1 (args_cons (thn (he.run pins s σ H _ I h) fun u s1 ⟨v, H1, I1, r1, q1⟩ => args_nil ?_) hs) hs rfl))
  obtain ⟨a, xs, ev, hq, q⟩ := q1
  subst ev
  obtain rfl : u = Value.ref a := r1
  obtain ⟨its, rv, p', hz⟩ := I1.tuple hq
  refine enum1_call (begins_tuple a its.toArray) p' fun h1 he1 hit hk => wpAny_pyIter_enum he1 ?_
  have I2 : Inv X pins σ H1 { s1 with heap := h1 } := I1.kept (t' := s1.toks) hk
  have hal : a < s1.heap.objs.size := by obtain ⟨o, ho, _⟩ := p'; exact Heap.lt_size ho
  refine ⟨s1.heap.objs.size + 1, [s1.heap.objs.size + 1, s1.heap.objs.size], _, _, H1, rfl, I2, turn_enumT a (s1.heap.objs.size + 1) s1.heap.objs.size, ⟨⟨.none, he1⟩, ⟨_, hit, rfl, rfl⟩, Nat.succ_ne_self _, Nat.ne_of_lt hal, Nat.ne_of_lt (Nat.lt_succ_of_lt hal)⟩, fun b hb => ?_, q⟩
  have e1 : b = s1.heap.objs.size + 1 ∨ b = s1.heap.objs.size := by simpa using hb
  have hle : s1.heap.objs.size ≤ b := by
    rcases e1 with z | z
    · rw [z]; exact Nat.le_add_right _ _
    · rw [z]; exact Nat.le_refl _
  exact I1.fpOk hle (I1.hok.fresh hle)
end L2

namespace L2
open PySem PySem.Spec PyProof.Rows
/-! ### [e for i, x in enumerate(tuple)] -/
def enumD (ds : List D) : List D := ds.zipIdx.map fun p => .tuple [.int p.2, p.1]
theorem enumD_len (ds : List D) : (enumD ds).length = ds.length := by simp [enumD]
theorem enumD_get {ds : List D} {i : Nat} {d : D} (h : (enumD ds)[i]? = some d) : ∃ e, ds[i]? = some e ∧ d = .tuple [.int i, e] := by
  unfold enumD at h
  rw [List.getElem?_map] at h
  cases q : ds.zipIdx[i]? with
  | none => rw [q] at h; cases h
  | some p =>
    rw [q] at h
    cases h
    rw [List.getElem?_zipIdx] at q
    cases q2 : ds[i]? with
    | none => rw [q2] at q; cases q
    | some e =>
      rw [q2] at q
      cases q
      exact ⟨e, rfl, by simp⟩
section
variable {K : Kf} {a : Addr} {ds : List D}
theorem walks_enum : Walks K (IteT K a) (fun H L => ∃ xs, SqT K (hid H L) a xs ∧ DqAll K (hid H L) xs ds) (enumD ds) where
  go := fun i H L ⟨xs, hs, hd⟩ hi => by
    rw [enumD_len, ← hd.length] at hi
    exact ⟨xs, xs[i], sqT_mono hid_same hs, List.getElem?_eq_getElem hi⟩
  stop := fun i H L ⟨xs, hs, hd⟩ hi => ⟨xs, sqT_mono hid_same hs, by rw [hi, enumD_len, hd.length]; exact Nat.le_refl _⟩
  yld := fun i H L x H' d ⟨xs, hs, hd⟩ he hy w => by
    obtain ⟨T, y, rfl, hn, rfl, hx⟩ := hy
    obtain ⟨e, h1, rfl⟩ := enumD_get he
    obtain ⟨v, h2, h3⟩ := hd.get h1
    have h4 := hx xs (sqT_mono hid_same hs)
    rw [h2] at h4
    cases h4
    have s := same_new (o := .tup [.int (i : Nat), y]) hn
    have nT : T ∉ L := fun z => by
      rcases w T z with ⟨xs, q⟩ | ⟨kvs, q⟩ <;> (rw [hn] at q; cases q)
    refine ⟨s, .tup (.of ?_) (.cons (.int _) (.cons (Dq.mono (hid_mono s) _ h3) .nil))⟩
    rw [hid_out nT]
    exact upd_same
end
/-- over enumerate of a tuple -/
noncomputable def mLcE (tg : Tg) (vs : List Nat) (mi : M SV) (mc : M Bool) (me : M SV) : M SV := mbind (mfrz mi) fun sv en => match sv with
  | .d (.tuple ds) => mComp tg vs mc me (enumD ds) en
  | _ => .stuck
section
variable {X : Cx} {G : Gs} {elt t iter : Expr} {ifs : List Expr} {scope : Scope} {own : List (Str × Nat)} {mi me : M SV} {mc : M Bool} {tg : Tg} {pos : Pos} {tt : TT} {te : TE}
theorem lcE_imp (hsub : ∀ j ∈ tg.slots, j ∈ own.map (·.2)) (ht : ∀ (D0 : Addr) (xs : List V) (σ' : St) (H' : Hp) Q, tT (G.blk D0 xs) mc σ' H' Q → tt σ' H' Q) (he : ∀ (D0 : Addr) (xs : List V) (σ' : St) (H' : Hp) Q, tE (G.blk D0 xs) (mkeep me) σ' H' Q → te σ' H' Q)
    (σ : St) (H : Hp) (Q : VK) (h : tE G (mLcE tg (own.map (·.2)) mi mc me) σ H Q) : tLc (iEnumT G.K (tE G (mfrz mi))) (gOf G.K tg) tt te (own.map (·.2)) σ H Q := by
  obtain ⟨en, L, R, q⟩ := h
  refine (seqE R q).mono fun v H1 ⟨en1, L1, sv, R1, s1, r1, q1⟩ => ?_
  cases sv with
  | own _ => exact q1.elim
  | bor i => exact q1.elim
  | d d =>
    cases d with
    | tuple ds =>
      cases r1 with
      | tup hs ha => exact ⟨_, _, rfl, sqT_mono hid_same hs, comp_run walks_enum R1 q1 hsub (fun G' H' L' hK R' s' => ⟨_, sqT_mono s' hs, DqAll.mono s' _ ha⟩) ht he⟩
    | _ => exact q1.elim
theorem je_lcE {elts : List Expr} {kk : Nat} {tpos p pos' : Pos} (hc : X.calm = true) (hN : X.N.Nodup) (hK : X.K = G.K) (hgl : Gl X "enumerate") (hm : X.mg "enumerate" = none) (hi : PE X iter (tE G mi)) (ok : BlkOk X.N X.env.scope scope own) (B : InBlk X G scope (.Tuple elts kk tpos) elt ifs tg mc me) (hsub : ∀ j ∈ tg.slots, j ∈ own.map (·.2))
    (hse : starEach [iter] X.env = (false, eval iter X.env) :: starEach [] X.env := by rfl) (hs : ∀ x, foldedSetIterable (.Call (.Name "enumerate" p) [iter] [] pos') X.env x = pure x := by intro _; rfl) : PE X (.ListComp elt [⟨.Tuple elts kk tpos, .Call (.Name "enumerate" p) [iter] [] pos', ifs, 0⟩] scope pos) (tE G (mLcE tg (own.map (·.2)) mi mc me)) :=
  (pe_lc (tt := exT G mc) (te := exE G me) hc hN (pi_enumT hgl hm (je_frz hi) hse) ok B.g (fun s H C cl fp => PTs.ex fun p => B.c s H C cl fp p.1 p.2) (fun s H C cl fp => PE.ex fun p => je_keep (B.e s H C cl fp p.1 p.2)) hs).imp fun σ H Q h => by
    rw [hK]
    exact lcE_imp hsub (fun D0 xs _ _ _ q => ⟨(D0, xs), q⟩) (fun D0 xs _ _ _ q => ⟨(D0, xs), q⟩) σ H Q h
end
end L2

namespace L2
open PySem PySem.Spec PyProof.Rows
/-! ### sorted(set(tuple of ints)) -/
section
variable {X : Cx}
def rSetI (K : Kf) (w : World) : List V → Hp → VK → Prop := fun vs H Q => ∃ (p : Addr) (ns : List Int), vs = [.ref p] ∧ SqT K H p (ns.map V.int) ∧ ns.length ≤ 62 ∧ ∀ q n, n ≤ ns.length → H q = none → Q (.ref q) (upd H q (SetO w q (fun j => decide (j ∈ ns)) n))
theorem cr_setI (hc : X.calm = true) : CallR X (.type "set") (rSetI X.K X.w) := by
  intro pins s σ H vs us Q I r h
  obtain ⟨p, ns, rfl, hq, hl, q⟩ := h
  obtain ⟨its, rv, pt, hz⟩ := I.tuple hq
  have hi : IntsAre its.toArray.toList ns := ints_of_vals rv
  rw [Vals.ref1 r]
  refine call_set_tupI ns (I.ok.hd hc) (show s.heap.IsTuple p its.toArray from pt) hi (by unfold scanBound; omega) fun h' tk c R1 hcn k => ?_
  exact ⟨.ref _, upd H s.heap.objs.size (SetO X.w s.heap.objs.size (fun j => decide (j ∈ ns)) c), I.laid (t' := tk) (fun b o e => k b o e) (Nat.le_refl _) (setO_new R1), rfl, q _ c hcn (I.hok.fresh (Nat.le_refl _))⟩
end
@[simp] theorem intsOf_map : ∀ is : List Int, intsOf (is.map .int) = some is
  | [] => rfl
  | i :: r => by rw [List.map_cons, intsOf, intsOf_map r]; rfl
/-- the members, each once, ascending -/
def sortI (is : List Int) : List Int := is.eraseDups.mergeSort (fun a b => decide (a ≤ b))
theorem asc_uniq : ∀ {a b : List Int}, a.Pairwise (· < ·) → b.Pairwise (· < ·) → (∀ k, k ∈ a ↔ k ∈ b) → a = b
  | [], [], _, _, _ => rfl
  | [], y :: _, _, _, h => absurd ((h y).mpr List.mem_cons_self) List.not_mem_nil
  | x :: _, [], _, _, h => absurd ((h x).mp List.mem_cons_self) List.not_mem_nil
  | x :: a, y :: b, pa, pb, h => by
    have pa' := List.pairwise_cons.mp pa
    have pb' := List.pairwise_cons.mp pb
    have e : x = y := by
      have h1 := (h x).mp List.mem_cons_self
      have h2 := (h y).mpr List.mem_cons_self
      rcases List.mem_cons.mp h1 with e | m1
      · exact e
      · rcases List.mem_cons.mp h2 with e | m2
        · exact e.symm
        · have := pa'.1 _ m2
          have := pb'.1 _ m1
          omega
    subst e
    rw [asc_uniq pa'.2 pb'.2 fun k => ?_]
    constructor
    · intro m
      rcases List.mem_cons.mp ((h k).mp (List.mem_cons_of_mem _ m)) with e | m'
      · have := pa'.1 _ m; omega
      · exact m'
    · intro m
      rcases List.mem_cons.mp ((h k).mpr (List.mem_cons_of_mem _ m)) with e | m'
      · have := pb'.1 _ m; omega
      · exact m'
theorem nodup_dedupI : ∀ (n : Nat) (xs : List Int), xs.length ≤ n → xs.eraseDups.Nodup
  | _, [], _ => by rw [List.eraseDups_nil]; exact .nil
  | 0, _ :: _, h => by simp at h
  | n + 1, x :: r, h => by
    rw [List.eraseDups_cons]
    refine List.nodup_cons.mpr ⟨fun m => ?_, nodup_dedupI n _ (Nat.le_trans (List.length_filter_le _ _) (by simpa using h))⟩
    have := List.mem_filter.mp (List.mem_eraseDups.mp m)
    simp at this
theorem sortI_mem (is : List Int) (k : Int) : k ∈ sortI is ↔ k ∈ is := by
  unfold sortI
  rw [List.mem_mergeSort, List.mem_eraseDups]
theorem sortI_asc (is : List Int) : (sortI is).Pairwise (· < ·) := by
  have h1 : (sortI is).Pairwise fun a b => decide (a ≤ b) = true := List.pairwise_mergeSort (fun a b c x y => by simp at *; omega) (fun a b => by simp; omega) _
  have h2 : (sortI is).Nodup := (List.mergeSort_perm _ _).nodup_iff.mpr (nodup_dedupI _ is (Nat.le_refl _))
  exact (h1.and h2).imp fun {a b} h => by
    have := of_decide_eq_true h.1
    have := h.2
    omega
theorem sortI_uniq {ns is : List Int} (p : ns.Pairwise (· < ·)) (m : ∀ k, k ∈ ns ↔ k ∈ is) : ns = sortI is :=
  asc_uniq p (sortI_asc is) fun k => (m k).trans (sortI_mem is k).symm
theorem sortI_self {is : List Int} (p : is.Pairwise (· < ·)) : sortI is = is := (sortI_uniq p fun _ => Iff.rfl).symm
def siD : D → Option (List Int)
  | .tuple ds => match intsOf ds with
    | some is => if is.length ≤ 62 then some (sortI is) else none
    | none => none
  | _ => none
def mSortSetI (m : M SV) : M SV := mbind (mfrz m) fun sv en => match look en sv with
  | some d => match siD d with
    | some is => .ok (.own (.lst (is.map .int))) en
    | none => .stuck
  | none => .stuck
section
variable {X : Cx} {G : Gs} {e : Expr} {m : M SV} {p p2 pos pos2 : Pos}
theorem je_sortedSetI (hc : X.calm = true) (hK : X.K = G.K) (h1 : Gl X "sorted") (h2 : X.mg "sorted" = none) (h3 : Gl X "set") (h4 : X.mg "set" = none) (he : PE X e (tE G m))
    (e1 : starEach [.Call (.Name "set" p2) [e] [] pos2] X.env = (false, eval (.Call (.Name "set" p2) [e] [] pos2) X.env) :: starEach [] X.env := by rfl) (e2 : starEach [e] X.env = (false, eval e X.env) :: starEach [] X.env := by rfl) :
    PE X (.Call (.Name "sorted" p) [.Call (.Name "set" p2) [e] [] pos2] [] pos) (tE G (mSortSetI m)) :=
  (pe_callB (cr_sortedSet hc) h1 h2 (by decide +kernel) (pa_cons (pe_callTy (cr_setI hc) h3 h4 (by decide +kernel) (pa_cons (je_frz he) pa_nil e2) (he := e2)) pa_nil e1) (he := e1)).imp fun σ H Q h => by
    obtain ⟨en, L, R, q⟩ := h
    refine (seqE R q).mono fun x H1 ⟨en1, L1, sv, R1, s1, r1, q1⟩ => ?_
    cases e1 : look en1 sv with
    | none => rw [e1] at q1; exact q1.elim
    | some d =>
      rw [e1] at q1
      dsimp only at q1
      cases e2 : siD d with
      | none => rw [e2] at q1; exact q1.elim
      | some zs =>
        rw [e2] at q1
        dsimp only at q1
        have o := RV.opd R1 (Same.refl _) r1 e1
        unfold siD at e2
        split at e2
        · rename_i ds
          split at e2
          · rename_i xs e3
            split at e2
            · rename_i hl
              cases e2
              have e4 := intsOf_eq e3
              subst e4
              obtain ⟨a, ys, rfl, ho, hr⟩ := o.tuple
              have e5 := dqAll_ints hr
              subst e5
              refine ⟨a, xs, rfl, by rw [hK]; exact ho, hl, fun b n hn hb => ?_⟩
              refine ⟨b, _, n, rfl, upd_same, by omega, fun ys p nd hm hle hp => ?_⟩
              have e6 : ys = sortI xs := sortI_uniq nd fun k => (hm k).trans (by simp)
              subst e6
              have R2 := R1.grow (same_new (o := SetO X.w b (fun j => decide (j ∈ xs)) n) hb)
              have s2 := hid_mono (L := L1) (same_new (o := SetO X.w b (fun j => decide (j ∈ xs)) n) hb)
              exact post_lst R2 hp (ints_dq _) (q1.from s2)
            · cases e2
          · cases e2
        · cases e2
end
end L2

namespace L2
open PySem PySem.Spec PyProof.Rows
/-! ### {} -/
section
variable {X : Cx} {G : Gs} {pos : Pos}
theorem post_dct {H : Hp} {L : List Addr} {σ : St} {en : En} {Q : VK} {p : Addr} {kvs : List (Key × V)} {kds : List (Key × D)} (R : RelS G L σ H en) (n : H p = none) (h : KD G.K (hid H L) kvs kds) (q : PostE G σ H L (.ok (.own (.dct kds)) en) Q) : Q (.ref p) (upd H p (.dK kvs)) :=
  q _ _ (p :: L) (R.hide n (.inr ⟨kvs, rfl⟩)) (hid_new n) ⟨p, .dK kvs, rfl, List.mem_cons_self, R.fresh_base n, upd_same, KD.mono (hid_new n) h, own_out R (R.fresh_out n)⟩
theorem je_dnew : PE X (.Dict [] [] pos) (tE G (mpure (.own (.dct [])))) := pe_dnewK.imp fun σ H Q ⟨en, L, R, q⟩ => fun p n => post_dct R n .nil q
end
/-! ### k in d -/
def rInDct : R2 := fun x y H Q => ∃ a o, y = .ref a ∧ DGet H a x o ∧ Q (.bl o.isSome) H
def rNotInDct : R2 := fun x y H Q => ∃ a o, y = .ref a ∧ DGet H a x o ∧ Q (.bl (!o.isSome)) H
section
variable {X : Cx} {G : Gs}
theorem op_inDct (hu : X.A.units + 1 < cLine) : OpR X (compareOp .In) rInDct := by
  intro pins s σ H x y v u Q I rx ry h
  obtain ⟨a, o, rfl, g, q⟩ := h
  obtain rfl : u = Value.ref a := ry
  exact d_in hu I g rx fun s3 I3 => ⟨.bl o.isSome, H, I3, rfl, q⟩
theorem op_notInDct (hu : X.A.units + 1 < cLine) : OpR X (compareOp .NotIn) rNotInDct := by
  intro pins s σ H x y v u Q I rx ry h
  obtain ⟨a, o, rfl, g, q⟩ := h
  obtain rfl : u = Value.ref a := ry
  exact d_notIn hu I g rx fun s3 I3 => ⟨.bl (!o.isSome), H, I3, rfl, q⟩
/-- keys of what the layer has for a dict -/
def keysD : List (D × D) → Option (List Key)
  | [] => some []
  | (a, _) :: r => match keyD a, keysD r with
    | some k, some ks => some (k :: ks)
    | _, _ => none
theorem keyD_kD (a : Key) : keyD (kD a) = some a := by cases a <;> rfl
theorem keysD_map : ∀ kds : List (Key × D), keysD (kds.map fun p => (kD p.1, p.2)) = some (kds.map (·.1))
  | [] => rfl
  | p :: r => by rw [List.map_cons, keysD, keyD_kD, keysD_map r]; rfl
def inK (x y : D) : Option Bool := match y with
  | .dict kds => match keyD x, keysD kds with
    | some k, some ks => some (ks.any fun j => decide (j = k))
    | _, _ => none
  | _ => none
def dInK (x y : D) : M SV := bvD (inK x y)
def dNinK (x y : D) : M SV := bvD ((inK x y).map (!·))
theorem valV_keys {K : Kf} {H : Hp} {k : Key} : ∀ {kvs : List (Key × V)} {kds : List (Key × D)}, KD K H kvs kds → (valV kvs k).isSome = (kds.map (·.1)).any fun j => decide (j = k)
  | _, _, .nil => rfl
  | p :: _, q :: _, .cons ⟨h1, h2⟩ t => by
    have ih := valV_keys (k := k) t
    rw [List.map_cons, List.any_cons, ← ih, ← h1]
    by_cases h : p.1 = k
    · rw [valV_pos h]
      simp [h]
    · rw [valV_neg h]
      simp [h]
theorem inK_rule {H : Hp} {L : List Addr} {x y : V} {dx dy : D} {b : Bool} (ox : Opd G.K H L x dx) (oy : Opd G.K H L y dy) (e : inK dx dy = some b) : ∃ a o, y = .ref a ∧ DGet H a x o ∧ o.isSome = b := by
  unfold inK at e
  split at e
  · rename_i kds
    split at e
    · rename_i k ks e1 e2
      cases e
      obtain ⟨rfl, _⟩ := key_of_D ox e1
      rcases oy.dct with ⟨a, ns, rfl, e3, hs⟩ | ⟨a, kvs, ks', rfl, e3, ho, hk⟩
      · subst e3
        simp [keysD, keyD] at e2
      · subst e3
        rw [keysD_map] at e2
        cases e2
        exact ⟨a, valV kvs k, rfl, DGet.k ho, valV_keys hk⟩
    · cases e
  · cases e
theorem fit_inK : Fits2 G rInDct dInK := by
  intro σ H L en x y dx dy Q R ox oy q
  unfold dInK bvD at q
  cases e : inK dx dy with
  | none => rw [e] at q; exact q.elim
  | some b =>
    rw [e] at q
    obtain ⟨a, o, h1, h2, h3⟩ := inK_rule ox oy e
    exact ⟨a, o, h1, h2, by rw [h3]; exact post_d R (.bl _) q⟩
theorem fit_ninK : Fits2 G rNotInDct dNinK := by
  intro σ H L en x y dx dy Q R ox oy q
  unfold dNinK bvD at q
  cases e : inK dx dy with
  | none => rw [e] at q; exact q.elim
  | some b =>
    rw [e] at q
    obtain ⟨a, o, h1, h2, h3⟩ := inK_rule ox oy e
    exact ⟨a, o, h1, h2, by rw [h3]; exact post_d R (.bl _) q⟩
end
/-! ### d.update(e), e a new dict -/
def mergeD (kds more : List (Key × D)) : List (Key × D) := more.foldl (fun acc kv => putD acc kv.1 kv.2) kds
theorem KD.merge {K : Kf} {H : Hp} : ∀ {mv : List (Key × V)} {md : List (Key × D)} {kvs : List (Key × V)} {kds : List (Key × D)}, KD K H mv md → KD K H kvs kds → KD K H (mergeK kvs mv) (mergeD kds md)
  | _, _, _, _, .nil, h => h
  | p :: _, q :: _, _, _, .cons ⟨h1, h2⟩ t, h => by
    show KD K H (mergeK (putK _ p.1 p.2) _) (mergeD (putD _ q.1 q.2) _)
    rw [h1]
    exact KD.merge t (h.put h2)
def tUpd (td te : TE) : TE := fun σ H Q => td σ H fun x H1 => ∃ a, x = .ref a ∧ IsD H1 a ∧ te σ H1 fun y H2 => ∃ b kvs more, y = .ref b ∧ a ≠ b ∧ H2 a = some (.dK kvs) ∧ H2 b = some (.dK more) ∧ kvs.length + more.length ≤ sizeLine ∧ Q .non (upd H2 a (.dK (mergeK kvs more)))
section
variable {X : Cx} {G : Gs} {o e : Expr} {td te : TE} {apos cpos pos : Pos}
theorem d_upd {pins : List (Addr × Obj)} {σ : St} {H : Hp} {s : Shared} {a b : Addr} {kvs more : List (Key × V)} {Q : Value → Shared → Prop} (I : Inv X pins σ H s) (hab : a ≠ b) (ha : H a = some (.dK kvs)) (hb : H b = some (.dK more)) (hz : kvs.length + more.length ≤ sizeLine)
    (k : ∀ s', Inv X pins σ (upd H a (.dK (mergeK kvs more))) s' → Q .none s') : wpAny (model X.prog X.w) X.A (call (.builtin "dict.update") [.ref a, .ref b]) Q X.xe s := by
  obtain ⟨z1, m1, vs, r1, dd1⟩ := dk_of I.hok ha
  obtain ⟨z2, m2, ws, r2, dd2⟩ := dk_of I.hok hb
  refine call_meetsIn PySem.F.slot_dict_update dd1.typeIs PySem.F.entry_dict_update (PySem.F.args_dict_update_2 _ _) (meets_dict_update (mixKind X.prog X.w) a b hab m2) ⟨vs, ws, dd1, dd2, by rw [← r1.length, ← r2.length]; exact hz, fun h' d1 d2 sb => k _ ?_⟩
  have he : ∃ q, h'.get? a = some q := let ⟨q, _, _, hq, _⟩ := d1; ⟨q, hq⟩
  exact d_write (t' := s.toks) I (by rw [ha]; exact True.intro) sb he (dk_new (Nat.le_trans (length_mergeK _ _) hz) m1 (KV.merge r2 r1) d1)
theorem pe_upd (ho : PE X o td) (he : PE X e te) (m : M1 X o "update" apos e cpos) : PE X (.Call (.Attribute o "update" apos) [e] [] cpos) (tUpd td te) := by
  refine ⟨fun pins s σ H Q I h => ?_⟩
  refine wpAny_Call_method m.base m.few m.line PySem.F.plainAttrs_dict PySem.F.slot_dict_update PySem.F.type_dict_update (thn (ho.run pins s σ H _ I h) fun u s1 ⟨x, H1, I1, rx, a, ex, d, q1⟩ => ?_)
  subst ex
  obtain rfl : u = Value.ref a := rx
  obtain ⟨t1, t2, _⟩ := isD_at I1 d
  refine ⟨t1, t2, ?_⟩
  rw [m.trees]
  refine Calls.callWith_builtin rfl (Calls.evalArgs_plain (Calls.spliced_cons (thn (he.run pins s1 σ H1 _ I1 q1) fun iv s2 ⟨y, H2, I2, ry, b, kvs, more, ey, hab, ha, hb, hz, q2⟩ => Calls.spliced_nil ?_)))
  subst ey
  obtain rfl : iv = Value.ref b := ry
  exact d_upd I2 hab ha hb hz fun s3 I3 => ⟨.non, _, I3, rfl, q2⟩
/-- the dict of slot i takes what a new dict has -/
def mUpd (i : Nat) (me : M SV) : M Ct := fun en => match en[i]? with
  | some (some (.own (.dct _))) => mbind me (fun sv en => match sv, en[i]? with
    | .own (.dct more), some (some (.own (.dct kds))) => if kds.length + more.length ≤ sizeLine then .ok .nx (en.set i (some (.own (.dct (mergeD kds more))))) else .stuck
    | _, _ => .stuck) en
  | _ => .stuck
theorem js_upd (i : Nat) {x : Str} {p : Pos} {me : M SV} (hN : X.N[i]? = some x) (hv : Vis X.env.scope x) (he : PE X e (tE G me)) (m : M1 X (.Name x p) "update" apos e cpos) (hd : (x == ("__debug__" : Str)) = false := by decide) (hcd : (x == ("__classdict__" : Str)) = false := by decide)
    (hs : swapsWith (.Call (.Attribute (.Name x p) "update" apos) [e] [] cpos) none pos.line X.env = pure false := by rfl) :
    PS X (.Expr (.Call (.Attribute (.Name x p) "update" apos) [e] [] cpos) pos) (tS G [] (mUpd i me)) := (ps_expr (pe_upd (pe_var hN hv hd hcd) he m) hs).imp fun E σ H h => by
  obtain ⟨en, L, R, q⟩ := h
  unfold mUpd at q
  split at q
  · rename_i kds0 e0
    obtain ⟨a, kvs0, e1, m0, ho0, hr0⟩ := slot_dct R e0
    refine ⟨.ref a, e1, a, rfl, .inl ⟨kvs0, .inl ho0⟩, ?_⟩
    refine (seqES R q).mono fun y H1 ⟨en1, L1, sv, R1, s1, r1, q1⟩ => ?_
    split at q1
    · rename_i more kds e2
      obtain ⟨a', kvs, e3, m1, ho, hr⟩ := slot_dct R1 e2
      rw [e1] at e3
      cases e3
      obtain ⟨b, ob, rfl, mb, nb, hob, hrb, nob⟩ := r1
      split at q1
      · rename_i hz
        cases ob with
        | dK mv =>
          have hab : a ≠ b := fun z => nob i _ e2 (by rw [← z]; exact e1)
          have hk : KD G.K (hid H1 L1) mv more := hrb
          refine ⟨b, kvs, mv, rfl, hab, ho, hob, by rw [hr.length, hk.length]; exact hz, ?_⟩
          exact q1 σ _ L1 (R1.put e2 e1 m1 (b' := .dct (mergeD kds more)) (KD.merge hk hr)) (by rw [hid_upd m1]; exact Same.refl _) Keeps.refl
        | _ => exact hrb.elim
      · exact q1.elim
    · exact q1.elim
  · exact q.elim
end
end L2

namespace L2
open PySem PySem.Spec PyProof.Rows
/-! ### a def's promise at one surrounding -/
/-- as FnOk, where the call stands in A -/
structure FnAt (A : Around) (P : Program) (w : World) (K : Kf) (mg : Str → Option Value) (base : Heap) (CX : CXT) (f : Addr) (fd : FuncData) (ps : List Str) (sp : Sp) : Prop where
  run : ∀ (outer : List Env) (s : Shared) (H : Hp) (args : Args) (us : List Value) (vs : List V) (Q : VK) (E : XK), Env0 P w K mg base A outer s H → BindsTo s fd args (ps.zip us) → Vals vs us → sp vs H Q E → codeAny (model P w) A (.call (.ref f) args) (CR CX outer P w H s Q E) s
section
variable {A : Around} {P : Program} {w : World} {K : Kf} {mg : Str → Option Value} {base : Heap}
theorem fn_at {CX : CXT} {k : Nat} {x qual : Str} {st : Stmt} {f : Addr} {fd : FuncData} {N ps : List Str} {sp : Sp} (F : Fun K x qual st f fd) (S : FnScope N ps (defScope st)) (hr : Room (k + 1) A) (len : ∀ vs H Q E, sp vs H Q E → vs.length = ps.length)
    (body : ∀ (cdv : Value) (outer : List Env) (s : Shared) (H : Hp) (vs : List V) (Q : VK) (E : XK), Room k (A.deeper (envOfC qual (defScope st) s.heap.objs.size f cdv)) → sp vs H Q E →
      ∃ t, PSs (cxOf CX P w K mg base N qual (defScope st) f cdv A outer s H E) (defBody st) t ∧ t { nx := fun _ H' => Q .non H', rt := Q } (start N vs) H) : FnAt A P w K mg base CX f fd ps sp where
  run := fun outer s H args us vs Q E e0 hb rv hsp => by
    obtain ⟨oc, od, kV, doc, pm, an, cdv, ct, osl, rfl, lk, hcd⟩ := F.ex
    have hl := len _ _ _ _ hsp
    have KX : K.In s.heap := e0.mod.kin.keeps fun b o q => (e0.bs b o q).1
    have nl : s.heap.NoLimit := e0.mod.nolimit.keeps fun b o q => (e0.bs b o q).1
    refine codeAny_call_function hr.depth (KX _ _ lk) rfl S.co S.gen rfl (PySem.W.codeRec_of KX hcd) (hb _ _ _ _ ?_)
    refine wpAny_newFunctionEnv_cells S.kind (fun ⟨n, v⟩ hy => ?_) fun env he s1 z => ?_
    · rcases S.par n (List.of_mem_zip hy).1 with q | q
      · exact .inl q
      · exact .inr ⟨q, PySem.W.cellsFrom_some _ _ _ (.inl q)⟩
    · subst he
      refine ⟨nl.keeps z.toInCall.keep, codeAny_func ?_⟩
      obtain ⟨t, ht, hq⟩ := body cdv outer s H vs Q E (hr.deeper _) hsp
      have I := inv_start (CX := CX) (P := P) (w := w) (K := K) (mg := mg) (base := base) (N := N) (A := A) (E := E) S hr.hd e0 hl rv z
      refine wpAny_mono (ht.run [] s1 (start N vs) H _ I hq) (fun fl s' hs => ?_) fun e s' hs => hs
      cases fl with
      | ret u =>
        obtain ⟨v, σ', H', J, r, q⟩ := hs
        exact ⟨v, H', J.os, J.bare, J.base, J.hok, r, q⟩
      | next =>
        obtain ⟨σ', H', J, q⟩ := hs
        exact ⟨.non, H', J.os, J.bare, J.base, J.hok, rfl, q⟩
      | brk => obtain ⟨_, _, _, q⟩ := hs; exact False.elim q
      | cont => obtain ⟨_, _, _, q⟩ := hs; exact False.elim q
/-- a def whose surrounding is known to have no guard -/
theorem fn_mirG {wr : List Nat} {x qual : Str} {st : Stmt} {f : Addr} {fd : FuncData} {N ps : List Str} {k : Nat} {m : M Ct} (F : Fun K x qual st f fd) (S : FnScope N ps (defScope st)) (hr : Room (k + 1) A) (hg : A.guards = some [])
    (hbody : ∀ (cdv : Value) (outer : List Env) (s : Shared) (H : Hp) (E : XK) (B : List Addr), Room k (A.deeper (envOfC qual (defScope st) s.heap.objs.size f cdv)) → (A.deeper (envOfC qual (defScope st) s.heap.objs.size f cdv)).guards = some [] →
      PSs (cxOf (L2N.CX P w) P w K mg base N qual (defScope st) f cdv A outer s H E) (defBody st) (tS ⟨K, mg, hid H B, fun cls d _ H' => E cls d H', B, H, none⟩ wr m)) :
    FnAt A P w K mg base (L2N.CX P w) f fd ps (spF K mg ps.length (runF ps.length N.length m)) :=
  fn_at F S hr (fun vs H Q E h => h.1) fun cdv outer s H vs Q E hr' h => by
    obtain ⟨B, q⟩ := mir_run (wr := wr) h
    exact ⟨_, hbody cdv outer s H E B hr' hg, q⟩
theorem fn_lawG {f : Addr} {fd : FuncData} {ps : List Str} {F : Fm} (hp : ps.length = 1) (h : FnAt A P w K mg base (L2N.CX P w) f fd ps (spF K mg 1 F))
    (math : ∀ ns : List Int, ns.length ≤ 63 → ∃ en, F [scrD ns] = .ok (.d (.bool true)) en) : FnAt A P w K mg base (L2N.CX P w) f fd ps (spLaw K) where
  run := fun outer s H args us vs Q E he hb hv ⟨a, ns, e, hl, hS, q⟩ => h.run outer s H args us vs Q E he hb hv (by
    subst e
    obtain ⟨en, em⟩ := math ns hl
    refine ⟨rfl, [], [scrD ns], (fun a m => absurd m List.not_mem_nil), .cons (.scr ?_) .nil, ?_⟩
    · rw [hid_nil]; exact hS
    · rw [em]
      intro v H' _ r
      cases r
      exact q H')
/-- the script's own call, from what the law promises in the caller's surrounding -/
theorem lawAt {mb : Str → Option Value} {CX : CXT} {fa a : Addr} {fd : FuncData} {x : Str} {sp : Sp} {t : Shared} {us : List Value} {ns : List Int}
    (kx : K.In t.heap) (nm : t.heap.Ns mainGlobals mg) (nb : t.heap.Ns builtinsNs mb) (bb : ∀ y : Str, y ≠ "__name__" → mb y = bootBuiltins y) (nl : t.heap.NoLimit) (gz : t.gens = #[])
    (ha : t.heap.get? a = some { cls := .type "list", data := .seq us.toArray }) (hi : IntsAre us ns) (hl : ns.length ≤ sizeLine)
    (F : ∀ base : Heap, K.In base → base.Ns mainGlobals mg → FnAt callerA P w K mg base CX fa fd [x] sp) (hb : ∀ (s : Shared) (u : Value), BindsTo s fd ⟨[u], []⟩ [(x, u)])
    (hs : ∀ H : Hp, Only H → SqL K H a (ns.map V.int) → sp [.ref a] H (fun v _ => v = .bl true) fun _ _ _ => False) (hx : ∀ H e s', CX [] H t (fun _ _ _ => False) e s' → False) :
    codeAny (model P w) callerA (.call (.ref fa) ⟨[.ref a], []⟩) (fun r s' => r = .ok (.ret (.bool true)) ∧ OldK t.heap s'.heap ∧ s'.os = t.os ∧ AllBare s'.gens) t := by
  have rv : Vals (ns.map V.int) us := vals_ints hi
  have ll := hi.length
  have go : ∀ H : Hp, Only H → SqL K H a (ns.map V.int) → HOk P w H t.heap → (∀ b, H b ≠ none → b = a) → (H a ≠ none → K.lookup a = none) →
      codeAny (model P w) callerA (.call (.ref fa) ⟨[.ref a], []⟩) (fun r s' => r = .ok (.ret (.bool true)) ∧ OldK t.heap s'.heap ∧ s'.os = t.os ∧ AllBare s'.gens) t := by
    intro H on sq ok one away
    have free : ∀ b, b ≠ a → H b = none := fun b n => Classical.byContradiction fun z => n (one b z)
    have notA : ∀ {b : Addr} {o : Obj} {es : Array DictEntry} {ep : Nat}, t.heap.get? b = some o → o.data = .dict es ep → H b = none := fun {b o es ep} q d => by
      refine free b fun z => ?_
      subst z
      rw [ha] at q
      cases q
      exact nomatch d
    have ns1 : ∀ {b : Addr} {m : Str → Option Value}, t.heap.Ns b m → (hidT t.heap H).Ns b m := fun ⟨o, es, ep, q, d, r⟩ => ⟨o, es, ep, hidT_get q (notA q d), d, r⟩
    have k1 : K.In (hidT t.heap H) := fun b o q => hidT_get (kx b o q) (Classical.byContradiction fun z => by
      have e := one b z
      subst e
      rw [away z] at q
      cases q)
    obtain ⟨mc, n1, n2⟩ := nl
    have md : Mod K mg (hidT t.heap H) := ⟨k1, ns1 nm, ⟨mb, ns1 nb, bb⟩, mc, ns1 n1, n2⟩
    have e0 : Env0 P w K mg (hidT t.heap H) callerA [] t H := ⟨rfl, md, fun b o q => of_hidT q, Nat.le_of_eq (hidT_size _ _), trivial, fun b m => absurd (show b ∈ ([] : List Addr) from m) List.not_mem_nil, ok, .of_eq gz⟩
    refine codeAny_mono ((F _ k1 (ns1 nm)).run [] t H ⟨[.ref a], []⟩ [.ref a] [.ref a] _ _ e0 (hb t (.ref a)) (.cons rfl .nil) (hs H on sq)) fun r s' h => ?_
    match r, h with
    | .error e, h => exact (hx H e s' h).elim
    | .ok (.ret u), ⟨v, H', os, bare, un, ok', r', q⟩ =>
      have q' : v = .bl true := q
      subst q'
      obtain rfl : u = Value.bool true := r'
      refine ⟨rfl, OldK.of_keep fun b o e => ?_, os, bare⟩
      cases hb' : H b with
      | none => exact un.keep b o e hb' (by intro z; exact absurd (show b ∈ ([] : List Addr) from z) List.not_mem_nil) (by simp)
      | some z =>
        rcases on b with n | ⟨ob, xs, n⟩
        · rw [hb'] at n; cases n
        · obtain ⟨e1, _⟩ := ok b _ n
          obtain ⟨e2, _⟩ := ok' b _ (un.frzs b ob _ n)
          rw [e] at e1
          cases e1
          exact e2
  cases hk : K.lookup a with
  | some o =>
    have q := kx a o hk
    rw [ha] at q
    cases q
    exact go (fun _ => none) (fun _ => .inl rfl) (.inr ⟨_, us.toArray, _, hk, rfl, rfl, rfl, by rw [List.size_toArray, ll]; exact hl, by simpa using rv⟩) (fun b u z => by have z' : (none : Option HO) = some u := z; cases z') (fun b z => absurd rfl z) fun z => absurd rfl z
  | none =>
    let H1 : Hp := fun b => if b = a then some (.frz { cls := .type "list", data := .seq us.toArray } (.lst (ns.map V.int))) else none
    have on : ∀ b, b ≠ a → H1 b = none := fun b n => if_neg n
    have at_ : H1 a = some (.frz { cls := .type "list", data := .seq us.toArray } (.lst (ns.map V.int))) := if_pos rfl
    refine go H1 (fun b => ?_) (.inl (.inr ⟨_, at_⟩)) (fun b u z => ?_) (fun b z => Classical.byContradiction fun n => z (on b n)) fun _ => hk
    · by_cases e : b = a
      · subst e; exact .inr ⟨_, _, at_⟩
      · exact .inl (on b e)
    · by_cases e : b = a
      · subst e
        rw [at_] at z
        cases z
        exact ⟨ha, by rw [List.length_map]; exact hl, us, _, rv, ha⟩
      · rw [on b e] at z
        cases z
end
/-- walk_of where the law itself wants that no repr is under way -/
theorem walk_ofG {l : PySem.W.OpenLaw} {n : Nat} {q : Program} {loose : List Str} {XP : (Str → Option Value) → Heap → Prop} {YP : World → Heap → Prop} {d : DefRec} {K : Params → Kf} {CX : World → CXT} {sp : World → Sp} {x : Str}
    (hn : l.most = some n) (hn2 : n ≤ sizeLine) (hdf : d.params.defaults = []) (hY : ∀ (w : World) (h : Heap), YP w h → (K w.params).In h)
    (F : ∀ (w : World) (mg : Str → Option Value) (fa : Addr) (h : Heap), (K w.params).In h → h.Ns mainGlobals mg → mg d.name = some (.ref fa) →
      ∃ fd : FuncData, (∀ (s : Shared) (u : Value), BindsTo s fd ⟨[u], []⟩ [(x, u)]) ∧ ∀ base : Heap, (K w.params).In base → base.Ns mainGlobals mg → FnAt callerA l.prog w (K w.params) mg base (CX w) fa fd [x] (sp w))
    (hsp : ∀ (w : World) (H : Hp) (a : Addr) (ns : List Int), ns.length ≤ n → Only H → SqL (K w.params) H a (ns.map V.int) → sp w [.ref a] H (fun v _ => v = .bl true) fun _ _ _ => False)
    (hCX : ∀ (w : World) (H : Hp) (s : Shared) (e : Value) (s' : Shared), CX w [] H s (fun _ _ _ => False) e s' → False) :
    PySem.W.WalkO q loose XP YP l.row.toRowW d [] (fun f vs => PySem.call f vs) := by
  refine Att.attach_call hn hdf fun w s0 t mg mb fa o pm cd doc a us ns G Y ho hd hcd hmg hobj hi hlen hg => ?_
  have kx := hY w _ Y
  obtain ⟨fd, hb, hF⟩ := F w mg fa _ kx G.T.g hmg
  exact lawAt kx G.T.g G.T.b G.T.builtins G.T.nolimit hg hobj hi (Nat.le_trans hlen hn2) hF hb (fun H on sq => hsp w H a ns hlen on sq) fun H e s' => hCX w H t e s'

/-! ### abs, repr -/
section
variable {X : Cx} {G : Gs}
def dAbs : D → M SV
  | .int i => mpure (.d (.int (if i < 0 then -i else i)))
  | _ => mstuck
theorem fit_abs : FitsC G (fun xs H Q => ∃ i, xs = [.int i] ∧ Q (.int (if i < 0 then -i else i)) H) (d1 dAbs) := fit1 fun σ H L en x d Q R o q => by
  unfold dAbs at q
  split at q
  · exact ⟨_, by rw [o.int], post_d R (.int _) q⟩
  · exact q.elim
def rRepr (K : Kf) : List V → Hp → VK → Prop := fun xs H Q => ∃ (a : Addr) (d : D), xs = [.ref a] ∧ Dp K H (.ref a) d ∧ SeqAt.shaped d = true ∧ d.showable = true ∧ d.shown.length ≤ sizeLine ∧ Q (.str d.shown) H
theorem call_reprD (hg : X.A.guards = some []) (hu : X.A.units + 65 < cLine) : CallR X (.builtin "repr") (rRepr X.K) := by
  intro pins s σ H xs us Q I r h
  obtain ⟨a, d, rfl, hd, hs, hw, hz, q⟩ := h
  rw [Vals.ref1 r]
  obtain ⟨as, rd⟩ := Dp.reads I d (.ref a) (.ref a) hd rfl
  have hl := SeqAt.canLay_of_shaped hs
  have hdep : d.depth ≤ 64 := by
    have z : (d.canLay0 && decide (d.depth ≤ 64)) = true := hs
    rw [Bool.and_eq_true] at z
    exact of_decide_eq_true z.2
  exact repr_of_reads' rd hw (PyData.noDict_hsm (PyData.hasDict_of_canLay d hl)) hg (by omega) (fun b o e => e) (fun h' u tk k => ⟨.str d.shown, H, I.kept (t' := tk) k, ⟨u, rfl⟩, q⟩) hz
def reprD : D → Option Str
  | .tuple ds => if plains ds = true ∧ SeqAt.shaped (.tuple ds) = true ∧ PyData.showable (.tuple ds) = true ∧ (PyData.shown (.tuple ds)).length ≤ sizeLine then some (PyData.shown (.tuple ds)) else none
  | .list ds => if plains ds = true ∧ SeqAt.shaped (.list ds) = true ∧ PyData.showable (.list ds) = true ∧ (PyData.shown (.list ds)).length ≤ sizeLine then some (PyData.shown (.list ds)) else none
  | _ => none
def dRepr (x : D) : M SV := ivD ((reprD x).map .str)
theorem fit_repr : FitsC G (rRepr G.K) (d1 dRepr) := fit1 fun σ H L en x d Q R o q => by
  unfold dRepr ivD at q
  cases e : reprD d with
  | none => rw [e] at q; exact q.elim
  | some z =>
    rw [e] at q
    unfold reprD at e
    split at e
    · split at e
      · rename_i h
        cases e
        obtain ⟨a, xs, rfl, _⟩ := o.tuple
        exact ⟨a, _, rfl, o.dp (by simpa [plain] using h.1), h.2.1, h.2.2.1, h.2.2.2, post_d R (.str _) q⟩
      · cases e
    · split at e
      · rename_i h
        cases e
        obtain ⟨a, xs, rfl, _⟩ := o.list
        exact ⟨a, _, rfl, o.dp (by simpa [plain] using h.1), h.2.1, h.2.2.1, h.2.2.2, post_d R (.str _) q⟩
      · cases e
    · cases e
end
end L2

namespace L2
open PySem PySem.Spec PyProof.Rows
/-! ### list(range(n)) -/
section
variable {X : Cx} {G : Gs}
theorem cr_range1 : CallR X (.type "range") (fun vs H Q => ∃ j, vs = [V.int j] ∧ ∀ p, H p = none → Q (.ref p) (upd H p (.rng 0 j))) := by
  intro pins s σ H vs us Q I r h
  obtain ⟨j, rfl, q⟩ := h
  obtain ⟨u, rfl, t, rfl⟩ := vals1 r
  refine call_range_1 ⟨.ref s.heap.objs.size, upd H s.heap.objs.size (.rng 0 j), I.laid (t' := s.toks + 1 + 1) (fun b o e => Heap.get?_push_of_some _ e) (Nat.le_refl _) ?_, rfl, q _ (I.hok.fresh (Nat.le_refl _))⟩
  exact ⟨s.toks, t, s.toks + 1, Heap.get?_push_size _ rfl⟩
def rngV (n : Nat) : List V := (List.range n).map fun k => .int (0 + (k : Nat))
theorem rngV_dq {K : Kf} {H : Hp} : ∀ l : List Nat, DqAll K H (l.map fun k => V.int (0 + (k : Nat))) (l.map fun k => .int (0 + (k : Nat)))
  | [] => .nil
  | k :: r => .cons (.int _) (rngV_dq r)
theorem vals_items {acc : Array Value} {n : Nat} (h : ItemsOf (fun i v => ∃ t, v = .int (0 + (i : Int) * 1) t) acc n) : Vals (rngV n) acc.toList := by
  obtain ⟨hz, hv⟩ := h
  have key : ∀ (m : Nat) (us : List Value) (k : Nat), us.length = m → (∀ j v, us[j]? = some v → ∃ t, v = Value.int (0 + ((k + j : Nat) : Int) * 1) t) → Vals ((List.range' k m).map fun k => V.int (0 + (k : Nat))) us := by
    intro m
    induction m with
    | zero =>
      intro us k hl _
      obtain rfl := List.length_eq_zero_iff.mp hl
      exact .nil
    | succ m ih =>
      intro us k hl hu
      cases us with
      | nil => simp at hl
      | cons u us =>
        rw [List.range'_succ, List.map_cons]
        obtain ⟨t, rfl⟩ := hu 0 u rfl
        refine .cons ⟨t, by simp⟩ (ih us (k + 1) (by simpa using hl) fun j v e => ?_)
        obtain ⟨t, rfl⟩ := hu (j + 1) v (by simpa using e)
        exact ⟨t, by rw [show k + 1 + j = k + (j + 1) by omega]⟩
  have z := key n acc.toList 0 (by rw [Array.length_toList]; exact hz) fun j v e => by
    obtain ⟨t, rfl⟩ := hv j v (by rw [← Array.getElem?_toList]; exact e)
    exact ⟨t, by rw [Nat.zero_add]⟩
  unfold rngV
  rw [List.range_eq_range']
  exact z
theorem cr_listRng (hc : X.calm = true) : CallR X (.type "list") (fun vs H Q => ∃ (a : Addr) (j : Int), vs = [V.ref a] ∧ H a = some (.rng 0 j) ∧ (-(2 ^ 62) ≤ j ∧ j ≤ 2 ^ 20) ∧ ∀ p, H p = none → Q (.ref p) (upd H p (.lst (rngV j.toNat)))) := by
  intro pins s σ H vs us Q I r h
  obtain ⟨a, j, rfl, ha, ⟨hn, hj⟩, q⟩ := h
  rw [Vals.ref1 r]
  obtain ⟨t, u, v, ho⟩ := (show ∃ t u v, s.heap.get? a = some { cls := .type "range", data := .fields #[.int 0 t, .int j u, .int 1 v] } from I.hok a _ ha)
  have hz : (Builtin.Range.rangeSize 0 j 1) = ((j.toNat : Nat) : Int) := by rw [rangeSize_one]; split <;> omega
  refine call_list_range (n := j.toNat) (I.ok.hd hc) (show IsRange s.heap a 0 j 1 t u v from ho) (small_one (by omega) (by omega) hn (by omega)) hz (by omega) fun h' tk acc c' hk hS hi => ?_
  refine ⟨.ref s.heap.objs.size, upd H s.heap.objs.size (.lst (rngV j.toNat)), I.laid (t' := tk) hk (Nat.le_refl _) ⟨?_, acc.toList, c', vals_items hi, ?_⟩, rfl, q _ (I.hok.fresh (Nat.le_refl _))⟩
  · unfold rngV; rw [List.length_map, List.length_range, sizeLine_eq]; omega
  · exact hS
end
/-- list(range(e)) -/
def mLRange (m : M SV) : M SV := mbind (mfrz m) fun sv en => match look en sv with
  | some (.int j) => if -(2 ^ 62) ≤ j ∧ j ≤ 2 ^ 20 then .ok (.own (.lst (rngD 0 j.toNat))) en else .stuck
  | _ => .stuck
section
variable {X : Cx} {G : Gs} {e : Expr} {m : M SV} {p p2 pos pos2 : Pos}
theorem je_listRange (hc : X.calm = true) (h1 : Gl X "list") (h2 : X.mg "list" = none) (h3 : Gl X "range") (h4 : X.mg "range" = none) (he : PE X e (tE G m))
    (e1 : starEach [.Call (.Name "range" p2) [e] [] pos2] X.env = (false, eval (.Call (.Name "range" p2) [e] [] pos2) X.env) :: starEach [] X.env := by rfl) (e2 : starEach [e] X.env = (false, eval e X.env) :: starEach [] X.env := by rfl) :
    PE X (.Call (.Name "list" p) [.Call (.Name "range" p2) [e] [] pos2] [] pos) (tE G (mLRange m)) :=
  (pe_callTy (cr_listRng hc) h1 h2 (by decide +kernel) (pa_cons (pe_callTy cr_range1 h3 h4 (by decide +kernel) (pa_cons (je_frz he) pa_nil e2) (he := e2)) pa_nil e1) (he := e1)).imp fun σ H Q h => by
    obtain ⟨en, L, R, q⟩ := h
    refine (seqE R q).mono fun x H1 ⟨en1, L1, sv, R1, s1, r1, q1⟩ => ?_
    cases e1 : look en1 sv with
    | none => rw [e1] at q1; exact q1.elim
    | some d =>
      rw [e1] at q1
      have o := RV.opd R1 (Same.refl _) r1 e1
      split at q1
      · rename_i j heq
        cases heq
        split at q1
        · rename_i hj
          refine ⟨j, by rw [o.int], fun b hb => ?_⟩
          refine ⟨b, j, rfl, upd_same, hj, fun p hp => ?_⟩
          have R2 := R1.grow (same_new (o := .rng 0 j) hb)
          have s2 := hid_mono (L := L1) (same_new (o := .rng 0 j) hb)
          exact post_lst R2 hp (rngV_dq _) (q1.from s2)
        · exact q1.elim
      · exact q1.elim
end
/-! ### a comprehension within a comprehension -/
theorem relabel_look {env : Env} {x : Str} : ∀ {ns : List (Str × NameKind)}, (ns.lookup x = some .cell ∨ ns.lookup x = some .free) →
    (ns.map fun (n, k) => if (k == NameKind.free && env.scope.kind == .function && env.kindOf n == some .cell) then (n, NameKind.cell) else (n, k)).lookup x = some .cell ∨
    (ns.map fun (n, k) => if (k == NameKind.free && env.scope.kind == .function && env.kindOf n == some .cell) then (n, NameKind.cell) else (n, k)).lookup x = some .free
  | [], h => by rcases h with h | h <;> simp at h
  | (n, k) :: r, h => by
    have ih := relabel_look (env := env) (x := x) (ns := r)
    rw [List.map_cons]
    by_cases c : (k == NameKind.free && env.scope.kind == .function && env.kindOf n == some .cell) = true
    · simp only [c, if_true]
      by_cases e : x == n
      · rw [List.lookup_cons, e]
        exact .inl rfl
      · have e' : (x == n) = false := by simpa using e
        simp only [List.lookup_cons, e'] at h
        rw [List.lookup_cons, e']
        exact ih h
    · simp only [c, if_false, Bool.false_eq_true]
      by_cases e : x == n
      · simp only [List.lookup_cons, e] at h
        rw [List.lookup_cons, e]
        exact h
      · have e' : (x == n) = false := by simpa using e
        simp only [List.lookup_cons, e'] at h
        rw [List.lookup_cons, e']
        exact ih h
theorem blkOk_re {N : List Str} {sc scope : Scope} {env : Env} {own : List (Str × Nat)} (h : blkC N sc scope own = true) : BlkOk N (relabel sc env) scope own :=
  have b := blkOk_by h
  ⟨b.kind, b.uniq, b.ix, fun y hy e => relabel_look (b.free y hy e), b.own⟩
end L2

namespace L2
open PySem PySem.Spec PyProof.Rows
/-! ### max(xs, default=d), xs ints -/
section
variable {prog : Program} {w : World} {A : Around} {E : Value → Shared → Prop} {s : Shared} {l : Addr} {its : List Value} {ns : List Int}
theorem max_dfl {d : Value} {Q : Value → Shared → Prop} (hh : A.handled = none) (hl : s.heap.IsList l its.toArray) (hi : IntsAre its ns)
    (h0 : ns = [] → ∀ h' tk, (∀ b o, s.heap.get? b = some o → h'.get? b = some o) → Q d { s with heap := h', toks := tk })
    (h : ns ≠ [] → ∀ h' tk M t', (∀ b o, s.heap.get? b = some o → h'.get? b = some o) → M ∈ ns → (∀ a, a ∈ ns → a ≤ M) → Q (.int M t') { s with heap := h', toks := tk }) :
    wpAny (model prog w) A (call (.builtin "max") [.ref l] [(Str.ofString "default", d)]) Q E s := by
  obtain ⟨xs, e⟩ := hi.allInts.items
  have hn : numsOf (intItems xs).toList = ns := by rw [← e]; exact hi.numsOf
  rw [nums_intItems] at hn
  subst hn
  rw [e] at hl
  refine call_max_walkD (iter_intList hl fun s₂ e2 st hfp hlI => ?_)
  subst e2
  refine ⟨_, _, _, _, _, _, _, Att.noObjs s.heap, _, rfl, (Walks.list (A := A.in1) hh _ l hlI (intItems xs)).toS, st, hfp, (fun b o z => by rw [Att.noObjs_get] at z; cases z), (fun b o z => by rw [Att.noObjs_get] at z; cases z), fun hz s' mv => ?_, fun hz => ⟨fun i j vi vj s Q E _ hi hj hq => CmpOf.ints_gt (numAt xs) (fun _ _ => intItems_at) i j vi vj s Q E hi hj hq, fun v s' hP mv => ?_⟩⟩
  · obtain ⟨hp, g', d', tk', os'⟩ := s'
    obtain rfl : g' = s.gens := mv.gens
    obtain rfl : d' = s.drawn := mv.drawn
    obtain rfl : os' = s.os := mv.os
    refine h0 ?_ hp tk' (old_kept mv.heap)
    have : xs.size = 0 := by simpa [intItems] using hz
    have e3 : xs = #[] := Array.size_eq_zero_iff.mp this
    subst e3
    rfl
  · obtain ⟨hp, g', d', tk', os'⟩ := s'
    obtain rfl : g' = s.gens := mv.gens
    obtain rfl : d' = s.drawn := mv.drawn
    obtain rfl : os' = s.os := mv.os
    have hsz : 0 < xs.size := by simpa [intItems] using hz
    have hv : (intItems xs)[argBest (fun i j => decide (numAt xs i > numAt xs j)) (xs.size - 1)]? = some v := by simpa [intItems] using hP
    obtain ⟨t, rfl⟩ := intItems_at hv
    obtain ⟨q1, q2⟩ := argBest_gt (numAt xs) (xs.size - 1)
    refine h (fun z => ?_) hp tk' _ t (old_kept mv.heap) ?_ fun a ha => ?_
    · have := congrArg List.length z
      simp at this
      subst this
      simp at hsz
    · rw [numAt_eq]; exact PySem.getD_mem (by rw [List.length_map, Array.length_toList]; omega)
    · obtain ⟨j, hj, rfl⟩ := mem_getD ha
      rw [List.length_map, Array.length_toList] at hj
      rw [← numAt_eq]; exact q2 j (by omega)
end
section
variable {X : Cx} {G : Gs}
def rMaxDf (K : Kf) : List V → List V → Hp → VK → Prop := fun xs zs H Q => ∃ (a : Addr) (ns : List Int) (d : Int), xs = [.ref a] ∧ zs = [.int d] ∧ SqL K H a (ns.map V.int) ∧ (ns = [] → Q (.int d) H) ∧ (ns ≠ [] → ∀ m, m ∈ ns → (∀ y, y ∈ ns → y ≤ m) → Q (.int m) H)
theorem cr_maxDf (hc : X.calm = true) : CallRK X (.builtin "max") ["default"] (rMaxDf X.K) := by
  intro pins s σ H xs zs us ws Q I r r2 h
  obtain ⟨a, ns, d, rfl, rfl, hs, q0, q⟩ := h
  obtain ⟨its, rv, hl, _⟩ := I.list hs
  rw [Vals.ref1 r]
  obtain ⟨u, rfl, t, rfl⟩ := vals1 r2
  exact max_dfl (I.ok.hd hc) hl.isList rv.ints (fun e h' tk hk => ⟨.int d, H, I.kept hk, ⟨t, rfl⟩, q0 e⟩) fun e h' tk m t' hk h1 h2 => ⟨.int m, H, I.kept hk, ⟨t', rfl⟩, q e m h1 h2⟩
/-- the greatest of ns, d where there is none -/
def maxI (d : Int) : List Int → Int
  | [] => d
  | n :: r => r.foldl (fun a b => if a < b then b else a) n
theorem fold_ge : ∀ (r : List Int) (n : Int), n ≤ r.foldl (fun a b => if a < b then b else a) n ∧ (∀ y ∈ r, y ≤ r.foldl (fun a b => if a < b then b else a) n) ∧ (r.foldl (fun a b => if a < b then b else a) n = n ∨ r.foldl (fun a b => if a < b then b else a) n ∈ r)
  | [], n => ⟨Int.le_refl _, (fun y m => by cases m), .inl rfl⟩
  | b :: r, n => by
    rw [List.foldl_cons]
    obtain ⟨h1, h2, h3⟩ := fold_ge r (if n < b then b else n)
    have e : n ≤ (if n < b then b else n) ∧ b ≤ (if n < b then b else n) := by split <;> omega
    refine ⟨by omega, fun y m => ?_, ?_⟩
    · rcases List.mem_cons.mp m with rfl | m
      · omega
      · exact h2 y m
    · rcases h3 with h3 | h3
      · rw [h3]
        by_cases c : n < b
        · rw [if_pos c]; exact .inr List.mem_cons_self
        · rw [if_neg c]; exact .inl rfl
      · exact .inr (List.mem_cons_of_mem _ h3)
theorem maxI_mem {d : Int} : ∀ {ns : List Int}, ns ≠ [] → maxI d ns ∈ ns
  | [], h => absurd rfl h
  | n :: r, _ => by
    show r.foldl _ n ∈ _
    rcases (fold_ge r n).2.2 with e | e
    · rw [e]; exact List.mem_cons_self
    · exact List.mem_cons_of_mem _ e
theorem maxI_ge {d : Int} : ∀ {ns : List Int} {y : Int}, y ∈ ns → y ≤ maxI d ns
  | n :: r, y, m => by
    show _ ≤ r.foldl _ n
    rcases List.mem_cons.mp m with rfl | m
    · exact (fold_ge r y).1
    · exact (fold_ge r n).2.1 y m
theorem maxI_uniq {d m : Int} {ns : List Int} (h1 : m ∈ ns) (h2 : ∀ y, y ∈ ns → y ≤ m) : m = maxI d ns := by
  have a := maxI_ge (d := d) h1
  have b := h2 _ (maxI_mem (d := d) (List.ne_nil_of_mem h1))
  omega
def mMaxDf (me md : M SV) : M SV := mbind (mfrz me) fun a => mbind (mfrz md) fun b en => match look en a, look en b with
  | some (.list ds), some (.int d) => (match intsOf ds with
    | some ns => .ok (.d (.int (maxI d ns))) en
    | none => .stuck)
  | _, _ => .stuck
theorem je_maxDf {e ed : Expr} {me md : M SV} {p pos kpos : Pos} (hc : X.calm = true) (hK : X.K = G.K) (hg : Gl X "max") (hm : X.mg "max" = none) (he : PE X e (tE G me)) (hd : PE X ed (tE G md)) (hse : starEach [e] X.env = (false, eval e X.env) :: starEach [] X.env := by rfl)
    (h1 : backTo pos (starEach [e] X.env) = (false, eval e X.env) :: backTo pos (starEach [] X.env) := by rfl) (hpl : (backTo pos (starEach [e] X.env)).any (·.1) = false := by rfl)
    (hall : (backToKw pos (keywordEach [⟨some "default", ed, kpos⟩] X.env)).all (·.1.isSome) = true := by rfl) (hnone : (backToKw pos (keywordEach [⟨some "default", ed, kpos⟩] X.env)).any (·.1.isNone) = false := by rfl) (hks : (backToKw pos (keywordEach [⟨some "default", ed, kpos⟩] X.env)).filterMap (·.1) = (["default"] : List Str) := by rfl) :
    PE X (.Call (.Name "max" p) [e] [⟨some "default", ed, kpos⟩] pos) (tE G (mMaxDf me md)) :=
  (pe_callBK (cr_maxDf hc) hg hm (by decide +kernel) (pa_cons (je_frz he) pa_nil hse) (pk_cons (je_frz hd) pk_nil) (he := h1) (hpl := hpl) (hall := hall) (hnone := hnone) (hks := hks)).imp fun σ H Q h => by
    obtain ⟨en, L, R, q⟩ := h
    refine (seqE R q).mono fun x H1 ⟨en1, L1, a, R1, s1, r1, q1⟩ => ?_
    refine (seqE R1 q1).mono fun y H2 ⟨en2, L2, b, R2, s2, r2, q2⟩ => ?_
    split at q2
    · rename_i ds d ea eb
      split at q2
      · rename_i ns en
        obtain ⟨l, ys, rfl, ho, hr⟩ := (RV.opd R2 s2 r1 ea).list'
        have e2 := (RV.opd R2 (Same.refl _) r2 eb).int
        have e3 := intsOf_eq en
        subst e3 e2
        have e4 := dqAll_ints hr
        subst e4
        refine ⟨l, ns, d, rfl, rfl, by rw [hK]; exact ho, fun e => ?_, fun e m h1 h2 => ?_⟩
        · subst e
          exact post_d R2 (.int _) q2
        · rw [maxI_uniq (d := d) h1 h2]
          exact post_d R2 (.int _) q2
      · exact q2.elim
    · exact q2.elim
end
/-! ### l[i] = v, l the list of a slot -/
def mLPut (i : Nat) (mk mv : M SV) : M Ct := mbind (mkeep mv) fun sv en => match en[i]? with
  | some (some (.own (.lst _))) => mbind (mfrz mk) (fun sk en => match look en sk, sv, en[i]? with
    | some (.int k), .d z, some (some (.own (.lst ds))) => (match ixN ds.length k with
      | some j => .ok .nx (en.set i (some (.own (.lst (ds.set j z)))))
      | none => .stuck)
    | _, _, _ => .stuck) en
  | _ => .stuck
section
variable {X : Cx} {G : Gs} {ek ev : Expr} {mk mv : M SV} {pos pos' : Pos}
theorem js_lput (i : Nat) {x : Str} {p : Pos} (hN : X.N[i]? = some x) (hv : Vis X.env.scope x) (hk : PE X ek (tE G mk)) (he : PE X ev (tE G mv)) (hd : (x == ("__debug__" : Str)) = false := by decide) (hcd : (x == ("__classdict__" : Str)) = false := by decide)
    (ha : ∀ v, assign (.Subscript (.Name x p) ek pos') X.env v = (do
      let ov ← holding [v] (eval (.Name x p) X.env)
      let iv ← holding [v, ov] (eval ek X.env)
      standAt pos'
      holding [v, ov, iv] (setItem ov iv v)
      release [v, ov, iv] []) := by intro _; rfl)
    (hs : swapsWithSole [.Subscript (.Name x p) ek pos'] ev pos.line X.env = pure false := by rfl) (hw : swappedStores [.Subscript (.Name x p) ek pos'] ev X.env = pure none := by rfl)
    (h1 : (assignEach [.Subscript (.Name x p) ek pos'] X.env).map (·.2) = [assign (.Subscript (.Name x p) ek pos') X.env] := by rfl) :
    PS X (.Assign [.Subscript (.Name x p) ek pos'] ev pos) (tS G [] (mLPut i mk mv)) :=
  (ps_asg (je_keep he) (pg_sub (pe_var hN hv hd hcd) (je_frz hk) set_list (ha := ha)) hs hw h1).imp fun D σ H h => by
    obtain ⟨en, L, R, q⟩ := h
    refine (seqES R q).mono fun v H1 ⟨en1, L1, sv, R1, s1, r1, q1⟩ => ?_
    split at q1
    · rename_i ds0 e0
      obtain ⟨a, xs0, e1, m0, ho0, hr0⟩ := slot_lst R1 e0
      refine ⟨.ref a, e1, ?_⟩
      refine (seqES R1 q1).mono fun y H2 ⟨en2, L2, sk, R2, s2, r2, q2⟩ => ?_
      split at q2
      · rename_i k z ds ey e2 _
        split at q2
        · rename_i j ej
          obtain ⟨a', xs, e3, m, ho, hr⟩ := slot_lst R2 e2
          rw [e1] at e3
          cases e3
          have eyi := (RV.opd R2 (Same.refl _) r2 ey).int
          subst eyi
          refine ⟨a, xs, k, j, rfl, rfl, ho, by rw [hr.length]; exact ej, ?_⟩
          exact q2 σ _ L2 (R2.put e2 e1 m (b' := .lst (ds.set j z)) (DqAll.set (Dq.mono s2 _ r1) j hr)) (by rw [hid_upd m]; exact Same.refl _) Keeps.refl
        · exact q2.elim
      · exact q2.elim
    · exact q1.elim
end
/-! ### for x in reversed(range(n)) -/
def revD (n : Nat) : List D := (List.range n).map fun k => .int ((n : Int) - 1 - (k : Nat))
theorem walks_rev {K : Kf} {n : Nat} : Walks K (Itc (0 + (n : Int) - 1) (-1) n) (fun _ _ => True) (revD n) where
  go := fun i H L _ hi => by
    unfold revD at hi
    rw [List.length_map, List.length_range] at hi
    exact hi
  stop := fun i H L _ hi => by
    unfold revD at hi
    rw [List.length_map, List.length_range] at hi
    exact (by omega : n ≤ i)
  yld := fun i H L x H' d _ hi y _ => by
    obtain ⟨e, e2⟩ := y
    subst e e2
    unfold revD at hi
    rw [List.getElem?_map] at hi
    by_cases h : i < n
    · rw [List.getElem?_range h] at hi
      cases hi
      refine ⟨Same.refl _, ?_⟩
      rw [show (0 : Int) + (n : Int) - 1 + (i : Nat) * (-1) = (n : Int) - 1 - (i : Nat) by omega]
      exact .int _
    · rw [List.getElem?_eq_none (by rw [List.length_range]; omega)] at hi
      cases hi
noncomputable def mForRev (tg : Tg) (me : M SV) (body : M Ct) : M Ct := mbind (mfrz me) fun sv en => match look en sv with
  | some (.int j) => if -(2 ^ 62) ≤ j ∧ j < 2 ^ 62 then forGo tg none body (revD j.toNat) en else .stuck
  | _ => .stuck
section
variable {X : Cx} {G : Gs} {t a : Expr} {body : List Stmt} {me : M SV} {mb : M Ct} {wb : List Nat} {tg : Tg} {pos p p2 pos' pos2 : Pos}
theorem js_forRev (hp : PassesOwn (model X.prog X.w) X.A X.env X.xe) (hc : X.calm = true) (hK : X.K = G.K) (h1 : Gl X "reversed") (h2 : X.mg "reversed" = none) (h3 : Gl X "range") (h4 : X.mg "range" = none) (ha : PE X a (tE G me)) (hg : PG X t (gOf X.K tg)) (hb : PSs X body (tS G wb mb))
    (e1 : starEach [.Call (.Name "range" p2) [a] [] pos2] X.env = (false, eval (.Call (.Name "range" p2) [a] [] pos2) X.env) :: starEach [] X.env := by rfl) (e2 : starEach [a] X.env = (false, eval a X.env) :: starEach [] X.env := by rfl)
    (hf : ∀ x, foldedSetIterable (.Call (.Name "reversed" p) [.Call (.Name "range" p2) [a] [] pos2] [] pos') X.env x = pure x := by intro _; rfl) :
    PS X (.For t (.Call (.Name "reversed" p) [.Call (.Name "range" p2) [a] [] pos2] [] pos') body [] pos) (tS G (tg.slots ++ wb) (mForRev tg me mb)) :=
  (ps_for hp hc (pi_revR h1 h2 (prg_1 h3 h4 (je_frz ha) e2) e1) hg hb hf).imp fun E σ H h => by
    obtain ⟨en, L, R, q⟩ := h
    refine (seqES R q).mono fun v H1 ⟨en1, L1, sv, R1, s1, r1, q1⟩ => ?_
    rw [hK]
    split at q1
    · rename_i j e
      split at q1
      · rename_i hj
        refine ⟨j, (RV.opd R1 (Same.refl _) r1 e).int, by omega, by omega, hj.1, hj.2, ?_⟩
        rw [Int.sub_zero]
        by_cases h0 : 0 ≤ j
        · exact for_run walks_rev R1 q1 fun _ _ _ _ _ _ _ _ => trivial
        · have hz : j.toNat = 0 := by omega
          exact for_run walks_rev R1 q1 fun _ _ _ _ _ _ _ _ => trivial
      · exact q1.elim
    · exact q1.elim
end
end L2

namespace L2
open PySem PySem.Spec PyProof.Rows
/-! ### the mirror's steps as rewriting -/
variable {α β : Type} {en : En}
@[simp] theorem s_pure (a : α) : mpure a en = .ok a en := rfl
@[simp] theorem s_stuck : (mstuck : M α) en = .stuck := rfl
@[simp] theorem s_bind (m : M α) (f : α → M β) : mbind m f en = match m en with
  | .ok a e => f a e
  | .exc x e => .exc x e
  | .stuck => .stuck := rfl
@[simp] theorem s_var (i : Nat) : mVar i en = match en[i]? with
  | some (some (.d d)) => .ok (.d d) en
  | some (some (.own _)) => .ok (.bor i) en
  | _ => .stuck := rfl
@[simp] theorem s_c (d : D) : mC d en = .ok (.d d) en := rfl
@[simp] theorem s_frz (m : M SV) : mfrz m en = match m en with
  | .ok (.own (.lst ds)) e => .ok (.d (.list ds)) e
  | .ok (.own (.dct _)) _ => .stuck
  | .ok (.d d) e => .ok (.d d) e
  | .ok (.bor i) e => .ok (.bor i) e
  | .exc x e => .exc x e
  | .stuck => .stuck := by
  unfold mfrz
  rw [s_bind]
  cases m en with
  | ok sv e => cases sv with
    | d _ => rfl
    | bor _ => rfl
    | own o => cases o <;> rfl
  | exc x e => rfl
  | stuck => rfl
@[simp] theorem s_keep (m : M SV) : mkeep m en = match m en with
  | .ok (.own (.lst ds)) e => .ok (.d (.list ds)) e
  | .ok (.own (.dct _)) _ => .stuck
  | .ok (.d d) e => .ok (.d d) e
  | .ok (.bor i) e => (match e[i]? with
    | some (some (.own (.lst ds))) => .ok (.d (.list ds)) (e.set i (some (.d (.list ds))))
    | _ => .stuck)
  | .exc x e => .exc x e
  | .stuck => .stuck := by
  unfold mkeep
  rw [s_bind, s_frz]
  cases h : m en with
  | ok sv e =>
    cases sv with
    | d _ => rfl
    | bor _ => rfl
    | own o => cases o <;> rfl
  | exc x e => rfl
  | stuck => rfl
@[simp] theorem s_look_d (d : D) : look en (.d d) = some d := rfl
@[simp] theorem s_look_bor (i : Nat) : look en (.bor i) = match en[i]? with
  | some (some (.own (.lst ds))) => some (.list ds)
  | some (some (.own (.dct kvs))) => some (dctD kvs)
  | _ => none := rfl
@[simp] theorem s_lookA_d (d : D) : lookA en (.d d) = some d := rfl
@[simp] theorem s_lookA_bor (i : Nat) : lookA en (.bor i) = match en[i]? with
  | some (some (.own (.lst ds))) => some (.list ds)
  | some (some (.own (.dct kds))) => if (kds.all fun p => isAt p.2) = true then some (dctD kds) else none
  | _ => none := rfl
@[simp] theorem s_lent_d (d : D) : lentOk en (.d d) = true := rfl
@[simp] theorem s_lent_bor (i : Nat) : lentOk en (.bor i) = match en[i]? with
  | some (some (.own _)) => true
  | _ => false := rfl
@[simp] theorem s_looks_nil : looks en [] = some [] := rfl
@[simp] theorem s_looks_cons (s : SV) (r : List SV) : looks en (s :: r) = match look en s, looks en r with
  | some d, some ds => some (d :: ds)
  | _, _ => none := rfl
@[simp] theorem s_looksA_nil : looksA en [] = some [] := rfl
@[simp] theorem s_looksA_cons (s : SV) (r : List SV) : looksA en (s :: r) = match lookA en s, looksA en r with
  | some d, some ds => some (d :: ds)
  | _, _ => none := rfl
@[simp] theorem s_op1 (f : D → M SV) (m : M SV) : mOp1 f m en = match mfrz m en with
  | .ok sv e => (match look e sv with
    | some x => f x e
    | none => .stuck)
  | .exc x e => .exc x e
  | .stuck => .stuck := by
  unfold mOp1
  rw [s_bind]
  cases mfrz m en with
  | ok a e => first | rfl | (dsimp only; cases look e a <;> rfl)
  | exc _ _ => rfl
  | stuck => rfl
@[simp] theorem s_op2 (f : D → D → M SV) (ma mb : M SV) : mOp2 f ma mb en = match mfrz ma en with
  | .ok a e => (match mfrz mb e with
    | .ok b e => (match look e a, look e b with
      | some x, some y => f x y e
      | _, _ => .stuck)
    | .exc x e => .exc x e
    | .stuck => .stuck)
  | .exc x e => .exc x e
  | .stuck => .stuck := by
  unfold mOp2
  rw [s_bind]
  cases mfrz ma en with
  | ok a e =>
    dsimp only
    rw [s_bind]
    cases mfrz mb e with
    | ok b e => first | rfl | (dsimp only; cases look e a <;> first | rfl | (cases look e b <;> rfl))
    | exc _ _ => rfl
    | stuck => rfl
  | exc _ _ => rfl
  | stuck => rfl
@[simp] theorem s_B (m : M SV) : mB m en = match m en with
  | .ok (.d (.bool b)) e => .ok b e
  | .exc x e => .exc x e
  | _ => .stuck := by
  unfold mB mbind
  cases h : m en with
  | ok sv e =>
    cases sv with
    | d d => cases d <;> rfl
    | bor _ => rfl
    | own o => rfl
  | exc x e => rfl
  | stuck => rfl
@[simp] theorem s_BV (t : M Bool) : mBV t en = match t en with
  | .ok b e => .ok (.d (.bool b)) e
  | .exc x e => .exc x e
  | .stuck => .stuck := by
  unfold mBV
  rw [s_bind]
  cases t en with
  | ok a e => rfl
  | exc _ _ => rfl
  | stuck => rfl
@[simp] theorem s_notT (t : M Bool) : mNotT t en = match t en with
  | .ok b e => .ok (!b) e
  | .exc x e => .exc x e
  | .stuck => .stuck := by
  unfold mNotT
  rw [s_bind]
  cases t en with
  | ok a e => rfl
  | exc _ _ => rfl
  | stuck => rfl
@[simp] theorem s_andT (t u : M Bool) : mAndT t u en = match t en with
  | .ok true e => u e
  | .ok false e => .ok false e
  | .exc x e => .exc x e
  | .stuck => .stuck := by
  unfold mAndT mbind
  cases h : t en with
  | ok b e => cases b <;> rfl
  | exc x e => rfl
  | stuck => rfl
@[simp] theorem s_orT (t u : M Bool) : mOrT t u en = match t en with
  | .ok false e => u e
  | .ok true e => .ok true e
  | .exc x e => .exc x e
  | .stuck => .stuck := by
  unfold mOrT mbind
  cases h : t en with
  | ok b e => cases b <;> rfl
  | exc x e => rfl
  | stuck => rfl
@[simp] theorem s_if (t : M Bool) (a b : M SV) : mIf t a b en = match t en with
  | .ok true e => a e
  | .ok false e => b e
  | .exc x e => .exc x e
  | .stuck => .stuck := by
  unfold mIf mbind
  cases h : t en with
  | ok b e => cases b <;> rfl
  | exc x e => rfl
  | stuck => rfl
@[simp] theorem s_ifS (t : M Bool) (a b : M Ct) : mIfS t a b en = match t en with
  | .ok true e => a e
  | .ok false e => b e
  | .exc x e => .exc x e
  | .stuck => .stuck := by
  unfold mIfS mbind
  cases h : t en with
  | ok b e => cases b <;> rfl
  | exc x e => rfl
  | stuck => rfl
@[simp] theorem s_nil : mNil en = .ok [] en := rfl
@[simp] theorem s_cons (m : M SV) (r : M (List SV)) : mCons m r en = match mfrz m en with
  | .ok a e => (match r e with
    | .ok as e => if lentOk e a then .ok (a :: as) e else .stuck
    | .exc x e => .exc x e
    | .stuck => .stuck)
  | .exc x e => .exc x e
  | .stuck => .stuck := by
  unfold mCons
  rw [s_bind]
  cases mfrz m en with
  | ok a e =>
    dsimp only
    rw [s_bind]
    cases r e with
    | ok b e => rfl
    | exc _ _ => rfl
    | stuck => rfl
  | exc _ _ => rfl
  | stuck => rfl
@[simp] theorem s_ret (m : M SV) : mRet m en = match m en with
  | .ok sv e => .ok (.rt sv) e
  | .exc x e => .exc x e
  | .stuck => .stuck := by
  unfold mRet
  rw [s_bind]
  cases m en with
  | ok a e => rfl
  | exc _ _ => rfl
  | stuck => rfl
@[simp] theorem s_nx : mNx en = .ok .nx en := rfl
@[simp] theorem s_seq (m n : M Ct) : mSeq m n en = match m en with
  | .ok .nx e => n e
  | .ok (.rt sv) e => .ok (.rt sv) e
  | .ok .bk e => .ok .bk e
  | .ok .ct e => .ok .ct e
  | .exc x e => .exc x e
  | .stuck => .stuck := by
  unfold mSeq mbind
  cases h : m en with
  | ok b e => cases b <;> rfl
  | exc x e => rfl
  | stuck => rfl
@[simp] theorem s_set (i : Nat) (m : M SV) : mSet i m en = match m en with
  | .ok (.d d) e => .ok .nx (e.set i (some (.d d)))
  | .ok (.own o) e => .ok .nx (e.set i (some (.own o)))
  | .ok (.bor _) _ => .stuck
  | .exc x e => .exc x e
  | .stuck => .stuck := by
  unfold mSet mbind
  cases h : m en with
  | ok b e => cases b <;> rfl
  | exc x e => rfl
  | stuck => rfl
@[simp] theorem s_callD (f : List D → M SV) (mas : M (List SV)) : mCallD f mas en = match mas en with
  | .ok svs e => (match looks e svs with
    | some ds => f ds e
    | none => .stuck)
  | .exc x e => .exc x e
  | .stuck => .stuck := by
  unfold mCallD
  rw [s_bind]
  cases mas en with
  | ok a e => first | rfl | (dsimp only; cases looks e a <;> rfl)
  | exc _ _ => rfl
  | stuck => rfl
@[simp] theorem s_call (F : Fm) (mas : M (List SV)) : mCall F mas en = match mas en with
  | .ok svs e => (match looksA e svs with
    | some ds => (match F ds with
      | .ok (.d d) _ => if flat d then .ok (.d d) e else .ok (.d d) (frzAll e)
      | .ok (.own o) _ => if flatO o then .ok (.own o) e else .ok (.own o) (frzAll e)
      | .ok (.bor _) _ => .stuck
      | .exc x _ => .exc x (frzAll e)
      | .stuck => .stuck)
    | none => .stuck)
  | .exc x e => .exc x e
  | .stuck => .stuck := by
  unfold mCall
  rw [s_bind]
  cases mas en with
  | ok a e => first | rfl | (dsimp only; cases looksA e a <;> first | rfl | (rename_i ds; dsimp only; cases F ds <;> first | rfl | (rename_i sv _; cases sv <;> rfl)))
  | exc _ _ => rfl
  | stuck => rfl
@[simp] theorem s_isi (T : TyN) (m : M SV) : mIsi T m en = match mfrz m en with
  | .ok sv e => (match look e sv with
    | some x => bvD (isiD T x) e
    | none => .stuck)
  | .exc x e => .exc x e
  | .stuck => .stuck := by
  unfold mIsi
  rw [s_op1]
@[simp] theorem s_bv (o : Option Bool) : bvD o en = match o with
  | some b => .ok (.d (.bool b)) en
  | none => .stuck := rfl
@[simp] theorem s_iv (o : Option D) : ivD o en = match o with
  | some d => .ok (.d d) en
  | none => .stuck := rfl
@[simp] theorem s_d1 (f : D → M SV) (x : D) : d1 f [x] = f x := rfl
@[simp] theorem s_dIs_b (a b : Bool) : dIs (.bool a) (.bool b) = mpure (.d (.bool (decide (a = b)))) := rfl
@[simp] theorem s_dNis_b (a b : Bool) : dNis (.bool a) (.bool b) = mpure (.d (.bool (!decide (a = b)))) := rfl
@[simp] theorem s_dLe_i (a b : Int) : dLe (.int a) (.int b) = mpure (.d (.bool (decide (a ≤ b)))) := rfl
@[simp] theorem s_dLt_i (a b : Int) : dLt (.int a) (.int b) = mpure (.d (.bool (decide (a < b)))) := rfl
@[simp] theorem s_dGt_i (a b : Int) : dGt (.int a) (.int b) = mpure (.d (.bool (decide (b < a)))) := rfl
@[simp] theorem s_dAdd_i (a b : Int) : dAdd (.int a) (.int b) = mpure (.d (.int (a + b))) := rfl
@[simp] theorem s_dInt_i (a : Int) : dInt (.int a) = mpure (.d (.int a)) := rfl
@[simp] theorem s_dInt_b (a : Bool) : dInt (.bool a) = mpure (.d (.int (if a then 1 else 0))) := rfl
@[simp] theorem s_dIx (x y : D) : dIx x y en = match ixD x y with
  | some d => .ok (.d d) en
  | none => .stuck := rfl
@[simp] theorem s_ix_t (ds : List D) (i : Int) : ixD (.tuple ds) (.int i) = atI ds i := rfl
@[simp] theorem s_ix_l (ds : List D) (i : Int) : ixD (.list ds) (.int i) = atI ds i := rfl
@[simp] theorem s_dEq (x y : D) : dEq x y en = match eqD x y with
  | some b => .ok (.d (.bool b)) en
  | none => .stuck := rfl
@[simp] theorem s_dNe (x y : D) : dNe x y en = match eqD x y with
  | some b => .ok (.d (.bool !b)) en
  | none => .stuck := by
  unfold dNe bvD
  cases eqD x y <;> rfl
@[simp] theorem s_eq_i (a b : Int) : eqD (.int a) (.int b) = some (decide (a = b)) := rfl
@[simp] theorem s_eq_s (a b : Str) : eqD (.str a) (.str b) = some (decide (a = b)) := rfl
@[simp] theorem s_eq_b (a b : Bool) : eqD (.bool a) (.bool b) = some (decide (a = b)) := rfl
@[simp] theorem s_len_t (ds : List D) : dLen (.tuple ds) = mpure (.d (.int ds.length)) := rfl
@[simp] theorem s_len_l (ds : List D) : dLen (.list ds) = mpure (.d (.int ds.length)) := rfl
@[simp] theorem s_len_scr (ns : List Int) : dLen (scrD ns) = mpure (.d (.int ns.length)) := by
  have h : (ns.map PyData.int).length = ns.length := List.length_map _
  show (fun en => Rs.ok (SV.d (.int ((ns.map PyData.int).length : Nat))) en) = _
  rw [h]
  rfl
@[simp] theorem s_chain (f g : D → D → M SV) (ma mb mc : M SV) : mChain f g ma mb mc en = match mfrz ma en with
  | .ok a e => (match mfrz mb e with
    | .ok b e => (match look e a, look e b with
      | some x, some y => (match f x y e with
        | .ok (.d (.bool true)) e => mOp1 (fun z => g y z) mc e
        | .ok (.d (.bool false)) e => .ok (.d (.bool false)) e
        | .exc x e => .exc x e
        | _ => .stuck)
      | _, _ => .stuck)
    | .exc x e => .exc x e
    | .stuck => .stuck)
  | .exc x e => .exc x e
  | .stuck => .stuck := by
  unfold mChain
  rw [s_bind]
  cases mfrz ma en with
  | ok a e =>
    dsimp only
    rw [s_bind]
    cases mfrz mb e with
    | ok b e =>
      dsimp only
      cases look e a with
      | none => rfl
      | some x =>
        cases look e b with
        | none => rfl
        | some y =>
          dsimp only
          rw [s_bind]
          cases f x y e with
          | ok r e =>
            cases r with
            | d d => cases d with
              | bool b => cases b <;> rfl
              | _ => rfl
            | own _ => rfl
            | bor _ => rfl
          | exc _ _ => rfl
          | stuck => rfl
    | exc _ _ => rfl
    | stuck => rfl
  | exc _ _ => rfl
  | stuck => rfl
theorem run_ok {n N : Nat} {body : M Ct} {ds : List D} {d : D} {e : En} (hl : ds.length = n) (h : body (ds.map (fun d => some (SV.d d)) ++ List.replicate (N - n) none) = .ok (.rt (.d d)) e) : runF n N body ds = .ok (.d d) [] := by
  unfold runF
  rw [if_pos hl, h]
theorem run_own {n N : Nat} {body : M Ct} {ds : List D} {o : OB} {e : En} (hl : ds.length = n) (h : body (ds.map (fun d => some (SV.d d)) ++ List.replicate (N - n) none) = .ok (.rt (.own o)) e) : runF n N body ds = .ok (.own o) [] := by
  unfold runF
  rw [if_pos hl, h]
theorem run_bor {n N : Nat} {body : M Ct} {ds : List D} {i : Nat} {o : OB} {e : En} (hl : ds.length = n) (h : body (ds.map (fun d => some (SV.d d)) ++ List.replicate (N - n) none) = .ok (.rt (.bor i)) e) (ho : e[i]? = some (some (.own o))) : runF n N body ds = .ok (.own o) [] := by
  unfold runF
  rw [if_pos hl, h]
  simp only [ho]
theorem run_exc {n N : Nat} {body : M Ct} {ds : List D} {x : Xc} {e : En} (hl : ds.length = n) (h : body (ds.map (fun d => some (SV.d d)) ++ List.replicate (N - n) none) = .exc x e) : runF n N body ds = .exc x [] := by
  unfold runF
  rw [if_pos hl, h]
end L2

namespace L2
open PySem PySem.Spec PyProof.Rows
/-! ### comprehensions and loops as maps and folds -/
theorem compGo_map {tg : Tg} {me : M SV} {en0 : En} {g : D → D} : ∀ (ds acc : List D), (∀ d ∈ ds, ∃ en1, setTg tg d en0 = some en1 ∧ mkeep me en1 = .ok (.d (g d)) en1) → acc.length + ds.length ≤ sizeLine → compGo tg mYes me en0 ds acc = some (acc ++ ds.map g)
  | [], acc, _, _ => by simp [compGo]
  | d :: r, acc, h, l => by
    obtain ⟨en1, h1, h2⟩ := h d List.mem_cons_self
    have l2 : acc.length < sizeLine := by simp at l; omega
    unfold compGo
    simp only [h1]
    have e : mYes en1 = .ok true en1 := rfl
    simp only [e, if_true, h2, true_and, l2]
    rw [compGo_map r _ (fun x m => h x (List.mem_cons_of_mem _ m)) (by simp at l ⊢; omega)]
    simp
theorem compGo_filter {tg : Tg} {mc : M Bool} {me : M SV} {en0 : En} {p : D → Bool} {g : D → D} : ∀ (ds acc : List D), (∀ d ∈ ds, ∃ en1, setTg tg d en0 = some en1 ∧ mc en1 = .ok (p d) en1 ∧ (p d = true → mkeep me en1 = .ok (.d (g d)) en1)) → acc.length + ds.length ≤ sizeLine → compGo tg mc me en0 ds acc = some (acc ++ (ds.filter p).map g)
  | [], acc, _, _ => by simp [compGo]
  | d :: r, acc, h, l => by
    obtain ⟨en1, h1, h2, h3⟩ := h d List.mem_cons_self
    have l2 : acc.length < sizeLine := by simp at l; omega
    unfold compGo
    simp only [h1]
    cases e : p d with
    | false =>
      simp only [h2, e, if_true]
      rw [compGo_filter r _ (fun x m => h x (List.mem_cons_of_mem _ m)) (by simp at l ⊢; omega)]
      simp [e]
    | true =>
      simp only [h2, e, if_true, h3 e, true_and, l2]
      rw [compGo_filter r _ (fun x m => h x (List.mem_cons_of_mem _ m)) (by simp at l ⊢; omega)]
      simp [e]
variable {en : En}
theorem comp_ok {tg : Tg} {vs : List Nat} {mc : M Bool} {me : M SV} {ds r : List D} (h : noOwn en vs = true) (e : compGo tg mc me (wipeEn en vs) ds [] = some r) : mComp tg vs mc me ds en = .ok (.own (.lst r)) en := by
  unfold mComp
  rw [if_pos h, e]
@[simp] theorem s_lc (tg : Tg) (vs : List Nat) (mi : M SV) (mc : M Bool) (me : M SV) : mLc tg vs mi mc me en = match mfrz mi en with
  | .ok (.d (.list ds)) e => mComp tg vs mc me ds e
  | .ok (.d (.tuple ds)) e => mComp tg vs mc me ds e
  | .ok (.d (.str z)) e => mComp tg vs mc me (signs z) e
  | .ok (.bor i) e => (match e[i]? with
    | some (some (.own (.lst ds))) => if vs.contains i then .stuck else mComp tg vs mc me ds e
    | _ => .stuck)
  | .exc x e => .exc x e
  | _ => .stuck := by
  unfold mLc
  rw [s_bind]
  cases mfrz mi en with
  | ok sv e => cases sv with
    | d d => cases d <;> rfl
    | bor _ => rfl
    | own _ => rfl
  | exc _ _ => rfl
  | stuck => rfl
@[simp] theorem s_tup (r : M (List SV)) : mTup r en = match r en with
  | .ok svs e => (match looks e svs with
    | some ds => if ds.length ≤ sizeLine ∧ (svs.all fun s => match s with | .d _ => true | _ => false) = true then .ok (.d (.tuple ds)) e else .stuck
    | none => .stuck)
  | .exc x e => .exc x e
  | .stuck => .stuck := by
  unfold mTup
  rw [s_bind]
  cases r en with
  | ok a e => first | rfl | (dsimp only; cases looks e a <;> rfl)
  | exc _ _ => rfl
  | stuck => rfl
@[simp] theorem s_lst (r : M (List SV)) : mLst r en = match r en with
  | .ok svs e => (match looks e svs with
    | some ds => if ds.length ≤ sizeLine ∧ (svs.all fun s => match s with | .d _ => true | _ => false) = true then .ok (.own (.lst ds)) e else .stuck
    | none => .stuck)
  | .exc x e => .exc x e
  | .stuck => .stuck := by
  unfold mLst
  rw [s_bind]
  cases r en with
  | ok a e => first | rfl | (dsimp only; cases looks e a <;> rfl)
  | exc _ _ => rfl
  | stuck => rfl
@[simp] theorem s_sortSet (m : M SV) : mSortSet m en = match mfrz m en with
  | .ok sv e => (match look e sv with
    | some d => (match ssD d with
      | some xs => .ok (.own (.lst (xs.map .str))) e
      | none => .stuck)
    | none => .stuck)
  | .exc x e => .exc x e
  | .stuck => .stuck := by
  unfold mSortSet
  rw [s_bind]
  cases mfrz m en with
  | ok a e => first | rfl | (dsimp only; cases look e a <;> first | rfl | (rename_i d; dsimp only; cases ssD d <;> rfl))
  | exc _ _ => rfl
  | stuck => rfl
theorem sizeLine_ge : 1000000 ≤ sizeLine := by
  rw [sizeLine_eq]
  omega
@[simp] theorem dAll_bools (bs : List Bool) : dAll (.list (bs.map .bool)) = mpure (.d (.bool (bs.all id))) := by
  have h : ∀ bs : List Bool, bools (bs.map .bool) = some bs := fun bs => by
    induction bs with
    | nil => rfl
    | cons b r ih => simp only [List.map_cons, bools, ih, Option.map_some]
  show bvD ((bools (bs.map .bool)).map fun bs => bs.all id) = _
  rw [h]
  rfl
theorem forGo_fold {γ : Type} {tg : Tg} {body : M Ct} {c : Option (Nat × List D)} (st : γ → En) (step : γ → D → γ) (hc : ∀ s, chkOk c (st s) = true) : ∀ (ds : List D) (s : γ), (∀ s, ∀ d ∈ ds, ∃ en1, setTg tg d (st s) = some en1 ∧ (body en1 = .ok .nx (st (step s d)) ∨ body en1 = .ok .ct (st (step s d)))) → forGo tg c body ds (st s) = .ok .nx (st (ds.foldl step s))
  | [], s, _ => by unfold forGo; rw [if_pos (hc s)]; rfl
  | d :: r, s, h => by
    obtain ⟨en1, h1, h2⟩ := h s d List.mem_cons_self
    unfold forGo
    rw [if_pos (hc s), h1]
    dsimp only
    rcases h2 with h2 | h2
    all_goals
      rw [h2]
      exact forGo_fold st step hc r (step s d) fun s x m => h s x (List.mem_cons_of_mem _ m)
end L2

namespace L2
open PySem PySem.Spec PyProof.Rows
/-! ### lists of texts compared -/
theorem strs_lay : ∀ xs : List Str, (∀ x ∈ xs, PyData.strOk x = true) → PyData.canLayAll0 (xs.map .str) = true
  | [], _ => by simp [PyData.canLayAll0]
  | x :: r, h => by simp [PyData.canLayAll0, PyData.canLay0, strs_lay r fun y m => h y (List.mem_cons_of_mem _ m), h x List.mem_cons_self]
theorem strs_depth : ∀ xs : List Str, PyData.depthAll (xs.map .str) = 0
  | [] => by simp [PyData.depthAll]
  | x :: r => by simp [PyData.depthAll, PyData.depth, strs_depth r]
theorem strs_plain : ∀ xs : List Str, plains (xs.map .str) = true
  | [] => rfl
  | x :: r => by simp [plains, plain, strs_plain r]
theorem strs_eqv : ∀ xs ys : List Str, PyData.eqvAll (xs.map .str) (ys.map .str) = decide (xs = ys)
  | [], [] => by simp [PyData.eqvAll]
  | [], _ :: _ => by simp [PyData.eqvAll]
  | _ :: _, [] => by simp [PyData.eqvAll]
  | x :: r, y :: s => by
    simp only [List.map_cons, PyData.eqvAll, PyData.eqv, strs_eqv r s]
    by_cases h : x = y <;> by_cases g : r = s <;> simp [h, g]
theorem eq_strs (xs ys : List Str) (hx : ∀ x ∈ xs, PyData.strOk x = true) (hy : ∀ x ∈ ys, PyData.strOk x = true) : eqD (.list (xs.map .str)) (.list (ys.map .str)) = some (decide (xs = ys)) := by
  have e1 : scalD (.list (xs.map .str)) (.list (ys.map .str)) = none := rfl
  have s : ∀ zs : List Str, (∀ x ∈ zs, PyData.strOk x = true) → SeqAt.shaped (.list (zs.map .str)) = true := fun zs h => by
    simp [SeqAt.shaped, PyData.canLay0, strs_lay zs h, PyData.depth, strs_depth]
  unfold eqD
  rw [e1]
  have c : plain (.list (xs.map .str)) = true ∧ plain (.list (ys.map .str)) = true ∧ SeqAt.shaped (.list (xs.map .str)) = true ∧ SeqAt.shaped (.list (ys.map .str)) = true := ⟨by simp [plain, strs_plain], by simp [plain, strs_plain], s _ hx, s _ hy⟩
  simp only [c, and_self, if_true]
  congr 1
  rw [show PyData.eqv (.list (xs.map .str)) (.list (ys.map .str)) = PyData.eqvAll (xs.map .str) (ys.map .str) by simp [PyData.eqv]]
  exact strs_eqv xs ys
theorem strsOf_map : ∀ xs : List Str, strsOf (xs.map .str) = some xs
  | [] => rfl
  | x :: r => by
    show (strsOf (r.map .str)).map (x :: ·) = _
    rw [strsOf_map r]
    rfl
theorem ssD_strs {xs : List Str} (h : xs.length < 64) : ssD (.list (xs.map .str)) = some (sortSet xs) := by
  show (match strsOf (xs.map .str) with
    | some xs => if xs.length < 64 then some (sortSet xs) else none
    | none => none) = _
  rw [strsOf_map]
  simp only [h, if_true]
/-! ### words -/
abbrev Ws := List (Str × Int)
def pD (p : Str × Int) : D := .tuple [.str p.1, .int p.2]
def wsD (ws : Ws) : D := .tuple (ws.map pD)
theorem flat_pD (p : Str × Int) : flat (pD p) = true := rfl
theorem flats_ws : ∀ ws : Ws, flats (ws.map pD) = true
  | [] => rfl
  | p :: r => by
    show (flat (pD p) && flats (r.map pD)) = true
    rw [flats_ws r]
    rfl
theorem flat_wsD (ws : Ws) : flat (wsD ws) = true := flats_ws ws
end L2

namespace L2
open PySem PySem.Spec PyProof.Rows
/-! ### sorted names -/
def ltS (a b : Str) : Prop := leS a b = true ∧ a ≠ b
theorem sortSet_pw (xs : List Str) : (sortSet xs).Pairwise fun a b => leS a b = true := sortStrs_pw _
theorem sortSet_nodup (xs : List Str) : (sortSet xs).Nodup := (sortStrs_perm _).nodup_iff.mpr (nodup_dedup _ xs (Nat.le_refl _))
theorem mem_sortSet {xs : List Str} {x : Str} : x ∈ sortSet xs ↔ x ∈ xs := (sortStrs_perm _).mem_iff.trans List.mem_eraseDups
theorem sortSet_eq {xs : List Str} (h1 : xs.Pairwise fun a b => leS a b = true) (h2 : xs.Nodup) : xs = sortSet xs := sortSet_uniq h2 (fun _ => Iff.rfl) h1
/-! ### dicts of words -/
def tabOf (ws : Ws) : List (Key × D) := ws.map fun p => (.inr p.1, .int p.2)
theorem putD_new {kds : List (Key × D)} {k : Key} {d : D} (h : ∀ p ∈ kds, p.1 ≠ k) : putD kds k d = kds ++ [(k, d)] := by
  unfold putD
  rw [if_neg]
  intro c
  obtain ⟨p, mp, e⟩ := List.any_eq_true.mp c
  exact h p mp (of_decide_eq_true e)
theorem dcGo_ws {mk mv : M SV} {en0 : En} {tg : Tg} (h : ∀ p : Str × Int, ∃ en1, setTg tg (pD p) en0 = some en1 ∧ mkeep mk en1 = .ok (.d (.str p.1)) en1 ∧ mkeep mv en1 = .ok (.d (.int p.2)) en1) :
    ∀ (ws : Ws) (pre : Ws), ((pre ++ ws).map (·.1)).Nodup → pre.length + ws.length ≤ sizeLine → dcGo tg mYes mk mv en0 (ws.map pD) (tabOf pre) = some (tabOf (pre ++ ws))
  | [], pre, _, _ => by simp [dcGo]
  | p :: r, pre, nd, hl => by
    obtain ⟨en1, h1, h2, h3⟩ := h p
    have e : mYes en1 = .ok true en1 := rfl
    have hlen : (tabOf pre).length < sizeLine := by
      unfold tabOf
      rw [List.length_map]
      simp at hl
      omega
    have hk : ∀ q ∈ tabOf pre, q.1 ≠ (Sum.inr p.1 : Key) := fun q mq c => by
      unfold tabOf at mq
      obtain ⟨w, mw, rfl⟩ := List.mem_map.mp mq
      have c2 : w.1 = p.1 := by injection c
      rw [List.map_append, List.map_cons, List.nodup_append] at nd
      exact nd.2.2 w.1 (List.mem_map.mpr ⟨w, mw, rfl⟩) p.1 List.mem_cons_self c2
    have et : putD (tabOf pre) (.inr p.1) (.int p.2) = tabOf (pre ++ [p]) := by
      rw [putD_new hk]
      unfold tabOf
      rw [List.map_append]
      rfl
    rw [List.map_cons]
    unfold dcGo
    simp only [h1, e, if_true, h2, h3, keyD, true_and, hlen, et]
    rw [dcGo_ws h r (pre ++ [p]) (by simpa using nd) (by simp at hl ⊢; omega)]
    simp
@[simp] theorem s_dc {en : En} (tg : Tg) (vs : List Nat) (mi : M SV) (mc : M Bool) (mk mv : M SV) : mDc tg vs mi mc mk mv en = match mfrz mi en with
  | .ok (.d (.list ds)) e => mDcGo tg vs mc mk mv ds e
  | .ok (.d (.tuple ds)) e => mDcGo tg vs mc mk mv ds e
  | .ok (.d (.str z)) e => mDcGo tg vs mc mk mv (L2.signs z) e
  | .ok (.bor i) e => (match e[i]? with
    | some (some (.own (.lst ds))) => if vs.contains i then .stuck else mDcGo tg vs mc mk mv ds e
    | _ => .stuck)
  | .exc x e => .exc x e
  | _ => .stuck := by
  unfold mDc
  rw [s_bind]
  cases mfrz mi en with
  | ok sv e => cases sv with
    | d d => cases d <;> rfl
    | bor _ => rfl
    | own _ => rfl
  | exc _ _ => rfl
  | stuck => rfl
theorem dc_ok {en : En} {tg : Tg} {vs : List Nat} {mc : M Bool} {mk mv : M SV} {ds : List D} {r : List (Key × D)} (h : noOwn en vs = true) (e : dcGo tg mc mk mv (wipeEn en vs) ds [] = some r) : mDcGo tg vs mc mk mv ds en = .ok (.own (.dct r)) en := by
  unfold mDcGo
  rw [if_pos h, e]
def valW (ws : Ws) (x : Str) : Int := match ws.find? fun p => decide (p.1 = x) with
  | some p => p.2
  | none => 0
theorem valD_tab (ws : Ws) (x : Str) : (valD (tabOf ws) (.inr x)).getD (.int 0) = .int (valW ws x) := by
  unfold valD tabOf valW
  rw [List.find?_map]
  have e : ((fun kv : Key × D => decide (kv.1 = (Sum.inr x : Key))) ∘ fun p : Str × Int => ((Sum.inr p.1 : Key), PyData.int p.2)) = fun p => decide (p.1 = x) := by
    funext p
    simp
  rw [e]
  cases ws.find? fun p => decide (p.1 = x) <;> rfl
@[simp] theorem s_raise {en : En} (cls : Str) (nms : List Str) (mas : M (List SV)) : mRaise cls nms mas en = match mas en with
  | .ok svs e => (match dataOf svs with
    | some ds => .exc ⟨cls, (nms.zip ds).reverse⟩ e
    | none => .stuck)
  | .exc x e => .exc x e
  | .stuck => .stuck := by
  unfold mRaise
  rw [s_bind]
  cases mas en with
  | ok a e => first | rfl | (dsimp only; cases dataOf a <;> rfl)
  | exc _ _ => rfl
  | stuck => rfl
@[simp] theorem s_data_nil : dataOf [] = some [] := rfl
@[simp] theorem s_data_d (d : D) (r : List SV) : dataOf (.d d :: r) = match dataOf r with
  | some ds => some (d :: ds)
  | none => none := rfl
@[simp] theorem s_get2_own {en e1 e2 : En} {mo mk mx : M SV} {kds : List (Key × D)} {x : Str} {z : D} (h1 : mo en = .ok (.own (.dct kds)) e1) (h2 : mk e1 = .ok (.d (.str x)) e2) (h3 : mx e2 = .ok (.d z) e2) : mGet2 mo mk mx en = .ok (.d ((valD kds (.inr x)).getD z)) e2 := by
  unfold mGet2
  rw [s_bind, h1]
  dsimp only
  rw [s_bind, s_frz, h2]
  dsimp only
  rw [s_bind, s_keep, h3]
  rfl
theorem ix_dct (kds : List (D × D)) (k : Str) : ixD (.dict kds) (.str k) = lookD (.str k) kds := by
  unfold ixD
  split
  · rename_i heq _; exact PyData.noConfusion heq
  · rename_i heq _; exact PyData.noConfusion heq
  · rename_i heq _; exact PyData.noConfusion heq
  · rename_i h1 h2; exact PyData.noConfusion h2
  · rename_i heq _
    cases heq
    rfl
  · rename_i h _ _ _ _
    exact (h kds rfl).elim
end L2

namespace L2
open PySem PySem.Spec PyProof.Rows
variable {en : En}
@[simp] theorem s_sub (a b : Int) : dSub (.int a) (.int b) = mpure (.d (.int (a - b))) := rfl
@[simp] theorem s_mod (a b : Int) : dMod (.int a) (.int b) en = if 0 < b then .ok (.d (.int (a % b))) en else .stuck := by
  show ivD (if 0 < b then some (.int (a % b)) else none) en = _
  split <;> rfl
@[simp] theorem s_div (a b : Int) : dDiv (.int a) (.int b) en = if 0 < b ∧ b < 2 ^ 64 then .ok (.d (.int (a / b))) en else .stuck := by
  show ivD (if 0 < b ∧ b < 2 ^ 64 then some (.int (a / b)) else none) en = _
  split <;> rfl
@[simp] theorem s_mul (a b : Int) : dMulL (.int a) (.int b) en = if (-(2 ^ 64) < a ∧ a < 2 ^ 64) ∨ (-(2 ^ 64) < b ∧ b < 2 ^ 64) then .ok (.d (.int (a * b))) en else .stuck := by
  show ivD (if (-(2 ^ 64) < a ∧ a < 2 ^ 64) ∨ (-(2 ^ 64) < b ∧ b < 2 ^ 64) then some (.int (a * b)) else none) en = _
  split <;> rfl
@[simp] theorem s_pow (a b : Int) : dPow (.int a) (.int b) en = if (0 ≤ b ∧ b ≤ 1000000) ∧ a.natAbs < 2 ^ 64 then .ok (.d (.int (a ^ b.toNat))) en else .stuck := by
  show ivD (if (0 ≤ b ∧ b ≤ 1000000) ∧ a.natAbs < 2 ^ 64 then some (.int (a ^ b.toNat)) else none) en = _
  split <;> rfl
@[simp] theorem s_max2 (a b : Int) : dMax2 [.int a, .int b] = mpure (.d (.int (if b > a then b else a))) := rfl
@[simp] theorem s_min2 (a b : Int) : dMin2 [.int a, .int b] = mpure (.d (.int (if b < a then b else a))) := rfl
@[simp] theorem s_mut (i : Nat) (f : List D → D → Option (List D)) (me : M SV) : mMut i f me en = match en[i]? with
  | some (some (.own (.lst _))) => (match mkeep me en with
    | .ok (.d d) e => (match e[i]? with
      | some (some (.own (.lst ds))) => (match f ds d with
        | some es => .ok .nx (e.set i (some (.own (.lst es))))
        | none => .stuck)
      | _ => .stuck)
    | .exc x e => .exc x e
    | _ => .stuck)
  | _ => .stuck := by
  unfold mMut
  cases en[i]? with
  | none => rfl
  | some o =>
    cases o with
    | none => rfl
    | some s =>
      cases s with
      | d _ => rfl
      | bor _ => rfl
      | own o =>
        cases o with
        | dct _ => rfl
        | lst ds0 =>
          dsimp only
          rw [s_bind]
          cases mkeep me en with
          | exc _ _ => rfl
          | stuck => rfl
          | ok sv e =>
            cases sv with
            | own _ => rfl
            | bor _ => rfl
            | d d =>
              dsimp only
              cases e[i]? with
              | none => rfl
              | some o => cases o with
                | none => rfl
                | some s => cases s with
                  | d _ => rfl
                  | bor _ => rfl
                  | own o => cases o with
                    | lst ds => first | rfl | (dsimp only; cases f ds d <;> rfl)
                    | dct _ => rfl
@[simp] theorem s_append (i : Nat) (me : M SV) : mAppend i me = mMut i fAppend me := rfl
@[simp] theorem s_fapp (ds : List D) (d : D) : fAppend ds d = if ds.length < sizeLine then some (ds ++ [d]) else none := rfl
@[simp] theorem s_tg (i : Nat) (d : D) : setTg (.nm i) d en = some (en.set i (some (.d d))) := rfl
@[simp] theorem s_forR1 (tg : Tg) (mas : M (List SV)) (body : M Ct) : mForR1 tg mas body en = match mas en with
  | .ok svs e => (match looks e svs with
    | some [.int j] => if -(2 ^ 62) ≤ j ∧ j < 2 ^ 62 then forGo tg none body (rngD 0 j.toNat) e else .stuck
    | _ => .stuck)
  | .exc x e => .exc x e
  | .stuck => .stuck := by
  unfold mForR1
  rw [s_bind]
  cases mas en with
  | ok a e => rfl
  | exc _ _ => rfl
  | stuck => rfl
theorem forGo_inv {tg : Tg} {c : Option (Nat × List D)} {body : M Ct} (P : Nat → En → Prop) {ds0 : List D} (hc : ∀ i e, P i e → chkOk c e = true)
    (step : ∀ i d e, ds0[i]? = some d → P i e → ∃ e1 e2, setTg tg d e = some e1 ∧ (body e1 = .ok .nx e2 ∨ body e1 = .ok .ct e2) ∧ P (i + 1) e2) :
    ∀ (ds : List D) (i : Nat), ds = ds0.drop i → ∀ e, P i e → ∃ e', forGo tg c body ds e = .ok .nx e' ∧ P (i + ds.length) e'
  | [], i, _, e, h => ⟨e, by unfold forGo; rw [if_pos (hc i e h)], h⟩
  | d :: r, i, hd, e, h => by
    have hi : ds0[i]? = some d := by
      have := congrArg List.head? hd
      simpa [List.head?_drop] using this.symm
    obtain ⟨e1, e2, h1, h2, h3⟩ := step i d e hi h
    have hr : r = ds0.drop (i + 1) := by
      have := congrArg List.tail hd
      simpa [List.tail_drop] using this
    obtain ⟨e', q1, q2⟩ := forGo_inv P hc step r (i + 1) hr e2 h3
    refine ⟨e', ?_, by rw [List.length_cons, show i + (r.length + 1) = i + 1 + r.length by omega]; exact q2⟩
    unfold forGo
    rw [if_pos (hc i e h), h1]
    dsimp only
    rcases h2 with h2 | h2 <;> (rw [h2]; exact q1)
theorem for_inv {tg : Tg} {body : M Ct} (P : Nat → En → Prop) {ds : List D} (step : ∀ i d e, ds[i]? = some d → P i e → ∃ e1 e2, setTg tg d e = some e1 ∧ (body e1 = .ok .nx e2 ∨ body e1 = .ok .ct e2) ∧ P (i + 1) e2) {e : En} (h : P 0 e) :
    ∃ e', forGo tg none body ds e = .ok .nx e' ∧ P ds.length e' := by
  have := forGo_inv P (c := none) (fun _ _ _ => rfl) step ds 0 rfl e h
  simpa using this
theorem rng_get {lo : Int} {n i : Nat} {d : D} (h : (rngD lo n)[i]? = some d) : i < n ∧ d = .int (lo + (i : Nat)) := by
  unfold rngD at h
  rw [List.getElem?_map] at h
  cases q : (List.range n)[i]? with
  | none => rw [q] at h; cases h
  | some k =>
    rw [q] at h
    cases h
    have hk := List.getElem?_eq_some_iff.mp q
    obtain ⟨h1, h2⟩ := hk
    rw [List.getElem_range] at h2
    subst h2
    exact ⟨by simpa using h1, rfl⟩
theorem atI_at {ds : List D} {i : Int} {d : D} (h0 : 0 ≤ i) (h : ds[i.toNat]? = some d) : atI ds i = some d := by
  have := atI_nat h
  rwa [Int.toNat_of_nonneg h0] at this
theorem ix_scr (ns : List Int) (i : Int) : ixD (scrD ns) (.int i) = atI (ns.map .int) i := rfl
theorem forR1_run {tg : Tg} {mas : M (List SV)} {body : M Ct} {e : En} {j : Int} (h : mas en = .ok [.d (.int j)] e) (h0 : 0 ≤ j) (h1 : j ≤ 1000000) : mForR1 tg mas body en = forGo tg none body (rngD 0 j.toNat) e := by
  rw [s_forR1, h]
  show (if -(2 ^ 62) ≤ j ∧ j < 2 ^ 62 then forGo tg none body (rngD 0 j.toNat) e else .stuck) = _
  rw [if_pos ⟨by omega, by omega⟩]
end L2

namespace K03
open PySem PySem.Spec PyProof.Rows L2
/-! ### the text -/
def top (i : Nat) : Stmt := PySem.Challenge.pw_forkspan_k03_words_and_operations.main.body.getD i (.Pass ⟨0, 0, 0, 0⟩)
abbrev s_is_integer : Stmt := top 3
abbrev N_is_integer : List Str := ["value"]
theorem sc_is_integer : FnScope N_is_integer ["value"] (defScope s_is_integer) := ⟨rfl, rfl, rfl, by decide +kernel, rfl, by decide +kernel, by decide +kernel⟩
abbrev s_is_word : Stmt := top 4
abbrev N_is_word : List Str := ["value", "sign"]
theorem sc_is_word : FnScope N_is_word ["value"] (defScope s_is_word) := ⟨rfl, rfl, rfl, by decide +kernel, rfl, by decide +kernel, by decide +kernel⟩
abbrev s_is_name : Stmt := top 5
abbrev N_is_name : List Str := ["value"]
theorem sc_is_name : FnScope N_is_name ["value"] (defScope s_is_name) := ⟨rfl, rfl, rfl, by decide +kernel, rfl, by decide +kernel, by decide +kernel⟩
abbrev s_is_value : Stmt := top 11
abbrev N_is_value : List Str := ["value"]
theorem sc_is_value : FnScope N_is_value ["value"] (defScope s_is_value) := ⟨rfl, rfl, rfl, by decide +kernel, rfl, by decide +kernel, by decide +kernel⟩
abbrev s_is_entry : Stmt := top 12
abbrev N_is_entry : List Str := ["value"]
theorem sc_is_entry : FnScope N_is_entry ["value"] (defScope s_is_entry) := ⟨rfl, rfl, rfl, by decide +kernel, rfl, by decide +kernel, by decide +kernel⟩
abbrev s_is_words : Stmt := top 13
abbrev N_is_words : List Str := ["value", "names", "entry"]
theorem sc_is_words : FnScope N_is_words ["value"] (defScope s_is_words) := ⟨rfl, rfl, rfl, by decide +kernel, rfl, by decide +kernel, by decide +kernel⟩
abbrev s_table_of : Stmt := top 14
abbrev N_table_of : List Str := ["words", "name", "value"]
theorem sc_table_of : FnScope N_table_of ["words"] (defScope s_table_of) := ⟨rfl, rfl, rfl, by decide +kernel, rfl, by decide +kernel, by decide +kernel⟩
abbrev s_words_from : Stmt := top 15
abbrev N_words_from : List Str := ["table", "name"]
theorem sc_words_from : FnScope N_words_from ["table"] (defScope s_words_from) := ⟨rfl, rfl, rfl, by decide +kernel, rfl, by decide +kernel, by decide +kernel⟩
abbrev s_word_in : Stmt := top 16
abbrev N_word_in : List Str := ["words", "name"]
theorem sc_word_in : FnScope N_word_in ["words", "name"] (defScope s_word_in) := ⟨rfl, rfl, rfl, by decide +kernel, rfl, by decide +kernel, by decide +kernel⟩
abbrev s_words_with : Stmt := top 17
abbrev N_words_with : List Str := ["words", "name", "value", "table"]
theorem sc_words_with : FnScope N_words_with ["words", "name", "value"] (defScope s_words_with) := ⟨rfl, rfl, rfl, by decide +kernel, rfl, by decide +kernel, by decide +kernel⟩
abbrev s_operated : Stmt := top 18
abbrev N_operated : List Str := ["op", "a", "b"]
theorem sc_operated : FnScope N_operated ["op", "a", "b"] (defScope s_operated) := ⟨rfl, rfl, rfl, by decide +kernel, rfl, by decide +kernel, by decide +kernel⟩
abbrev s__law_draws : Stmt := top 20
abbrev N__law_draws : List Str := ["script", "k", "bounds", "cell", "rest", "drawn", "j", "mixed"]
theorem sc__law_draws : FnScope N__law_draws ["script", "k", "bounds"] (defScope s__law_draws) := ⟨rfl, rfl, rfl, by decide +kernel, rfl, by decide +kernel, by decide +kernel⟩
abbrev s__law_equal : Stmt := top 21
abbrev N__law_equal : List Str := ["actual", "expected", "k"]
theorem sc__law_equal : FnScope N__law_equal ["actual", "expected"] (defScope s__law_equal) := ⟨rfl, rfl, rfl, by decide +kernel, rfl, by decide +kernel, by decide +kernel⟩
abbrev s__law_pool : Stmt := top 22
abbrev N__law_pool : List Str := ["script", "k", "size", "drawn", "length", "step", "pool", "j", "number", "word", "place"]
theorem sc__law_pool : FnScope N__law_pool ["script", "k", "size"] (defScope s__law_pool) := ⟨rfl, rfl, rfl, by decide +kernel, rfl, by decide +kernel, by decide +kernel⟩
abbrev s__law_words : Stmt := top 23
abbrev N__law_words : List Str := ["script", "k", "pool", "drawn", "words", "j", "value", "at", "pair"]
theorem sc__law_words : FnScope N__law_words ["script", "k", "pool"] (defScope s__law_words) := ⟨rfl, rfl, rfl, by decide +kernel, rfl, by decide +kernel, by decide +kernel⟩
abbrev s__law_operated : Stmt := top 24
abbrev N__law_operated : List Str := ["op", "a", "b"]
theorem sc__law_operated : FnScope N__law_operated ["op", "a", "b"] (defScope s__law_operated) := ⟨rfl, rfl, rfl, by decide +kernel, rfl, by decide +kernel, by decide +kernel⟩
abbrev s__law_big : Stmt := top 25
abbrev N__law_big : List Str := ["script", "k", "drawn"]
theorem sc__law_big : FnScope N__law_big ["script", "k"] (defScope s__law_big) := ⟨rfl, rfl, rfl, by decide +kernel, rfl, by decide +kernel, by decide +kernel⟩
abbrev s__law_with : Stmt := top 26
abbrev N__law_with : List Str := ["words", "name", "value", "row", "put", "pair"]
theorem sc__law_with : FnScope N__law_with ["words", "name", "value"] (defScope s__law_with) := ⟨rfl, rfl, rfl, by decide +kernel, rfl, by decide +kernel, by decide +kernel⟩
abbrev s__law_no_words : Stmt := top 27
abbrev N__law_no_words : List Str := ["script", "k", "words", "name", "drawn", "at", "pair", "old"]
theorem sc__law_no_words : FnScope N__law_no_words ["script", "k", "words", "name"] (defScope s__law_no_words) := ⟨rfl, rfl, rfl, by decide +kernel, rfl, by decide +kernel, by decide +kernel⟩
abbrev s__law_is_refused : Stmt := top 28
abbrev N__law_is_refused : List Str := ["words", "name", "which", "words_error"]
theorem sc__law_is_refused : FnScope N__law_is_refused ["words", "name"] (defScope s__law_is_refused) := ⟨rfl, rfl, rfl, by decide +kernel, rfl, by decide +kernel, by decide +kernel⟩
abbrev s_law : Stmt := top 29
abbrev N_law : List Str := ["script", "pool", "words", "drawn", "name", "value", "other", "due", "pair", "new", "changed", "a", "b", "op", "bad"]
theorem sc_law : FnScope N_law ["script"] (defScope s_law) := ⟨rfl, rfl, rfl, by decide +kernel, rfl, by decide +kernel, by decide +kernel⟩
abbrev s_InvalidWords_init : Stmt := inClass (top 8) 0
theorem sc_InvalidWords_init : FnScope ["self", "value"] ["self", "value"] (defScope s_InvalidWords_init) := ⟨rfl, rfl, rfl, by decide +kernel, rfl, by decide +kernel, by decide +kernel⟩
/-! ### what the top has written -/
structure Top (K : Kf) (mg : Str → Option Value) where
  f_is_integer : Addr
  fd_is_integer : FuncData
  F_is_integer : Fun K "is_integer" "is_integer" s_is_integer f_is_integer fd_is_integer
  g_is_integer : mg "is_integer" = some (.ref f_is_integer)
  b_is_integer : Binds K fd_is_integer ["value"] []
  kb_is_integer : KwB K fd_is_integer ["value"]
  f_is_word : Addr
  fd_is_word : FuncData
  F_is_word : Fun K "is_word" "is_word" s_is_word f_is_word fd_is_word
  g_is_word : mg "is_word" = some (.ref f_is_word)
  b_is_word : Binds K fd_is_word ["value"] []
  kb_is_word : KwB K fd_is_word ["value"]
  f_is_name : Addr
  fd_is_name : FuncData
  F_is_name : Fun K "is_name" "is_name" s_is_name f_is_name fd_is_name
  g_is_name : mg "is_name" = some (.ref f_is_name)
  b_is_name : Binds K fd_is_name ["value"] []
  kb_is_name : KwB K fd_is_name ["value"]
  f_is_value : Addr
  fd_is_value : FuncData
  F_is_value : Fun K "is_value" "is_value" s_is_value f_is_value fd_is_value
  g_is_value : mg "is_value" = some (.ref f_is_value)
  b_is_value : Binds K fd_is_value ["value"] []
  kb_is_value : KwB K fd_is_value ["value"]
  f_is_entry : Addr
  fd_is_entry : FuncData
  F_is_entry : Fun K "is_entry" "is_entry" s_is_entry f_is_entry fd_is_entry
  g_is_entry : mg "is_entry" = some (.ref f_is_entry)
  b_is_entry : Binds K fd_is_entry ["value"] []
  kb_is_entry : KwB K fd_is_entry ["value"]
  f_is_words : Addr
  fd_is_words : FuncData
  F_is_words : Fun K "is_words" "is_words" s_is_words f_is_words fd_is_words
  g_is_words : mg "is_words" = some (.ref f_is_words)
  b_is_words : Binds K fd_is_words ["value"] []
  kb_is_words : KwB K fd_is_words ["value"]
  f_table_of : Addr
  fd_table_of : FuncData
  F_table_of : Fun K "table_of" "table_of" s_table_of f_table_of fd_table_of
  g_table_of : mg "table_of" = some (.ref f_table_of)
  b_table_of : Binds K fd_table_of ["words"] []
  kb_table_of : KwB K fd_table_of ["words"]
  f_words_from : Addr
  fd_words_from : FuncData
  F_words_from : Fun K "words_from" "words_from" s_words_from f_words_from fd_words_from
  g_words_from : mg "words_from" = some (.ref f_words_from)
  b_words_from : Binds K fd_words_from ["table"] []
  kb_words_from : KwB K fd_words_from ["table"]
  f_word_in : Addr
  fd_word_in : FuncData
  F_word_in : Fun K "word_in" "word_in" s_word_in f_word_in fd_word_in
  g_word_in : mg "word_in" = some (.ref f_word_in)
  b_word_in : Binds K fd_word_in ["words", "name"] []
  kb_word_in : KwB K fd_word_in ["words", "name"]
  f_words_with : Addr
  fd_words_with : FuncData
  F_words_with : Fun K "words_with" "words_with" s_words_with f_words_with fd_words_with
  g_words_with : mg "words_with" = some (.ref f_words_with)
  b_words_with : Binds K fd_words_with ["words", "name", "value"] []
  kb_words_with : KwB K fd_words_with ["words", "name", "value"]
  f_operated : Addr
  fd_operated : FuncData
  F_operated : Fun K "operated" "operated" s_operated f_operated fd_operated
  g_operated : mg "operated" = some (.ref f_operated)
  b_operated : Binds K fd_operated ["op", "a", "b"] []
  kb_operated : KwB K fd_operated ["op", "a", "b"]
  f__law_draws : Addr
  fd__law_draws : FuncData
  F__law_draws : Fun K "_law_draws" "_law_draws" s__law_draws f__law_draws fd__law_draws
  g__law_draws : mg "_law_draws" = some (.ref f__law_draws)
  b__law_draws : Binds K fd__law_draws ["script", "k", "bounds"] []
  kb__law_draws : KwB K fd__law_draws ["script", "k", "bounds"]
  f__law_equal : Addr
  fd__law_equal : FuncData
  F__law_equal : Fun K "_law_equal" "_law_equal" s__law_equal f__law_equal fd__law_equal
  g__law_equal : mg "_law_equal" = some (.ref f__law_equal)
  b__law_equal : Binds K fd__law_equal ["actual", "expected"] []
  kb__law_equal : KwB K fd__law_equal ["actual", "expected"]
  f__law_pool : Addr
  fd__law_pool : FuncData
  F__law_pool : Fun K "_law_pool" "_law_pool" s__law_pool f__law_pool fd__law_pool
  g__law_pool : mg "_law_pool" = some (.ref f__law_pool)
  b__law_pool : Binds K fd__law_pool ["script", "k", "size"] []
  kb__law_pool : KwB K fd__law_pool ["script", "k", "size"]
  f__law_words : Addr
  fd__law_words : FuncData
  F__law_words : Fun K "_law_words" "_law_words" s__law_words f__law_words fd__law_words
  g__law_words : mg "_law_words" = some (.ref f__law_words)
  b__law_words : Binds K fd__law_words ["script", "k", "pool"] []
  kb__law_words : KwB K fd__law_words ["script", "k", "pool"]
  f__law_operated : Addr
  fd__law_operated : FuncData
  F__law_operated : Fun K "_law_operated" "_law_operated" s__law_operated f__law_operated fd__law_operated
  g__law_operated : mg "_law_operated" = some (.ref f__law_operated)
  b__law_operated : Binds K fd__law_operated ["op", "a", "b"] []
  kb__law_operated : KwB K fd__law_operated ["op", "a", "b"]
  f__law_big : Addr
  fd__law_big : FuncData
  F__law_big : Fun K "_law_big" "_law_big" s__law_big f__law_big fd__law_big
  g__law_big : mg "_law_big" = some (.ref f__law_big)
  b__law_big : Binds K fd__law_big ["script", "k"] []
  kb__law_big : KwB K fd__law_big ["script", "k"]
  f__law_with : Addr
  fd__law_with : FuncData
  F__law_with : Fun K "_law_with" "_law_with" s__law_with f__law_with fd__law_with
  g__law_with : mg "_law_with" = some (.ref f__law_with)
  b__law_with : Binds K fd__law_with ["words", "name", "value"] []
  kb__law_with : KwB K fd__law_with ["words", "name", "value"]
  f__law_no_words : Addr
  fd__law_no_words : FuncData
  F__law_no_words : Fun K "_law_no_words" "_law_no_words" s__law_no_words f__law_no_words fd__law_no_words
  g__law_no_words : mg "_law_no_words" = some (.ref f__law_no_words)
  b__law_no_words : Binds K fd__law_no_words ["script", "k", "words", "name"] []
  kb__law_no_words : KwB K fd__law_no_words ["script", "k", "words", "name"]
  f__law_is_refused : Addr
  fd__law_is_refused : FuncData
  F__law_is_refused : Fun K "_law_is_refused" "_law_is_refused" s__law_is_refused f__law_is_refused fd__law_is_refused
  g__law_is_refused : mg "_law_is_refused" = some (.ref f__law_is_refused)
  b__law_is_refused : Binds K fd__law_is_refused ["words", "name"] []
  kb__law_is_refused : KwB K fd__law_is_refused ["words", "name"]
  f_law : Addr
  fd_law : FuncData
  F_law : Fun K "law" "law" s_law f_law fd_law
  g_law : mg "law" = some (.ref f_law)
  b_law : Binds K fd_law ["script"] []
  kb_law : KwB K fd_law ["script"]
  n_all : mg "all" = none
  n_bool : mg "bool" = none
  n_int : mg "int" = none
  n_isinstance : mg "isinstance" = none
  n_len : mg "len" = none
  n_list : mg "list" = none
  n_max : mg "max" = none
  n_min : mg "min" = none
  n_range : mg "range" = none
  n_set : mg "set" = none
  n_sorted : mg "sorted" = none
  n_str : mg "str" = none
  n_tuple : mg "tuple" = none
  t_LONGEST_WORD : Tok
  c_LONGEST_WORD : mg "LONGEST_WORD" = some (.int 8 t_LONGEST_WORD)
  a_NO_NAMES : Addr
  c_NO_NAMES : mg "NO_NAMES" = some (.ref a_NO_NAMES)
  d_NO_NAMES : ∀ H : Hp, Dq K H (.ref a_NO_NAMES) (.tuple [(.str "if"), (.str "fork"), (.str "each"), (.str "fold"), (.str "start"), (.str "await"), (.str "max"), (.str "min")])
  t_PRIME : Tok
  c_PRIME : mg "PRIME" = some (.int 1000003 t_PRIME)
  C_InvalidWords : Addr
  fI_InvalidWords : Addr
  fdI_InvalidWords : FuncData
  g_InvalidWords : mg "InvalidWords" = some (.ref C_InvalidWords)
  O_InvalidWords : OexC K C_InvalidWords
  X_InvalidWords : XfC K C_InvalidWords
  iC_InvalidWords : W.findIn K (.ref C_InvalidWords) "__init__" = some (some (.ref fI_InvalidWords))
  tI_InvalidWords : W.typeIn K (.ref fI_InvalidWords) = some (.type "function")
  FI_InvalidWords : Fun K "__init__" "InvalidWords.__init__" s_InvalidWords_init fI_InvalidWords fdI_InvalidWords
  bI_InvalidWords : Binds K fdI_InvalidWords ["self", "value"] []
  em_InvalidWords : W.exmOne K (.ref C_InvalidWords) (.ref C_InvalidWords) = some true
  no_InvalidWords_value : W.findIn K (.ref C_InvalidWords) "value" = some none
/-! ### the mirror -/
noncomputable def m_is_integer : M Ct := mRet (mBV (mAndT (mB (mIsi .tInt (mVar 0))) (mB (mBV (mNotT (mB (mIsi .tBool (mVar 0))))))))
noncomputable def F_is_integer : Fm := runF 1 1 m_is_integer
noncomputable def m_is_word : M Ct := mSeq (mIfS (mOrT (mNotT (mB (mIsi .tStr (mVar 0)))) (mNotT (mB (mChain dLe dLe (mC (.int 1)) (mCallD (d1 dLen) (mCons (mVar 0) (mNil))) (mC (.int 8)))))) (mRet (mC (.bool false))) (mNx)) (mRet (mCallD (d1 dAll) (mCons (mLc (.nm 1) [1] (mVar 0) (mYes) (mChain dLe dLe (mC (.str "a")) (mVar 1) (mC (.str "z")))) (mNil))))
noncomputable def F_is_word : Fm := runF 1 2 m_is_word
noncomputable def m_is_name : M Ct := mRet (mBV (mAndT (mB (mCall F_is_word (mCons (mVar 0) (mNil)))) (mB (mOp2 dNin (mVar 0) (mC (.tuple [(.str "if"), (.str "fork"), (.str "each"), (.str "fold"), (.str "start"), (.str "await"), (.str "max"), (.str "min")]))))))
noncomputable def F_is_name : Fm := runF 1 1 m_is_name
noncomputable def m_is_value : M Ct := mRet (mBV (mAndT (mB (mCall F_is_integer (mCons (mVar 0) (mNil)))) (mB (mChain dLe dLt (mC (.int 0)) (mVar 0) (mC (.int 1000003))))))
noncomputable def F_is_value : Fm := runF 1 1 m_is_value
noncomputable def m_is_entry : M Ct := mSeq (mIfS (mOrT (mNotT (mB (mIsi .tTuple (mVar 0)))) (mB (mOp2 dNe (mCallD (d1 dLen) (mCons (mVar 0) (mNil))) (mC (.int 2))))) (mRet (mC (.bool false))) (mNx)) (mRet (mBV (mAndT (mB (mCall F_is_name (mCons (mOp2 dIx (mVar 0) (mC (.int 0))) (mNil)))) (mAndT (mB (mCall F_is_value (mCons (mOp2 dIx (mVar 0) (mC (.int 1))) (mNil)))) (mB (mOp2 dGt (mOp2 dIx (mVar 0) (mC (.int 1))) (mC (.int 0))))))))
noncomputable def F_is_entry : Fm := runF 1 1 m_is_entry
noncomputable def m_is_words : M Ct := mSeq (mIfS (mNotT (mB (mIsi .tTuple (mVar 0)))) (mRet (mC (.bool false))) (mNx)) (mSeq (mIfS (mNotT (mB (mCallD (d1 dAll) (mCons (mLc (.nm 2) [2] (mVar 0) (mYes) (mCall F_is_entry (mCons (mVar 2) (mNil)))) (mNil))))) (mRet (mC (.bool false))) (mNx)) (mSeq (mSet 1 (mLc (.nm 2) [2] (mVar 0) (mYes) (mOp2 dIx (mVar 2) (mC (.int 0))))) (mRet (mOp2 dEq (mVar 1) (mSortSet (mVar 1))))))
noncomputable def F_is_words : Fm := runF 1 3 m_is_words
noncomputable def m_table_of : M Ct := mSeq (mIfS (mNotT (mB (mCall F_is_words (mCons (mVar 0) (mNil))))) (mRaise "InvalidWords" ["value"] (mCons (mVar 0) (mNil))) (mNx)) (mRet (mDc (.tp [1, 2]) [1, 2] (mVar 0) (mYes) (mVar 1) (mVar 2)))
noncomputable def F_table_of : Fm := runF 1 3 m_table_of
noncomputable def m_words_from : M Ct := mRet (mCallD (d1 dTuple) (mCons (mLc (.nm 1) [1] (mCallD (d1 dSorted) (mCons (mVar 0) (mNil))) (mB (mOp2 dGt (mOp2 dIx (mVar 0) (mVar 1)) (mC (.int 0)))) (mTup (mCons (mVar 1) (mCons (mOp2 dIx (mVar 0) (mVar 1)) (mNil))))) (mNil)))
noncomputable def F_words_from : Fm := runF 1 2 m_words_from
noncomputable def m_word_in : M Ct := mRet (mGet2 (mCall F_table_of (mCons (mVar 0) (mNil))) (mVar 1) (mC (.int 0)))
noncomputable def F_word_in : Fm := runF 2 2 m_word_in
noncomputable def m_words_with : M Ct := mSeq (mSet 3 (mCall F_table_of (mCons (mVar 0) (mNil)))) (mSeq (mDPut 3 (mVar 1) (mVar 2)) (mRet (mCall F_words_from (mCons (mVar 3) (mNil)))))
noncomputable def F_words_with : Fm := runF 3 4 m_words_with
noncomputable def m_operated : M Ct := mSeq (mIfS (mB (mOp2 dEq (mVar 0) (mC (.str "+")))) (mRet (mOp2 dMod (mOp2 dAdd (mVar 1) (mVar 2)) (mC (.int 1000003)))) (mNx)) (mSeq (mIfS (mB (mOp2 dEq (mVar 0) (mC (.str "-")))) (mRet (mOp2 dMod (mOp2 dSub (mVar 1) (mVar 2)) (mC (.int 1000003)))) (mNx)) (mSeq (mIfS (mB (mOp2 dEq (mVar 0) (mC (.str "*")))) (mRet (mOp2 dMod (mOp2 dMulL (mVar 1) (mVar 2)) (mC (.int 1000003)))) (mNx)) (mSeq (mIfS (mB (mOp2 dEq (mVar 0) (mC (.str "max")))) (mRet (mCallD dMax2 (mCons (mVar 1) (mCons (mVar 2) (mNil))))) (mNx)) (mSeq (mIfS (mB (mOp2 dEq (mVar 0) (mC (.str "min")))) (mRet (mCallD dMin2 (mCons (mVar 1) (mCons (mVar 2) (mNil))))) (mNx)) (mSeq (mIfS (mB (mOp2 dEq (mVar 0) (mC (.str "<")))) (mRet (mCallD (d1 dInt) (mCons (mOp2 dLt (mVar 1) (mVar 2)) (mNil)))) (mNx)) (mRet (mCallD (d1 dInt) (mCons (mOp2 dEq (mVar 1) (mVar 2)) (mNil)))))))))
noncomputable def F_operated : Fm := runF 3 3 m_operated
noncomputable def m__law_draws : M Ct := mSeq (mSet 3 (mC (.int 0))) (mSeq (mSet 4 (mC (.int 0))) (mSeq (mIfS (mB (mOp2 dLt (mVar 1) (mCallD (d1 dLen) (mCons (mVar 0) (mNil))))) (mSeq (mSet 3 (mCallD (d1 dInt) (mCons (mOp2 dIx (mVar 0) (mVar 1)) (mNil)))) (mSet 4 (mCallD dMax2 (mCons (mC (.int 0)) (mCons (mOp2 dSub (mVar 3) (mOp2 dPow (mC (.int 10)) (mC (.int 18)))) (mNil)))))) (mIfS (mB (mOp2 dGt (mCallD (d1 dLen) (mCons (mVar 0) (mNil))) (mC (.int 0)))) (mSet 3 (mCallD (d1 dInt) (mCons (mOp2 dIx (mVar 0) (mOp2 dMod (mCallD (d1 dInt) (mCons (mVar 1) (mNil))) (mCallD (d1 dLen) (mCons (mVar 0) (mNil))))) (mNil)))) (mNx))) (mSeq (mSet 5 (mLst (mNil))) (mSeq (mForR1 (.nm 6) (mCons (mCallD (d1 dLen) (mCons (mVar 2) (mNil))) (mNil)) (mIfS (mB (mOp2 dGt (mVar 4) (mC (.int 0)))) (mSeq (mAppend 5 (mOp2 dMod (mCallD (d1 dInt) (mCons (mVar 4) (mNil))) (mOp2 dIx (mVar 2) (mVar 6)))) (mSet 4 (mOp2 dDiv (mVar 4) (mOp2 dIx (mVar 2) (mVar 6))))) (mSeq (mSet 7 (mOp2 dMod (mCallD (d1 dInt) (mCons (mOp2 dAdd (mOp2 dAdd (mOp2 dAdd (mOp2 dMulL (mVar 3) (mC (.int 48271))) (mOp2 dMulL (mVar 1) (mC (.int 69621)))) (mOp2 dMulL (mVar 6) (mC (.int 40692)))) (mC (.int 12345))) (mNil))) (mC (.int 2147483647)))) (mSeq (mSet 7 (mOp2 dMod (mCallD (d1 dInt) (mCons (mOp2 dAdd (mOp2 dAdd (mOp2 dMulL (mVar 7) (mVar 7)) (mOp2 dMulL (mVar 6) (mC (.int 16807)))) (mC (.int 271))) (mNil))) (mC (.int 2147483563)))) (mSeq (mSet 7 (mOp2 dMod (mCallD (d1 dInt) (mCons (mOp2 dAdd (mOp2 dAdd (mOp2 dMulL (mVar 7) (mVar 7)) (mOp2 dMulL (mVar 7) (mC (.int 39373)))) (mC (.int 7))) (mNil))) (mC (.int 2147483399)))) (mAppend 5 (mOp2 dMod (mOp2 dDiv (mVar 7) (mC (.int 16))) (mOp2 dIx (mVar 2) (mVar 6))))))))) (mRet (mVar 5))))))
noncomputable def F__law_draws : Fm := runF 3 8 m__law_draws
noncomputable def m__law_equal (rec : Fm) : M Ct := mSeq (mIfS (mB (mOp2 dIs (mVar 1) (mC .none))) (mRet (mOp2 dIs (mVar 0) (mC .none))) (mNx)) (mSeq (mIfS (mB (mIsi .tBool (mVar 1))) (mRet (mBV (mAndT (mB (mIsi .tBool (mVar 0))) (mB (mOp2 dEq (mVar 0) (mVar 1)))))) (mNx)) (mSeq (mIfS (mB (mIsi .tInt (mVar 1))) (mRet (mBV (mAndT (mB (mIsi .tInt (mVar 0))) (mAndT (mB (mBV (mNotT (mB (mIsi .tBool (mVar 0)))))) (mB (mOp2 dEq (mVar 0) (mVar 1))))))) (mNx)) (mSeq (mIfS (mB (mIsi .tStr (mVar 1))) (mRet (mBV (mAndT (mB (mIsi .tStr (mVar 0))) (mB (mOp2 dEq (mVar 0) (mVar 1)))))) (mNx)) (mSeq (mIfS (mOrT (mNotT (mB (mIsi .tTuple (mVar 0)))) (mB (mOp2 dNe (mCallD (d1 dLen) (mCons (mVar 0) (mNil))) (mCallD (d1 dLen) (mCons (mVar 1) (mNil)))))) (mRet (mC (.bool false))) (mNx)) (mSeq (mForR1 (.nm 2) (mCons (mCallD (d1 dLen) (mCons (mVar 1) (mNil))) (mNil)) (mIfS (mNotT (mB (mCall rec (mCons (mOp2 dIx (mVar 0) (mVar 2)) (mCons (mOp2 dIx (mVar 1) (mVar 2)) (mNil)))))) (mRet (mC (.bool false))) (mNx))) (mRet (mC (.bool true))))))))
noncomputable def F__law_equal : Nat → Fm
  | 0 => fun _ => .stuck
  | n + 1 => runF 2 3 (m__law_equal (F__law_equal n))
noncomputable def m__law_pool : M Ct := mSeq (mSet 3 (mCall F__law_draws (mCons (mVar 0) (mCons (mVar 1) (mCons (mLst (mCons (mC (.int 7)) (mCons (mOp2 dPow (mC (.int 26)) (mC (.int 8))) (mCons (mC (.int 9)) (mNil))))) (mNil)))))) (mSeq (mSet 4 (mOp2 dAdd (mC (.int 1)) (mOp2 dIx (mVar 3) (mC (.int 0))))) (mSeq (mSet 5 (mOp2 dAdd (mC (.int 1)) (mOp2 dMulL (mOp2 dIx (mVar 3) (mC (.int 2))) (mCallD (d1 dInt) (mCons (mOp2 dGt (mVar 4) (mC (.int 1))) (mNil)))))) (mSeq (mSet 6 (mLst (mNil))) (mSeq (mForR1 (.nm 7) (mCons (mVar 2) (mNil)) (mSeq (mSet 8 (mOp2 dAdd (mOp2 dIx (mVar 3) (mC (.int 1))) (mOp2 dMulL (mOp2 dDiv (mVar 7) (mC (.int 2))) (mVar 5)))) (mSeq (mSet 9 (mC (.str ""))) (mSeq (mForR1 (.nm 10) (mCons (mVar 4) (mNil)) (mSeq (mSet 9 (mOp2 dAdd (mVar 9) (mOp2 dIx (mC (.str "abcdefghijklmnopqrstuvwxyz")) (mOp2 dMod (mCallD (d1 dInt) (mCons (mVar 8) (mNil))) (mC (.int 26)))))) (mSet 8 (mOp2 dDiv (mVar 8) (mC (.int 26)))))) (mSeq (mIfS (mB (mOp2 dIn (mVar 9) (mLst (mCons (mC (.str "if")) (mCons (mC (.str "fork")) (mCons (mC (.str "each")) (mCons (mC (.str "fold")) (mCons (mC (.str "start")) (mCons (mC (.str "await")) (mCons (mC (.str "max")) (mCons (mC (.str "min")) (mNil)))))))))))) (mSet 9 (mOp2 dAdd (mVar 9) (mC (.str "x")))) (mNx)) (mAppend 6 (mOp2 dAdd (mVar 9) (mOp2 dMulL (mC (.str "z")) (mOp2 dMod (mCallD (d1 dInt) (mCons (mVar 7) (mNil))) (mC (.int 2))))))))))) (mRet (mVar 6))))))
noncomputable def F__law_pool : Fm := runF 3 11 m__law_pool
noncomputable def m__law_words : M Ct := mSeq (mSet 3 (mCall F__law_draws (mCons (mVar 0) (mCons (mVar 1) (mCons (mOp2 dMulL (mLst (mCons (mC (.int 3)) (mCons (mC (.int 1000002)) (mNil)))) (mC (.int 5))) (mNil)))))) (mSeq (mSet 4 (mLst (mNil))) (mSeq (mForR1 (.nm 5) (mCons (mCallD (d1 dLen) (mCons (mVar 2) (mNil))) (mNil)) (mSeq (mSet 6 (mOp2 dIx (mLst (mCons (mC (.int 0)) (mCons (mOp2 dMod (mCallD (d1 dInt) (mCons (mOp2 dIx (mVar 3) (mOp2 dAdd (mOp2 dMulL (mC (.int 2)) (mVar 5)) (mC (.int 1)))) (mNil))) (mC (.int 9))) (mCons (mOp2 dAdd (mC (.int 1)) (mOp2 dIx (mVar 3) (mOp2 dAdd (mOp2 dMulL (mC (.int 2)) (mVar 5)) (mC (.int 1))))) (mNil))))) (mOp2 dIx (mVar 3) (mOp2 dMulL (mC (.int 2)) (mVar 5))))) (mSeq (mSet 7 (mC (.int 0))) (mSeq (mFor (.nm 8) [7] (mVar 4) (mIfS (mB (mOp2 dLt (mOp2 dIx (mVar 8) (mC (.int 0))) (mOp2 dIx (mVar 2) (mVar 5)))) (mSet 7 (mOp2 dAdd (mVar 7) (mC (.int 1)))) (mNx))) (mIfS (mB (mOp2 dGt (mVar 6) (mC (.int 0)))) (mInsert 4 (mVar 7) (mTup (mCons (mOp2 dIx (mVar 2) (mVar 5)) (mCons (mVar 6) (mNil))))) (mNx)))))) (mRet (mCallD (d1 dTuple) (mCons (mVar 4) (mNil))))))
noncomputable def F__law_words : Fm := runF 3 9 m__law_words
noncomputable def m__law_operated : M Ct := mSeq (mIfS (mB (mOp2 dEq (mVar 0) (mC (.str "+")))) (mRet (mOp2 dMod (mCallD (d1 dInt) (mCons (mOp2 dAdd (mVar 1) (mVar 2)) (mNil))) (mC (.int 1000003)))) (mNx)) (mSeq (mIfS (mB (mOp2 dEq (mVar 0) (mC (.str "-")))) (mRet (mOp2 dMod (mCallD (d1 dInt) (mCons (mOp2 dSub (mVar 1) (mVar 2)) (mNil))) (mC (.int 1000003)))) (mNx)) (mSeq (mIfS (mB (mOp2 dEq (mVar 0) (mC (.str "*")))) (mRet (mOp2 dMod (mCallD (d1 dInt) (mCons (mOp2 dMulL (mVar 1) (mVar 2)) (mNil))) (mC (.int 1000003)))) (mNx)) (mSeq (mIfS (mOrT (mB (mOp2 dEq (mVar 0) (mC (.str "max")))) (mB (mOp2 dEq (mVar 0) (mC (.str "min"))))) (mRet (mOp2 dIx (mLst (mCons (mVar 1) (mCons (mVar 2) (mNil)))) (mCallD (d1 dInt) (mCons (mOp2 dEq (mOp2 dLt (mVar 1) (mVar 2)) (mOp2 dEq (mVar 0) (mC (.str "max")))) (mNil))))) (mNx)) (mSeq (mIfS (mB (mOp2 dEq (mVar 0) (mC (.str "<")))) (mRet (mCallD (d1 dInt) (mCons (mOp2 dLt (mVar 1) (mVar 2)) (mNil)))) (mNx)) (mRet (mCallD (d1 dInt) (mCons (mOp2 dEq (mVar 1) (mVar 2)) (mNil))))))))
noncomputable def F__law_operated : Fm := runF 3 3 m__law_operated
noncomputable def m__law_big : M Ct := mSeq (mSet 2 (mCall F__law_draws (mCons (mVar 0) (mCons (mVar 1) (mCons (mLst (mCons (mC (.int 6)) (mCons (mC (.int 1000003)) (mNil)))) (mNil)))))) (mRet (mOp2 dIx (mLst (mCons (mC (.int 0)) (mCons (mC (.int 1)) (mCons (mC (.int 1000002)) (mCons (mOp2 dMod (mCallD (d1 dInt) (mCons (mOp2 dIx (mVar 2) (mC (.int 1))) (mNil))) (mC (.int 10))) (mCons (mOp2 dIx (mVar 2) (mC (.int 1))) (mCons (mOp2 dIx (mVar 2) (mC (.int 1))) (mNil)))))))) (mOp2 dIx (mVar 2) (mC (.int 0)))))
noncomputable def F__law_big : Fm := runF 2 3 m__law_big
noncomputable def m__law_with : M Ct := mSeq (mSet 3 (mLst (mNil))) (mSeq (mSet 4 (mOp2 dEq (mVar 2) (mC (.int 0)))) (mSeq (mFor (.nm 5) [4] (mVar 0) (mSeq (mIfS (mAndT (mNotT (mTru (mVar 4))) (mB (mOp2 dLt (mVar 1) (mOp2 dIx (mVar 5) (mC (.int 0)))))) (mSeq (mAppend 3 (mTup (mCons (mVar 1) (mCons (mVar 2) (mNil))))) (mSet 4 (mC (.bool true)))) (mNx)) (mIfS (mB (mOp2 dNe (mOp2 dIx (mVar 5) (mC (.int 0))) (mVar 1))) (mAppend 3 (mVar 5)) (mIfS (mB (mOp2 dGt (mVar 2) (mC (.int 0)))) (mSeq (mAppend 3 (mTup (mCons (mVar 1) (mCons (mVar 2) (mNil))))) (mSet 4 (mC (.bool true)))) (mNx))))) (mSeq (mIfS (mNotT (mTru (mVar 4))) (mAppend 3 (mTup (mCons (mVar 1) (mCons (mVar 2) (mNil))))) (mNx)) (mRet (mCallD (d1 dTuple) (mCons (mVar 3) (mNil)))))))
noncomputable def F__law_with : Fm := runF 3 6 m__law_with
noncomputable def m__law_no_words : M Ct := mSeq (mSet 4 (mCall F__law_draws (mCons (mVar 0) (mCons (mVar 1) (mCons (mLst (mCons (mC (.int 16)) (mCons (mC (.int 5)) (mCons (mC (.int 1000)) (mNil))))) (mNil)))))) (mSeq (mSet 5 (mOp2 dMod (mCallD (d1 dInt) (mCons (mOp2 dIx (mVar 4) (mC (.int 1))) (mNil))) (mOp2 dAdd (mC (.int 1)) (mCallD (d1 dLen) (mCons (mVar 2) (mNil)))))) (mSeq (mIfS (mB (mOp2 dLt (mOp2 dIx (mVar 4) (mC (.int 0))) (mC (.int 5)))) (mSeq (mSet 6 (mOp2 dIx (mLst (mCons (mTup (mCons (mVar 3) (mCons (mC (.int 0)) (mNil)))) (mCons (mTup (mCons (mVar 3) (mCons (mOp2 dAdd (mC (.int 1000003)) (mOp2 dIx (mVar 4) (mC (.int 2)))) (mNil)))) (mCons (mTup (mCons (mVar 3) (mCons (mC (.bool true)) (mNil)))) (mCons (mTup (mCons (mVar 3) (mCons (mOp2 dSub (mOp1 dNeg (mC (.int 1))) (mOp2 dIx (mVar 4) (mC (.int 2)))) (mNil)))) (mCons (mTup (mCons (mVar 3) (mCons (mC (.int 1)) (mCons (mC (.int 1)) (mNil))))) (mNil))))))) (mOp2 dIx (mVar 4) (mC (.int 0))))) (mRet (mOp2 dAdd (mCallD (d1 dTuple) (mCons (mLc (.nm 7) [7] (mVar 2) (mB (mOp2 dNe (mOp2 dIx (mVar 7) (mC (.int 0))) (mVar 3))) (mVar 7)) (mNil))) (mTup (mCons (mVar 6) (mNil)))))) (mNx)) (mSeq (mIfS (mB (mOp2 dLt (mOp2 dIx (mVar 4) (mC (.int 0))) (mC (.int 10)))) (mSeq (mSet 6 (mOp2 dIx (mLst (mCons (mTup (mCons (mC (.str "A")) (mCons (mC (.int 1)) (mNil)))) (mCons (mTup (mCons (mC (.str "min")) (mCons (mC (.int 1)) (mNil)))) (mCons (mTup (mCons (mC (.str "abcdefghi")) (mCons (mC (.int 1)) (mNil)))) (mCons (mTup (mCons (mC (.str "a1")) (mCons (mC (.int 1)) (mNil)))) (mCons (mTup (mCons (mC (.str "")) (mCons (mC (.int 1)) (mNil)))) (mNil))))))) (mOp2 dSub (mOp2 dIx (mVar 4) (mC (.int 0))) (mC (.int 5))))) (mRet (mOp2 dAdd (mOp2 dAdd (mSl2 (mVar 2) none (some (mVar 5))) (mTup (mCons (mVar 6) (mNil)))) (mSl2 (mVar 2) (some (mVar 5)) none)))) (mNx)) (mSeq (mIfS (mB (mOp2 dLt (mOp2 dIx (mVar 4) (mC (.int 0))) (mC (.int 12)))) (mRet (mIf (mB (mOp2 dEq (mOp2 dIx (mVar 4) (mC (.int 0))) (mC (.int 10)))) (mTup (mCons (mTup (mCons (mC (.str "b")) (mCons (mC (.int 1)) (mNil)))) (mCons (mTup (mCons (mC (.str "a")) (mCons (mOp2 dAdd (mC (.int 1)) (mOp2 dIx (mVar 4) (mC (.int 2)))) (mNil)))) (mNil)))) (mTup (mCons (mTup (mCons (mC (.str "a")) (mCons (mC (.int 1)) (mNil)))) (mCons (mTup (mCons (mC (.str "a")) (mCons (mOp2 dAdd (mC (.int 1)) (mOp2 dIx (mVar 4) (mC (.int 2)))) (mNil)))) (mNil)))))) (mNx)) (mRet (mOp2 dIx (mLst (mCons (mCallD (d1 dList) (mCons (mVar 2) (mNil))) (mCons (mC .none) (mCons (mTup (mCons (mVar 3) (mNil))) (mCons (mTup (mCons (mLst (mCons (mVar 3) (mCons (mC (.int 1)) (mNil)))) (mNil))) (mNil)))))) (mOp2 dSub (mOp2 dIx (mVar 4) (mC (.int 0))) (mC (.int 12)))))))))
noncomputable def F__law_no_words : Fm := runF 4 8 m__law_no_words
noncomputable def m__law_is_refused : M Ct := mSeq (mForR1 (.nm 2) (mCons (mC (.int 2)) (mNil)) (mTry [("InvalidWords", true)] 3 (mSeq (mIfS (mB (mOp2 dEq (mVar 2) (mC (.int 0)))) (mExpr (mCall F_word_in (mCons (mVar 0) (mCons (mVar 1) (mNil))))) (mExpr (mCall F_words_with (mCons (mVar 0) (mCons (mVar 1) (mCons (mC (.int 1)) (mNil))))))) (mRet (mC (.bool false)))) (fun xc => mIfS (mAndT (mB (mIsi .tTuple (mVar 0))) (mAndT (mNotT (mB (mIsi .tList (mOp2 dIx (mVar 0) (mC (.int 0)))))) (mNotT (mB (mCall (F__law_equal 12) (mCons (mXf "InvalidWords" 3 "value" xc) (mCons (mVar 0) (mNil)))))))) (mRet (mC (.bool false))) (mNx)))) (mRet (mC (.bool true)))
noncomputable def F__law_is_refused : Fm := runF 2 4 m__law_is_refused
noncomputable def m_law : M Ct := mSeq (mSet 1 (mCall F__law_pool (mCons (mVar 0) (mCons (mC (.int 0)) (mCons (mC (.int 7)) (mNil)))))) (mSeq (mSet 2 (mCall F__law_words (mCons (mVar 0) (mCons (mC (.int 1)) (mCons (mSl2 (mVar 1) none (some (mC (.int 5)))) (mNil)))))) (mSeq (mIfS (mOrT (mNotT (mB (mCall (F__law_equal 12) (mCons (mC (.int 1000003)) (mCons (mC (.int 1000003)) (mNil)))))) (mOrT (mB (mOp2 dNis (mCall F_is_words (mCons (mVar 2) (mNil))) (mC (.bool true)))) (mB (mOp2 dNis (mCall F_is_words (mCons (mTup (mNil)) (mNil))) (mC (.bool true)))))) (mRet (mC (.bool false))) (mNx)) (mSeq (mSet 3 (mCall F__law_draws (mCons (mVar 0) (mCons (mC (.int 2)) (mCons (mLst (mCons (mC (.int 7)) (mNil))) (mNil)))))) (mSeq (mSet 4 (mOp2 dIx (mVar 1) (mOp2 dIx (mVar 3) (mC (.int 0))))) (mSeq (mSet 5 (mCall F__law_big (mCons (mVar 0) (mCons (mC (.int 3)) (mNil))))) (mSeq (mFor (.nm 6) [7, 8, 9, 10] (mVar 1) (mSeq (mSet 7 (mC (.int 0))) (mSeq (mFor (.nm 8) [7] (mVar 2) (mIfS (mB (mOp2 dEq (mOp2 dIx (mVar 8) (mC (.int 0))) (mVar 6))) (mSet 7 (mOp2 dIx (mVar 8) (mC (.int 1)))) (mNx))) (mSeq (mIfS (mNotT (mB (mCall (F__law_equal 12) (mCons (mCall F_word_in (mCons (mVar 2) (mCons (mVar 6) (mNil)))) (mCons (mVar 7) (mNil)))))) (mRet (mC (.bool false))) (mNx)) (mFor (.nm 9) [10] (mLst (mCons (mVar 5) (mCons (mC (.int 0)) (mNil)))) (mSeq (mSet 10 (mCall F_words_with (mCons (mVar 2) (mCons (mVar 6) (mCons (mVar 9) (mNil)))))) (mIfS (mOrT (mNotT (mB (mCall (F__law_equal 12) (mCons (mVar 10) (mCons (mCall F__law_with (mCons (mVar 2) (mCons (mVar 6) (mCons (mVar 9) (mNil))))) (mNil)))))) (mB (mOp2 dNis (mCall F_is_words (mCons (mVar 10) (mNil))) (mC (.bool true))))) (mRet (mC (.bool false))) (mNx)))))))) (mSeq (mSet 11 (mCall F__law_big (mCons (mVar 0) (mCons (mC (.int 4)) (mNil))))) (mSeq (mSet 12 (mCall F__law_big (mCons (mVar 0) (mCons (mC (.int 5)) (mNil))))) (mSeq (mFor (.nm 13) [8] (mLst (mCons (mC (.str "+")) (mCons (mC (.str "-")) (mCons (mC (.str "*")) (mCons (mC (.str "max")) (mCons (mC (.str "min")) (mCons (mC (.str "<")) (mCons (mC (.str "=")) (mNil))))))))) (mFor (.nm 8) [] (mLst (mCons (mTup (mCons (mVar 11) (mCons (mVar 12) (mNil)))) (mCons (mTup (mCons (mVar 12) (mCons (mVar 11) (mNil)))) (mCons (mTup (mCons (mVar 11) (mCons (mVar 11) (mNil)))) (mNil))))) (mIfS (mNotT (mB (mCall (F__law_equal 12) (mCons (mCall F_operated (mCons (mVar 13) (mCons (mOp2 dIx (mVar 8) (mC (.int 0))) (mCons (mOp2 dIx (mVar 8) (mC (.int 1))) (mNil))))) (mCons (mCall F__law_operated (mCons (mVar 13) (mCons (mOp2 dIx (mVar 8) (mC (.int 0))) (mCons (mOp2 dIx (mVar 8) (mC (.int 1))) (mNil))))) (mNil)))))) (mRet (mC (.bool false))) (mNx)))) (mSeq (mSet 14 (mCall F__law_no_words (mCons (mVar 0) (mCons (mC (.int 6)) (mCons (mVar 2) (mCons (mVar 4) (mNil))))))) (mRet (mBV (mAndT (mB (mOp2 dIs (mCall F_is_words (mCons (mVar 14) (mNil))) (mC (.bool false)))) (mAndT (mB (mOp2 dIs (mCall F_is_words (mCons (mOp2 dAdd (mVar 2) (mTup (mCons (mTup (mCons (mC (.str "z")) (mCons (mC (.int 0)) (mNil)))) (mNil)))) (mNil))) (mC (.bool false)))) (mB (mCall F__law_is_refused (mCons (mVar 14) (mCons (mVar 4) (mNil)))))))))))))))))))
noncomputable def F_law : Fm := runF 1 15 m_law
/-! ### each def keeps it -/
section
variable {P : Program} {w : World} {K : Kf} {mg : Str → Option Value} {base : Heap}
theorem ex_InvalidWords (T : Top K mg) : ∀ (y : Str) (b : Bool), ([("InvalidWords", true)] : List (Str × Bool)).lookup y = some b → ∃ Cy, mg y = some (.ref Cy) ∧ W.exmOne K (.ref Cy) (.ref T.C_InvalidWords) = some b := ex_one T.g_InvalidWords T.em_InvalidWords
theorem ok_init_InvalidWords (T : Top K mg) : FnOk P w K mg base (L2N.CX P w) 1 T.fI_InvalidWords T.fdI_InvalidWords ["self", "value"] (spI T.C_InvalidWords ["value"]) := ok_init1 T.FI_InvalidWords sc_InvalidWords_init rfl rfl T.O_InvalidWords T.no_InvalidWords_value fun cdv A outer s H E => pss_one (ps_ost (pe_var rfl (by first | exact .inl rfl | exact .inr rfl | exact .inr (.inl rfl) | exact .inr (.inr rfl))) (pe_var rfl (by first | exact .inl rfl | exact .inr rfl | exact .inr (.inl rfl) | exact .inr (.inr rfl))))
theorem ok_is_integer (T : Top K mg) : FnOk P w K mg base (L2N.CX P w) 1 T.f_is_integer T.fd_is_integer ["value"] (spF K mg 1 F_is_integer) :=
  fn_mir (N := N_is_integer) (m := m_is_integer) T.F_is_integer sc_is_integer fun cdv A outer s H E B hr => by
    have nd := sc_is_integer.nd
    have hu65 := hr_65 hr
    have hu64 := hr_64 hr
    have hu1 := hr_1 hr
    exact (js_one (js_ret (je_and (je_isi .tInt rfl (je_var rfl 0) (by rfl) (by rfl) T.n_isinstance (by rfl) T.n_int (by decide +kernel)) (je_one (je_not (je_isi .tBool rfl (je_var rfl 0) (by rfl) (by rfl) T.n_isinstance (by rfl) T.n_bool (by decide +kernel)))))))
theorem ok_is_word (T : Top K mg) : FnOk P w K mg base (L2N.CX P w) 1 T.f_is_word T.fd_is_word ["value"] (spF K mg 1 F_is_word) :=
  fn_mir (N := N_is_word) (m := m_is_word) T.F_is_word sc_is_word fun cdv A outer s H E B hr => by
    have nd := sc_is_word.nd
    have hu65 := hr_65 hr
    have hu64 := hr_64 hr
    have hu1 := hr_1 hr
    exact (js_cons (js_if ((jw_or (jt_not (jt_val (je_isi .tStr rfl (je_var rfl 0) (by rfl) (by rfl) T.n_isinstance (by rfl) T.n_str (by decide +kernel)))) (jw_or1 (jt_not (jt_chain op_leA op_leA fit_le fit_le quiet_le flat_le (je_int) (je_callB call_lenA fit_len (by rfl) T.n_len (by decide +kernel) (ja_cons (je_var rfl 0) (ja_nil))) (je_gl (by rfl) T.c_LONGEST_WORD (by exact ⟨_, rfl⟩) (fun _ => .int _)))))).pt) (js_one (js_ret (je_bl))) (js_nil)) (js_one (js_ret (je_callB (cr_all (by rfl)) fit_all (by rfl) T.n_all (by decide +kernel) (ja_cons (je_lc (tg := (.nm 1)) (own := [("sign", 1)]) (by rfl) nd rfl (je_var rfl 0) (blkOk_by (N := N_is_word) (sc := (defScope s_is_word)) (own := [("sign", 1)]) (by decide +kernel)) ⟨fun _ _ _ _ _ => pg_name (i := 1) nd rfl (by first | exact .inl rfl | exact .inr rfl | exact .inr (.inl rfl) | exact .inr (.inr rfl)), fun _ _ _ _ _ _ _ => jts_nil, fun _ _ _ _ _ _ _ => je_chain op_leA op_leA fit_le fit_le quiet_le flat_le (je_str) (je_var rfl 1) (je_str)⟩ (by decide)) (ja_nil))))))
theorem ok_is_name (T : Top K mg) : FnOk P w K mg base (L2N.CX P w) 2 T.f_is_name T.fd_is_name ["value"] (spF K mg 1 F_is_name) :=
  fn_mir (N := N_is_name) (m := m_is_name) T.F_is_name sc_is_name fun cdv A outer s H E B hr => by
    have nd := sc_is_name.nd
    have hu65 := hr_65 hr
    have hu64 := hr_64 hr
    have hu1 := hr_1 hr
    exact (js_one (js_ret (je_and (je_call (ok_is_word T) (hr.mono (by decide)) (L2N.takes_of rfl rfl rfl rfl) (by rfl) T.g_is_word T.F_is_word.kp T.b_is_word (argN_cons argN_nil) (ja_cons (je_var rfl 0) (ja_nil))) (je_one (je_cmp (op_ninA hu65) fit_nin (je_var rfl 0) (je_gl (v := .ref T.a_NO_NAMES) (by rfl) T.c_NO_NAMES (by exact rfl) (fun H => T.d_NO_NAMES H)))))))
theorem ok_is_value (T : Top K mg) : FnOk P w K mg base (L2N.CX P w) 2 T.f_is_value T.fd_is_value ["value"] (spF K mg 1 F_is_value) :=
  fn_mir (N := N_is_value) (m := m_is_value) T.F_is_value sc_is_value fun cdv A outer s H E B hr => by
    have nd := sc_is_value.nd
    have hu65 := hr_65 hr
    have hu64 := hr_64 hr
    have hu1 := hr_1 hr
    exact (js_one (js_ret (je_and (je_call (ok_is_integer T) (hr.mono (by decide)) (L2N.takes_of rfl rfl rfl rfl) (by rfl) T.g_is_integer T.F_is_integer.kp T.b_is_integer (argN_cons argN_nil) (ja_cons (je_var rfl 0) (ja_nil))) (je_one (je_chain op_leA op_ltA fit_le fit_lt quiet_le flat_le (je_int) (je_var rfl 0) (je_gl (by rfl) T.c_PRIME (by exact ⟨_, rfl⟩) (fun _ => .int _)))))))
theorem ok_is_entry (T : Top K mg) : FnOk P w K mg base (L2N.CX P w) 3 T.f_is_entry T.fd_is_entry ["value"] (spF K mg 1 F_is_entry) :=
  fn_mir (N := N_is_entry) (m := m_is_entry) T.F_is_entry sc_is_entry fun cdv A outer s H E B hr => by
    have nd := sc_is_entry.nd
    have hu65 := hr_65 hr
    have hu64 := hr_64 hr
    have hu1 := hr_1 hr
    exact (js_cons (js_if ((jw_or (jt_not (jt_val (je_isi .tTuple rfl (je_var rfl 0) (by rfl) (by rfl) T.n_isinstance (by rfl) T.n_tuple (by decide +kernel)))) (jw_or1 (jt_cmp (op_neA hu64) fit_ne (je_callB call_lenA fit_len (by rfl) T.n_len (by decide +kernel) (ja_cons (je_var rfl 0) (ja_nil))) (je_int)))).pt) (js_one (js_ret (je_bl))) (js_nil)) (js_one (js_ret (je_and (je_call (ok_is_name T) (hr.mono (by decide)) (L2N.takes_of rfl rfl rfl rfl) (by rfl) T.g_is_name T.F_is_name.kp T.b_is_name (argN_cons argN_nil) (ja_cons (je_item rfl hu1 (je_var rfl 0) (je_int)) (ja_nil))) (je_and (je_call (ok_is_value T) (hr.mono (by decide)) (L2N.takes_of rfl rfl rfl rfl) (by rfl) T.g_is_value T.F_is_value.kp T.b_is_value (argN_cons argN_nil) (ja_cons (je_item rfl hu1 (je_var rfl 0) (je_int)) (ja_nil))) (je_one (je_cmp op_gtA fit_gt (je_item rfl hu1 (je_var rfl 0) (je_int)) (je_int))))))))
theorem ok_is_words (T : Top K mg) : FnOk P w K mg base (L2N.CX P w) 4 T.f_is_words T.fd_is_words ["value"] (spF K mg 1 F_is_words) :=
  fn_mir (N := N_is_words) (m := m_is_words) T.F_is_words sc_is_words fun cdv A outer s H E B hr => by
    have nd := sc_is_words.nd
    have hu65 := hr_65 hr
    have hu64 := hr_64 hr
    have hu1 := hr_1 hr
    exact (js_cons (js_if (jt_not (jt_val (je_isi .tTuple rfl (je_var rfl 0) (by rfl) (by rfl) T.n_isinstance (by rfl) T.n_tuple (by decide +kernel)))) (js_one (js_ret (je_bl))) (js_nil)) (js_cons (js_if (jt_not (jt_val (je_callB (cr_all (by rfl)) fit_all (by rfl) T.n_all (by decide +kernel) (ja_cons (je_lc (tg := (.nm 2)) (own := [("entry", 2)]) (by rfl) nd rfl (je_var rfl 0) (blkOk_by (N := N_is_words) (sc := (defScope s_is_words)) (own := [("entry", 2)]) (by decide +kernel)) ⟨fun _ _ _ _ _ => pg_name (i := 2) nd rfl (by first | exact .inl rfl | exact .inr rfl | exact .inr (.inl rfl) | exact .inr (.inr rfl)), fun _ _ _ _ _ _ _ => jts_nil, fun _ _ _ _ _ _ _ => je_call (ok_is_entry T) (hr.mono (by decide)) (takes_no fun _ _ _ _ h => h) (by rfl) T.g_is_entry T.F_is_entry.kp T.b_is_entry (argN_cons argN_nil) (ja_cons (je_var rfl 2) (ja_nil))⟩ (by decide)) (ja_nil))))) (js_one (js_ret (je_bl))) (js_nil)) (js_cons (js_setLc (tg := (.nm 2)) (own := [("entry", 2)]) 1 (by rfl) nd rfl rfl (sw_true rfl rfl rfl (by decide +kernel)) rfl (je_var rfl 0) (blkOk_by (N := N_is_words) (sc := (defScope s_is_words)) (own := [("entry", 2)]) (by decide +kernel)) ⟨fun _ _ _ _ _ => pg_name (i := 2) nd rfl (by first | exact .inl rfl | exact .inr rfl | exact .inr (.inl rfl) | exact .inr (.inr rfl)), fun _ _ _ _ _ _ _ => jts_nil, fun _ _ _ _ _ _ _ => je_item rfl hu1 (je_var rfl 2) (je_int)⟩ (by decide)) (js_one (js_ret (je_cmp (op_eqA hu64) fit_eq (je_var rfl 1) (je_sortedSet (by rfl) rfl (by rfl) T.n_sorted (by rfl) T.n_set (je_var rfl 1))))))))
theorem ok_table_of (T : Top K mg) : FnOk P w K mg base (L2N.CX P w) 5 T.f_table_of T.fd_table_of ["words"] (spF K mg 1 F_table_of) :=
  fn_mir (N := N_table_of) (m := m_table_of) T.F_table_of sc_table_of fun cdv A outer s H E B hr => by
    have nd := sc_table_of.nd
    have hu65 := hr_65 hr
    have hu64 := hr_64 hr
    have hu1 := hr_1 hr
    exact (js_cons (js_if (jt_not (jt_val (je_call (ok_is_words T) (hr.mono (by decide)) (L2N.takes_of rfl rfl rfl rfl) (by rfl) T.g_is_words T.F_is_words.kp T.b_is_words (argN_cons argN_nil) (ja_cons (je_var rfl 0) (ja_nil))))) (js_one (js_raise (by rfl) (L2N.takes_of rfl rfl rfl rfl) T.O_InvalidWords T.iC_InvalidWords T.tI_InvalidWords (ok_init_InvalidWords T) (hr.mono (by decide)) T.bI_InvalidWords rfl (argN_cons argN_nil) (by decide) (by rfl) T.g_InvalidWords (ja_cons (je_var rfl 0) (ja_nil)))) (js_nil)) (js_one (js_ret (je_dc (tg := (.tp [1, 2])) (own := [("name", 1), ("value", 2)]) (by rfl) nd rfl (je_var rfl 0) (blkOk_by (N := N_table_of) (sc := (defScope s_table_of)) (own := [("name", 1), ("value", 2)]) (by decide +kernel)) ⟨fun _ _ _ _ _ => pg_tup (by rfl) (pgs_cons (pg_name (i := 1) nd rfl (by first | exact .inl rfl | exact .inr rfl | exact .inr (.inl rfl) | exact .inr (.inr rfl))) (pgs_cons (pg_name (i := 2) nd rfl (by first | exact .inl rfl | exact .inr rfl | exact .inr (.inl rfl) | exact .inr (.inr rfl))) (pgs_nil))), fun _ _ _ _ _ _ _ => jts_nil, fun _ _ _ _ _ _ _ => je_var rfl 1, fun _ _ _ _ _ _ _ => je_var rfl 2⟩ (by decide)))))
theorem ok_words_from (T : Top K mg) : FnOk P w K mg base (L2N.CX P w) 1 T.f_words_from T.fd_words_from ["table"] (spF K mg 1 F_words_from) :=
  fn_mir (N := N_words_from) (m := m_words_from) T.F_words_from sc_words_from fun cdv A outer s H E B hr => by
    have nd := sc_words_from.nd
    have hu65 := hr_65 hr
    have hu64 := hr_64 hr
    have hu1 := hr_1 hr
    exact (js_one (js_ret (je_callTy call_tuple_of fit_tuple (by rfl) T.n_tuple (by decide +kernel) (ja_cons (je_lc (tg := (.nm 1)) (own := [("name", 1)]) (by rfl) nd rfl (je_callB (cr_sortA (by rfl)) fit_sorted (by rfl) T.n_sorted (by decide +kernel) (ja_cons (je_var rfl 0) (ja_nil))) (blkOk_by (N := N_words_from) (sc := (defScope s_words_from)) (own := [("name", 1)]) (by decide +kernel)) ⟨fun _ _ _ _ _ => pg_name (i := 1) nd rfl (by first | exact .inl rfl | exact .inr rfl | exact .inr (.inl rfl) | exact .inr (.inr rfl)), fun _ _ _ _ _ _ _ => pts_one (jt_cmp op_gtA fit_gt (je_item rfl hu1 (je_var rfl 0) (je_var rfl 1)) (je_int)), fun _ _ _ _ _ _ _ => je_tup (ja_cons (je_var rfl 1) (ja_cons (je_item rfl hu1 (je_var rfl 0) (je_var rfl 1)) (ja_nil)))⟩ (by decide)) (ja_nil)))))
theorem ok_word_in (T : Top K mg) : FnOk P w K mg base (L2N.CX P w) 6 T.f_word_in T.fd_word_in ["words", "name"] (spF K mg 2 F_word_in) :=
  fn_mir (N := N_word_in) (m := m_word_in) T.F_word_in sc_word_in fun cdv A outer s H E B hr => by
    have nd := sc_word_in.nd
    have hu65 := hr_65 hr
    have hu64 := hr_64 hr
    have hu1 := hr_1 hr
    exact (js_one (js_ret (je_get2 hu1 (je_call (ok_table_of T) (hr.mono (by decide)) (L2N.takes_of rfl rfl rfl rfl) (by rfl) T.g_table_of T.F_table_of.kp T.b_table_of (argN_cons argN_nil) (ja_cons (je_var rfl 0) (ja_nil))) (je_var rfl 1) (je_int) (fun _ _ => je_var rfl 1) (fun _ _ => je_int) ⟨by rfl, by rfl, by rfl, by rfl⟩)))
theorem ok_words_with (T : Top K mg) : FnOk P w K mg base (L2N.CX P w) 6 T.f_words_with T.fd_words_with ["words", "name", "value"] (spF K mg 3 F_words_with) :=
  fn_mir (N := N_words_with) (m := m_words_with) T.F_words_with sc_words_with fun cdv A outer s H E B hr => by
    have nd := sc_words_with.nd
    have hu65 := hr_65 hr
    have hu64 := hr_64 hr
    have hu1 := hr_1 hr
    exact (js_cons (js_set 3 nd rfl (by first | exact .inl rfl | exact .inr rfl | exact .inr (.inl rfl) | exact .inr (.inr rfl)) (je_call (ok_table_of T) (hr.mono (by decide)) (L2N.takes_of rfl rfl rfl rfl) (by rfl) T.g_table_of T.F_table_of.kp T.b_table_of (argN_cons argN_nil) (ja_cons (je_var rfl 0) (ja_nil)))) (js_cons (js_dput 3 rfl hu1 rfl (by first | exact .inl rfl | exact .inr rfl | exact .inr (.inl rfl) | exact .inr (.inr rfl)) (je_var rfl 1) (je_var rfl 2)) (js_one (js_ret (je_call (ok_words_from T) (hr.mono (by decide)) (L2N.takes_of rfl rfl rfl rfl) (by rfl) T.g_words_from T.F_words_from.kp T.b_words_from (argN_cons argN_nil) (ja_cons (je_var rfl 3) (ja_nil)))))))
theorem ok_operated (T : Top K mg) : FnOk P w K mg base (L2N.CX P w) 1 T.f_operated T.fd_operated ["op", "a", "b"] (spF K mg 3 F_operated) :=
  fn_mir (N := N_operated) (m := m_operated) T.F_operated sc_operated fun cdv A outer s H E B hr => by
    have nd := sc_operated.nd
    have hu65 := hr_65 hr
    have hu64 := hr_64 hr
    have hu1 := hr_1 hr
    exact (js_cons (js_if (jt_cmp (op_eqA hu64) fit_eq (je_var rfl 0) (je_str)) (js_one (js_ret (je_bin op_mod fit_mod (je_bin op_addA fit_add (je_var rfl 1) (je_var rfl 2)) (je_gl (by rfl) T.c_PRIME (by exact ⟨_, rfl⟩) (fun _ => .int _))))) (js_nil)) (js_cons (js_if (jt_cmp (op_eqA hu64) fit_eq (je_var rfl 0) (je_str)) (js_one (js_ret (je_bin op_mod fit_mod (je_bin op_sub fit_sub (je_var rfl 1) (je_var rfl 2)) (je_gl (by rfl) T.c_PRIME (by exact ⟨_, rfl⟩) (fun _ => .int _))))) (js_nil)) (js_cons (js_if (jt_cmp (op_eqA hu64) fit_eq (je_var rfl 0) (je_str)) (js_one (js_ret (je_bin op_mod fit_mod (je_bin op_mulL fit_mulL (je_var rfl 1) (je_var rfl 2)) (je_gl (by rfl) T.c_PRIME (by exact ⟨_, rfl⟩) (fun _ => .int _))))) (js_nil)) (js_cons (js_if (jt_cmp (op_eqA hu64) fit_eq (je_var rfl 0) (je_str)) (js_one (js_ret (je_callB (call_max2 (by rfl)) fit_max2 (by rfl) T.n_max (by decide +kernel) (ja_cons (je_var rfl 1) (ja_cons (je_var rfl 2) (ja_nil)))))) (js_nil)) (js_cons (js_if (jt_cmp (op_eqA hu64) fit_eq (je_var rfl 0) (je_str)) (js_one (js_ret (je_callB (call_min2 (by rfl)) fit_min2 (by rfl) T.n_min (by decide +kernel) (ja_cons (je_var rfl 1) (ja_cons (je_var rfl 2) (ja_nil)))))) (js_nil)) (js_cons (js_if (jt_cmp (op_eqA hu64) fit_eq (je_var rfl 0) (je_str)) (js_one (js_ret (je_callTy call_int1 fit_int (by rfl) T.n_int (by decide +kernel) (ja_cons (je_cmp op_ltA fit_lt (je_var rfl 1) (je_var rfl 2)) (ja_nil))))) (js_nil)) (js_one (js_ret (je_callTy call_int1 fit_int (by rfl) T.n_int (by decide +kernel) (ja_cons (je_cmp (op_eqA hu64) fit_eq (je_var rfl 1) (je_var rfl 2)) (ja_nil)))))))))))
theorem ok__law_draws (T : Top K mg) : FnOk P w K mg base (L2N.CX P w) 1 T.f__law_draws T.fd__law_draws ["script", "k", "bounds"] (spF K mg 3 F__law_draws) :=
  fn_mir (N := N__law_draws) (m := m__law_draws) T.F__law_draws sc__law_draws fun cdv A outer s H E B hr => by
    have nd := sc__law_draws.nd
    have hu65 := hr_65 hr
    have hu64 := hr_64 hr
    have hu1 := hr_1 hr
    exact (js_cons (js_set 3 nd rfl (by first | exact .inl rfl | exact .inr rfl | exact .inr (.inl rfl) | exact .inr (.inr rfl)) (je_int)) (js_cons (js_set 4 nd rfl (by first | exact .inl rfl | exact .inr rfl | exact .inr (.inl rfl) | exact .inr (.inr rfl)) (je_int)) (js_cons (js_if (jt_cmp op_ltA fit_lt (je_var rfl 1) (je_callB call_lenA fit_len (by rfl) T.n_len (by decide +kernel) (ja_cons (je_var rfl 0) (ja_nil)))) (js_cons (js_set 3 nd rfl (by first | exact .inl rfl | exact .inr rfl | exact .inr (.inl rfl) | exact .inr (.inr rfl)) (je_callTy call_int1 fit_int (by rfl) T.n_int (by decide +kernel) (ja_cons (je_item rfl hu1 (je_var rfl 0) (je_var rfl 1)) (ja_nil)))) (js_one (js_set 4 nd rfl (by first | exact .inl rfl | exact .inr rfl | exact .inr (.inl rfl) | exact .inr (.inr rfl)) (je_callB (call_max2 (by rfl)) fit_max2 (by rfl) T.n_max (by decide +kernel) (ja_cons (je_int) (ja_cons (je_bin op_sub fit_sub (je_var rfl 3) (je_bin op_pow fit_pow (je_int) (je_int))) (ja_nil))))))) (js_one (js_if (jt_cmp op_gtA fit_gt (je_callB call_lenA fit_len (by rfl) T.n_len (by decide +kernel) (ja_cons (je_var rfl 0) (ja_nil))) (je_int)) (js_one (js_set 3 nd rfl (by first | exact .inl rfl | exact .inr rfl | exact .inr (.inl rfl) | exact .inr (.inr rfl)) (je_callTy call_int1 fit_int (by rfl) T.n_int (by decide +kernel) (ja_cons (je_item rfl hu1 (je_var rfl 0) (je_bin op_mod fit_mod (je_callTy call_int1 fit_int (by rfl) T.n_int (by decide +kernel) (ja_cons (je_var rfl 1) (ja_nil))) (je_callB call_lenA fit_len (by rfl) T.n_len (by decide +kernel) (ja_cons (je_var rfl 0) (ja_nil))))) (ja_nil))))) (js_nil)))) (js_cons (js_set 5 nd rfl (by first | exact .inl rfl | exact .inr rfl | exact .inr (.inl rfl) | exact .inr (.inr rfl)) (je_lst (ja_nil))) (js_cons (js_forR1 (tg := (.nm 6)) (passes_of rfl) (by rfl) rfl (by rfl) T.n_range (ja_cons (je_callB call_lenA fit_len (by rfl) T.n_len (by decide +kernel) (ja_cons (je_var rfl 2) (ja_nil))) (ja_nil)) (pg_name (i := 6) nd rfl (by first | exact .inl rfl | exact .inr rfl | exact .inr (.inl rfl) | exact .inr (.inr rfl))) (js_less (w2 := [4, 7]) (js_one (js_if (jt_cmp op_gtA fit_gt (je_var rfl 4) (je_int)) (js_cons (js_append 5 rfl rfl (by first | exact .inl rfl | exact .inr rfl | exact .inr (.inl rfl) | exact .inr (.inr rfl)) (je_bin op_mod fit_mod (je_callTy call_int1 fit_int (by rfl) T.n_int (by decide +kernel) (ja_cons (je_var rfl 4) (ja_nil))) (je_item rfl hu1 (je_var rfl 2) (je_var rfl 6)))) (js_one (js_set 4 nd rfl (by first | exact .inl rfl | exact .inr rfl | exact .inr (.inl rfl) | exact .inr (.inr rfl)) (je_bin op_fdivW fit_div (je_var rfl 4) (je_item rfl hu1 (je_var rfl 2) (je_var rfl 6)))))) (js_cons (js_set 7 nd rfl (by first | exact .inl rfl | exact .inr rfl | exact .inr (.inl rfl) | exact .inr (.inr rfl)) (je_bin op_mod fit_mod (je_callTy call_int1 fit_int (by rfl) T.n_int (by decide +kernel) (ja_cons (je_bin op_addA fit_add (je_bin op_addA fit_add (je_bin op_addA fit_add (je_bin op_mulL fit_mulL (je_var rfl 3) (je_int)) (je_bin op_mulL fit_mulL (je_var rfl 1) (je_int))) (je_bin op_mulL fit_mulL (je_var rfl 6) (je_int))) (je_int)) (ja_nil))) (je_int))) (js_cons (js_set 7 nd rfl (by first | exact .inl rfl | exact .inr rfl | exact .inr (.inl rfl) | exact .inr (.inr rfl)) (je_bin op_mod fit_mod (je_callTy call_int1 fit_int (by rfl) T.n_int (by decide +kernel) (ja_cons (je_bin op_addA fit_add (je_bin op_addA fit_add (je_bin op_mulL fit_mulL (je_var rfl 7) (je_var rfl 7)) (je_bin op_mulL fit_mulL (je_var rfl 6) (je_int))) (je_int)) (ja_nil))) (je_int))) (js_cons (js_set 7 nd rfl (by first | exact .inl rfl | exact .inr rfl | exact .inr (.inl rfl) | exact .inr (.inr rfl)) (je_bin op_mod fit_mod (je_callTy call_int1 fit_int (by rfl) T.n_int (by decide +kernel) (ja_cons (je_bin op_addA fit_add (je_bin op_addA fit_add (je_bin op_mulL fit_mulL (je_var rfl 7) (je_var rfl 7)) (je_bin op_mulL fit_mulL (je_var rfl 7) (je_int))) (je_int)) (ja_nil))) (je_int))) (js_one (js_append 5 rfl rfl (by first | exact .inl rfl | exact .inr rfl | exact .inr (.inl rfl) | exact .inr (.inr rfl)) (je_bin op_mod fit_mod (je_bin op_fdivW fit_div (je_var rfl 7) (je_int)) (je_item rfl hu1 (je_var rfl 2) (je_var rfl 6)))))))))) (by decide))) (js_one (js_ret (je_var rfl 5))))))))
theorem ok__law_equal (T : Top K mg) : ∀ n : Nat, FnOk P w K mg base (L2N.CX P w) (0 + n) T.f__law_equal T.fd__law_equal ["actual", "expected"] (spF K mg 2 (F__law_equal n))
  | 0 => fn_stuck
  | n + 1 => fn_mir (N := N__law_equal) (m := m__law_equal (F__law_equal n)) T.F__law_equal sc__law_equal fun cdv A outer s H E B hr => by
    have nd := sc__law_equal.nd
    have hu65 := hr_65 hr
    have hu64 := hr_64 hr
    have hu1 := hr_1 hr
    exact (js_cons (js_if (jt_cmp op_isA fit_is (je_var rfl 1) (je_non)) (js_one (js_ret (je_cmp op_isA fit_is (je_var rfl 0) (je_non)))) (js_nil)) (js_cons (js_if (jt_val (je_isi .tBool rfl (je_var rfl 1) (by rfl) (by rfl) T.n_isinstance (by rfl) T.n_bool (by decide +kernel))) (js_one (js_ret (je_and (je_isi .tBool rfl (je_var rfl 0) (by rfl) (by rfl) T.n_isinstance (by rfl) T.n_bool (by decide +kernel)) (je_one (je_cmp (op_eqA hu64) fit_eq (je_var rfl 0) (je_var rfl 1)))))) (js_nil)) (js_cons (js_if (jt_val (je_isi .tInt rfl (je_var rfl 1) (by rfl) (by rfl) T.n_isinstance (by rfl) T.n_int (by decide +kernel))) (js_one (js_ret (je_and (je_isi .tInt rfl (je_var rfl 0) (by rfl) (by rfl) T.n_isinstance (by rfl) T.n_int (by decide +kernel)) (je_and (je_not (je_isi .tBool rfl (je_var rfl 0) (by rfl) (by rfl) T.n_isinstance (by rfl) T.n_bool (by decide +kernel))) (je_one (je_cmp (op_eqA hu64) fit_eq (je_var rfl 0) (je_var rfl 1))))))) (js_nil)) (js_cons (js_if (jt_val (je_isi .tStr rfl (je_var rfl 1) (by rfl) (by rfl) T.n_isinstance (by rfl) T.n_str (by decide +kernel))) (js_one (js_ret (je_and (je_isi .tStr rfl (je_var rfl 0) (by rfl) (by rfl) T.n_isinstance (by rfl) T.n_str (by decide +kernel)) (je_one (je_cmp (op_eqA hu64) fit_eq (je_var rfl 0) (je_var rfl 1)))))) (js_nil)) (js_cons (js_if ((jw_or (jt_not (jt_val (je_isi .tTuple rfl (je_var rfl 0) (by rfl) (by rfl) T.n_isinstance (by rfl) T.n_tuple (by decide +kernel)))) (jw_or1 (jt_cmp (op_neA hu64) fit_ne (je_callB call_lenA fit_len (by rfl) T.n_len (by decide +kernel) (ja_cons (je_var rfl 0) (ja_nil))) (je_callB call_lenA fit_len (by rfl) T.n_len (by decide +kernel) (ja_cons (je_var rfl 1) (ja_nil)))))).pt) (js_one (js_ret (je_bl))) (js_nil)) (js_cons (js_forR1 (tg := (.nm 2)) (passes_of rfl) (by rfl) rfl (by rfl) T.n_range (ja_cons (je_callB call_lenA fit_len (by rfl) T.n_len (by decide +kernel) (ja_cons (je_var rfl 1) (ja_nil))) (ja_nil)) (pg_name (i := 2) nd rfl (by first | exact .inl rfl | exact .inr rfl | exact .inr (.inl rfl) | exact .inr (.inr rfl))) (js_less (w2 := []) (js_one (js_if (jt_not (jt_val (je_call (ok__law_equal T n) (hr) (L2N.takes_of rfl rfl rfl rfl) (by rfl) T.g__law_equal T.F__law_equal.kp T.b__law_equal (argN_cons (argN_cons argN_nil)) (ja_cons (je_item rfl hu1 (je_var rfl 0) (je_var rfl 2)) (ja_cons (je_item rfl hu1 (je_var rfl 1) (je_var rfl 2)) (ja_nil)))))) (js_one (js_ret (je_bl))) (js_nil))) (by decide))) (js_one (js_ret (je_bl)))))))))
theorem okH__law_equal (T : Top K mg) : ∀ n : Nat, L2H.FnH P w K mg base (L2N.CX P w) (0 + n) T.f__law_equal T.fd__law_equal ["actual", "expected"] (spF K mg 2 (F__law_equal n))
  | 0 => fn_stuckH
  | n + 1 => fn_mirH (N := N__law_equal) (m := m__law_equal (F__law_equal n)) T.F__law_equal sc__law_equal fun cdv A outer s H E B p hp hr => by
    have nd := sc__law_equal.nd
    have hu65 := hrH_65 hr
    have hu64 := hrH_64 hr
    have hu1 := hrH_1 hr
    exact (js_cons (js_if (jt_cmp op_isA fit_is (je_var rfl 1) (je_non)) (js_one (js_ret (je_cmp op_isA fit_is (je_var rfl 0) (je_non)))) (js_nil)) (js_cons (js_if (jt_val (je_isi .tBool rfl (je_var rfl 1) (by rfl) (by rfl) T.n_isinstance (by rfl) T.n_bool (by decide +kernel))) (js_one (js_ret (je_and (je_isi .tBool rfl (je_var rfl 0) (by rfl) (by rfl) T.n_isinstance (by rfl) T.n_bool (by decide +kernel)) (je_one (je_cmp (op_eqA hu64) fit_eq (je_var rfl 0) (je_var rfl 1)))))) (js_nil)) (js_cons (js_if (jt_val (je_isi .tInt rfl (je_var rfl 1) (by rfl) (by rfl) T.n_isinstance (by rfl) T.n_int (by decide +kernel))) (js_one (js_ret (je_and (je_isi .tInt rfl (je_var rfl 0) (by rfl) (by rfl) T.n_isinstance (by rfl) T.n_int (by decide +kernel)) (je_and (je_not (je_isi .tBool rfl (je_var rfl 0) (by rfl) (by rfl) T.n_isinstance (by rfl) T.n_bool (by decide +kernel))) (je_one (je_cmp (op_eqA hu64) fit_eq (je_var rfl 0) (je_var rfl 1))))))) (js_nil)) (js_cons (js_if (jt_val (je_isi .tStr rfl (je_var rfl 1) (by rfl) (by rfl) T.n_isinstance (by rfl) T.n_str (by decide +kernel))) (js_one (js_ret (je_and (je_isi .tStr rfl (je_var rfl 0) (by rfl) (by rfl) T.n_isinstance (by rfl) T.n_str (by decide +kernel)) (je_one (je_cmp (op_eqA hu64) fit_eq (je_var rfl 0) (je_var rfl 1)))))) (js_nil)) (js_cons (js_if ((jw_or (jt_not (jt_val (je_isi .tTuple rfl (je_var rfl 0) (by rfl) (by rfl) T.n_isinstance (by rfl) T.n_tuple (by decide +kernel)))) (jw_or1 (jt_cmp (op_neA hu64) fit_ne (je_callB call_lenA fit_len (by rfl) T.n_len (by decide +kernel) (ja_cons (je_var rfl 0) (ja_nil))) (je_callB call_lenA fit_len (by rfl) T.n_len (by decide +kernel) (ja_cons (je_var rfl 1) (ja_nil)))))).pt) (js_one (js_ret (je_bl))) (js_nil)) (js_cons (js_forR1H (tg := (.nm 2)) (passes_of rfl) (hot_fn hp) rfl (by rfl) T.n_range (ja_cons (je_callB call_lenA fit_len (by rfl) T.n_len (by decide +kernel) (ja_cons (je_var rfl 1) (ja_nil))) (ja_nil)) (pg_name (i := 2) nd rfl (by first | exact .inl rfl | exact .inr rfl | exact .inr (.inl rfl) | exact .inr (.inr rfl))) (js_less (w2 := []) (js_one (js_if (jt_not (jt_val (je_callH (okH__law_equal T n) (hr) (hot_fn hp) (L2N.takes_of rfl rfl rfl rfl) (by rfl) T.g__law_equal T.F__law_equal.kp T.b__law_equal (argN_cons (argN_cons argN_nil)) (ja_cons (je_item rfl hu1 (je_var rfl 0) (je_var rfl 2)) (ja_cons (je_item rfl hu1 (je_var rfl 1) (je_var rfl 2)) (ja_nil)))))) (js_one (js_ret (je_bl))) (js_nil))) (by decide))) (js_one (js_ret (je_bl)))))))))
theorem ok__law_pool (T : Top K mg) : FnOk P w K mg base (L2N.CX P w) 2 T.f__law_pool T.fd__law_pool ["script", "k", "size"] (spF K mg 3 F__law_pool) :=
  fn_mir (N := N__law_pool) (m := m__law_pool) T.F__law_pool sc__law_pool fun cdv A outer s H E B hr => by
    have nd := sc__law_pool.nd
    have hu65 := hr_65 hr
    have hu64 := hr_64 hr
    have hu1 := hr_1 hr
    exact (js_cons (js_set 3 nd rfl (by first | exact .inl rfl | exact .inr rfl | exact .inr (.inl rfl) | exact .inr (.inr rfl)) (je_call (ok__law_draws T) (hr.mono (by decide)) (L2N.takes_of rfl rfl rfl rfl) (by rfl) T.g__law_draws T.F__law_draws.kp T.b__law_draws (argN_cons (argN_cons (argN_cons argN_nil))) (ja_cons (je_var rfl 0) (ja_cons (je_var rfl 1) (ja_cons (je_lst (ja_cons (je_int) (ja_cons (je_bin op_pow fit_pow (je_int) (je_int)) (ja_cons (je_int) (ja_nil))))) (ja_nil)))))) (js_cons (js_set 4 nd rfl (by first | exact .inl rfl | exact .inr rfl | exact .inr (.inl rfl) | exact .inr (.inr rfl)) (je_bin op_addA fit_add (je_int) (je_item rfl hu1 (je_var rfl 3) (je_int)))) (js_cons (js_set 5 nd rfl (by first | exact .inl rfl | exact .inr rfl | exact .inr (.inl rfl) | exact .inr (.inr rfl)) (je_bin op_addA fit_add (je_int) (je_bin op_mulL fit_mulL (je_item rfl hu1 (je_var rfl 3) (je_int)) (je_callTy call_int1 fit_int (by rfl) T.n_int (by decide +kernel) (ja_cons (je_cmp op_gtA fit_gt (je_var rfl 4) (je_int)) (ja_nil)))))) (js_cons (js_set 6 nd rfl (by first | exact .inl rfl | exact .inr rfl | exact .inr (.inl rfl) | exact .inr (.inr rfl)) (je_lst (ja_nil))) (js_cons (js_forR1 (tg := (.nm 7)) (passes_of rfl) (by rfl) rfl (by rfl) T.n_range (ja_cons (je_var rfl 2) (ja_nil)) (pg_name (i := 7) nd rfl (by first | exact .inl rfl | exact .inr rfl | exact .inr (.inl rfl) | exact .inr (.inr rfl))) (js_less (w2 := [8, 9, 10]) (js_cons (js_set 8 nd rfl (by first | exact .inl rfl | exact .inr rfl | exact .inr (.inl rfl) | exact .inr (.inr rfl)) (je_bin op_addA fit_add (je_item rfl hu1 (je_var rfl 3) (je_int)) (je_bin op_mulL fit_mulL (je_bin op_fdivW fit_div (je_var rfl 7) (je_int)) (je_var rfl 5)))) (js_cons (js_set 9 nd rfl (by first | exact .inl rfl | exact .inr rfl | exact .inr (.inl rfl) | exact .inr (.inr rfl)) (je_str)) (js_cons (js_forR1 (tg := (.nm 10)) (passes_of rfl) (by rfl) rfl (by rfl) T.n_range (ja_cons (je_var rfl 4) (ja_nil)) (pg_name (i := 10) nd rfl (by first | exact .inl rfl | exact .inr rfl | exact .inr (.inl rfl) | exact .inr (.inr rfl))) (js_less (w2 := [8, 9]) (js_cons (js_set 9 nd rfl (by first | exact .inl rfl | exact .inr rfl | exact .inr (.inl rfl) | exact .inr (.inr rfl)) (je_bin op_addA fit_add (je_var rfl 9) (je_item rfl hu1 (je_str) (je_bin op_mod fit_mod (je_callTy call_int1 fit_int (by rfl) T.n_int (by decide +kernel) (ja_cons (je_var rfl 8) (ja_nil))) (je_int))))) (js_one (js_set 8 nd rfl (by first | exact .inl rfl | exact .inr rfl | exact .inr (.inl rfl) | exact .inr (.inr rfl)) (je_bin op_fdivW fit_div (je_var rfl 8) (je_int))))) (by decide))) (js_cons (js_if (jt_cmp (op_inA hu65) fit_in (je_var rfl 9) (je_lst (ja_cons (je_str) (ja_cons (je_str) (ja_cons (je_str) (ja_cons (je_str) (ja_cons (je_str) (ja_cons (je_str) (ja_cons (je_str) (ja_cons (je_str) (ja_nil))))))))))) (js_one (js_set 9 nd rfl (by first | exact .inl rfl | exact .inr rfl | exact .inr (.inl rfl) | exact .inr (.inr rfl)) (je_bin op_addA fit_add (je_var rfl 9) (je_str)))) (js_nil)) (js_one (js_append 6 rfl rfl (by first | exact .inl rfl | exact .inr rfl | exact .inr (.inl rfl) | exact .inr (.inr rfl)) (je_bin op_addA fit_add (je_var rfl 9) (je_bin op_mulL fit_mulL (je_str) (je_bin op_mod fit_mod (je_callTy call_int1 fit_int (by rfl) T.n_int (by decide +kernel) (ja_cons (je_var rfl 7) (ja_nil))) (je_int)))))))))) (by decide))) (js_one (js_ret (je_var rfl 6))))))))
theorem ok__law_words (T : Top K mg) : FnOk P w K mg base (L2N.CX P w) 2 T.f__law_words T.fd__law_words ["script", "k", "pool"] (spF K mg 3 F__law_words) :=
  fn_mir (N := N__law_words) (m := m__law_words) T.F__law_words sc__law_words fun cdv A outer s H E B hr => by
    have nd := sc__law_words.nd
    have hu65 := hr_65 hr
    have hu64 := hr_64 hr
    have hu1 := hr_1 hr
    exact (js_cons (js_set 3 nd rfl (by first | exact .inl rfl | exact .inr rfl | exact .inr (.inl rfl) | exact .inr (.inr rfl)) (je_call (ok__law_draws T) (hr.mono (by decide)) (L2N.takes_of rfl rfl rfl rfl) (by rfl) T.g__law_draws T.F__law_draws.kp T.b__law_draws (argN_cons (argN_cons (argN_cons argN_nil))) (ja_cons (je_var rfl 0) (ja_cons (je_var rfl 1) (ja_cons (je_bin op_mulL fit_mulL (je_lst (ja_cons (je_int) (ja_cons (je_int) (ja_nil)))) (je_int)) (ja_nil)))))) (js_cons (js_set 4 nd rfl (by first | exact .inl rfl | exact .inr rfl | exact .inr (.inl rfl) | exact .inr (.inr rfl)) (je_lst (ja_nil))) (js_cons (js_forR1 (tg := (.nm 5)) (passes_of rfl) (by rfl) rfl (by rfl) T.n_range (ja_cons (je_callB call_lenA fit_len (by rfl) T.n_len (by decide +kernel) (ja_cons (je_var rfl 2) (ja_nil))) (ja_nil)) (pg_name (i := 5) nd rfl (by first | exact .inl rfl | exact .inr rfl | exact .inr (.inl rfl) | exact .inr (.inr rfl))) (js_less (w2 := [6, 7, 8]) (js_cons (js_set 6 nd rfl (by first | exact .inl rfl | exact .inr rfl | exact .inr (.inl rfl) | exact .inr (.inr rfl)) (je_item rfl hu1 (je_lst (ja_cons (je_int) (ja_cons (je_bin op_mod fit_mod (je_callTy call_int1 fit_int (by rfl) T.n_int (by decide +kernel) (ja_cons (je_item rfl hu1 (je_var rfl 3) (je_bin op_addA fit_add (je_bin op_mulL fit_mulL (je_int) (je_var rfl 5)) (je_int))) (ja_nil))) (je_int)) (ja_cons (je_bin op_addA fit_add (je_int) (je_item rfl hu1 (je_var rfl 3) (je_bin op_addA fit_add (je_bin op_mulL fit_mulL (je_int) (je_var rfl 5)) (je_int)))) (ja_nil))))) (je_item rfl hu1 (je_var rfl 3) (je_bin op_mulL fit_mulL (je_int) (je_var rfl 5))))) (js_cons (js_set 7 nd rfl (by first | exact .inl rfl | exact .inr rfl | exact .inr (.inl rfl) | exact .inr (.inr rfl)) (je_int)) (js_cons (js_for (tg := (.nm 8)) (passes_of rfl) (by rfl) rfl (je_var rfl 4) (pg_name (i := 8) nd rfl (by first | exact .inl rfl | exact .inr rfl | exact .inr (.inl rfl) | exact .inr (.inr rfl))) (js_less (w2 := [7]) (js_one (js_if (jt_cmp op_ltA fit_lt (je_item rfl hu1 (je_var rfl 8) (je_int)) (je_item rfl hu1 (je_var rfl 2) (je_var rfl 5))) (js_one (js_set 7 nd rfl (by first | exact .inl rfl | exact .inr rfl | exact .inr (.inl rfl) | exact .inr (.inr rfl)) (je_bin op_addA fit_add (je_var rfl 7) (je_int)))) (js_nil))) (by decide))) (js_one (js_if (jt_cmp op_gtA fit_gt (je_var rfl 6) (je_int)) (js_one (js_insert 4 rfl rfl (by first | exact .inl rfl | exact .inr rfl | exact .inr (.inl rfl) | exact .inr (.inr rfl)) (je_var rfl 7) (je_tup (ja_cons (je_item rfl hu1 (je_var rfl 2) (je_var rfl 5)) (ja_cons (je_var rfl 6) (ja_nil)))))) (js_nil)))))) (by decide))) (js_one (js_ret (je_callTy call_tuple_of fit_tuple (by rfl) T.n_tuple (by decide +kernel) (ja_cons (je_var rfl 4) (ja_nil))))))))
theorem ok__law_operated (T : Top K mg) : FnOk P w K mg base (L2N.CX P w) 1 T.f__law_operated T.fd__law_operated ["op", "a", "b"] (spF K mg 3 F__law_operated) :=
  fn_mir (N := N__law_operated) (m := m__law_operated) T.F__law_operated sc__law_operated fun cdv A outer s H E B hr => by
    have nd := sc__law_operated.nd
    have hu65 := hr_65 hr
    have hu64 := hr_64 hr
    have hu1 := hr_1 hr
    exact (js_cons (js_if (jt_cmp (op_eqA hu64) fit_eq (je_var rfl 0) (je_str)) (js_one (js_ret (je_bin op_mod fit_mod (je_callTy call_int1 fit_int (by rfl) T.n_int (by decide +kernel) (ja_cons (je_bin op_addA fit_add (je_var rfl 1) (je_var rfl 2)) (ja_nil))) (je_int)))) (js_nil)) (js_cons (js_if (jt_cmp (op_eqA hu64) fit_eq (je_var rfl 0) (je_str)) (js_one (js_ret (je_bin op_mod fit_mod (je_callTy call_int1 fit_int (by rfl) T.n_int (by decide +kernel) (ja_cons (je_bin op_sub fit_sub (je_var rfl 1) (je_var rfl 2)) (ja_nil))) (je_int)))) (js_nil)) (js_cons (js_if (jt_cmp (op_eqA hu64) fit_eq (je_var rfl 0) (je_str)) (js_one (js_ret (je_bin op_mod fit_mod (je_callTy call_int1 fit_int (by rfl) T.n_int (by decide +kernel) (ja_cons (je_bin op_mulL fit_mulL (je_var rfl 1) (je_var rfl 2)) (ja_nil))) (je_int)))) (js_nil)) (js_cons (js_if ((jw_or (jt_cmp (op_eqA hu64) fit_eq (je_var rfl 0) (je_str)) (jw_or1 (jt_cmp (op_eqA hu64) fit_eq (je_var rfl 0) (je_str)))).pt) (js_one (js_ret (je_item rfl hu1 (je_lst (ja_cons (je_var rfl 1) (ja_cons (je_var rfl 2) (ja_nil)))) (je_callTy call_int1 fit_int (by rfl) T.n_int (by decide +kernel) (ja_cons (je_cmp (op_eqA hu64) fit_eq (je_cmp op_ltA fit_lt (je_var rfl 1) (je_var rfl 2)) (je_cmp (op_eqA hu64) fit_eq (je_var rfl 0) (je_str))) (ja_nil)))))) (js_nil)) (js_cons (js_if (jt_cmp (op_eqA hu64) fit_eq (je_var rfl 0) (je_str)) (js_one (js_ret (je_callTy call_int1 fit_int (by rfl) T.n_int (by decide +kernel) (ja_cons (je_cmp op_ltA fit_lt (je_var rfl 1) (je_var rfl 2)) (ja_nil))))) (js_nil)) (js_one (js_ret (je_callTy call_int1 fit_int (by rfl) T.n_int (by decide +kernel) (ja_cons (je_cmp (op_eqA hu64) fit_eq (je_var rfl 1) (je_var rfl 2)) (ja_nil))))))))))
theorem ok__law_big (T : Top K mg) : FnOk P w K mg base (L2N.CX P w) 2 T.f__law_big T.fd__law_big ["script", "k"] (spF K mg 2 F__law_big) :=
  fn_mir (N := N__law_big) (m := m__law_big) T.F__law_big sc__law_big fun cdv A outer s H E B hr => by
    have nd := sc__law_big.nd
    have hu65 := hr_65 hr
    have hu64 := hr_64 hr
    have hu1 := hr_1 hr
    exact (js_cons (js_set 2 nd rfl (by first | exact .inl rfl | exact .inr rfl | exact .inr (.inl rfl) | exact .inr (.inr rfl)) (je_call (ok__law_draws T) (hr.mono (by decide)) (L2N.takes_of rfl rfl rfl rfl) (by rfl) T.g__law_draws T.F__law_draws.kp T.b__law_draws (argN_cons (argN_cons (argN_cons argN_nil))) (ja_cons (je_var rfl 0) (ja_cons (je_var rfl 1) (ja_cons (je_lst (ja_cons (je_int) (ja_cons (je_int) (ja_nil)))) (ja_nil)))))) (js_one (js_ret (je_item rfl hu1 (je_lst (ja_cons (je_int) (ja_cons (je_int) (ja_cons (je_int) (ja_cons (je_bin op_mod fit_mod (je_callTy call_int1 fit_int (by rfl) T.n_int (by decide +kernel) (ja_cons (je_item rfl hu1 (je_var rfl 2) (je_int)) (ja_nil))) (je_int)) (ja_cons (je_item rfl hu1 (je_var rfl 2) (je_int)) (ja_cons (je_item rfl hu1 (je_var rfl 2) (je_int)) (ja_nil)))))))) (je_item rfl hu1 (je_var rfl 2) (je_int))))))
theorem ok__law_with (T : Top K mg) : FnOk P w K mg base (L2N.CX P w) 1 T.f__law_with T.fd__law_with ["words", "name", "value"] (spF K mg 3 F__law_with) :=
  fn_mir (N := N__law_with) (m := m__law_with) T.F__law_with sc__law_with fun cdv A outer s H E B hr => by
    have nd := sc__law_with.nd
    have hu65 := hr_65 hr
    have hu64 := hr_64 hr
    have hu1 := hr_1 hr
    exact (js_cons (js_set 3 nd rfl (by first | exact .inl rfl | exact .inr rfl | exact .inr (.inl rfl) | exact .inr (.inr rfl)) (je_lst (ja_nil))) (js_cons (js_set 4 nd rfl (by first | exact .inl rfl | exact .inr rfl | exact .inr (.inl rfl) | exact .inr (.inr rfl)) (je_cmp (op_eqA hu64) fit_eq (je_var rfl 2) (je_int))) (js_cons (js_for (tg := (.nm 5)) (passes_of rfl) (by rfl) rfl (je_var rfl 0) (pg_name (i := 5) nd rfl (by first | exact .inl rfl | exact .inr rfl | exact .inr (.inl rfl) | exact .inr (.inr rfl))) (js_less (w2 := [4]) (js_cons (js_if ((jw_and (jt_not (jt_tru rfl (je_var rfl 4))) (jw_and1 (jt_cmp op_ltA fit_lt (je_var rfl 1) (je_item rfl hu1 (je_var rfl 5) (je_int))))).pt) (js_cons (js_append 3 rfl rfl (by first | exact .inl rfl | exact .inr rfl | exact .inr (.inl rfl) | exact .inr (.inr rfl)) (je_tup (ja_cons (je_var rfl 1) (ja_cons (je_var rfl 2) (ja_nil))))) (js_one (js_set 4 nd rfl (by first | exact .inl rfl | exact .inr rfl | exact .inr (.inl rfl) | exact .inr (.inr rfl)) (je_bl)))) (js_nil)) (js_one (js_if (jt_cmp (op_neA hu64) fit_ne (je_item rfl hu1 (je_var rfl 5) (je_int)) (je_var rfl 1)) (js_one (js_append 3 rfl rfl (by first | exact .inl rfl | exact .inr rfl | exact .inr (.inl rfl) | exact .inr (.inr rfl)) (je_var rfl 5))) (js_one (js_if (jt_cmp op_gtA fit_gt (je_var rfl 2) (je_int)) (js_cons (js_append 3 rfl rfl (by first | exact .inl rfl | exact .inr rfl | exact .inr (.inl rfl) | exact .inr (.inr rfl)) (je_tup (ja_cons (je_var rfl 1) (ja_cons (je_var rfl 2) (ja_nil))))) (js_one (js_set 4 nd rfl (by first | exact .inl rfl | exact .inr rfl | exact .inr (.inl rfl) | exact .inr (.inr rfl)) (je_bl)))) (js_nil)))))) (by decide))) (js_cons (js_if (jt_not (jt_tru rfl (je_var rfl 4))) (js_one (js_append 3 rfl rfl (by first | exact .inl rfl | exact .inr rfl | exact .inr (.inl rfl) | exact .inr (.inr rfl)) (je_tup (ja_cons (je_var rfl 1) (ja_cons (je_var rfl 2) (ja_nil)))))) (js_nil)) (js_one (js_ret (je_callTy call_tuple_of fit_tuple (by rfl) T.n_tuple (by decide +kernel) (ja_cons (je_var rfl 3) (ja_nil)))))))))
theorem ok__law_no_words (T : Top K mg) : FnOk P w K mg base (L2N.CX P w) 2 T.f__law_no_words T.fd__law_no_words ["script", "k", "words", "name"] (spF K mg 4 F__law_no_words) :=
  fn_mir (N := N__law_no_words) (m := m__law_no_words) T.F__law_no_words sc__law_no_words fun cdv A outer s H E B hr => by
    have nd := sc__law_no_words.nd
    have hu65 := hr_65 hr
    have hu64 := hr_64 hr
    have hu1 := hr_1 hr
    exact (js_cons (js_set 4 nd rfl (by first | exact .inl rfl | exact .inr rfl | exact .inr (.inl rfl) | exact .inr (.inr rfl)) (je_call (ok__law_draws T) (hr.mono (by decide)) (L2N.takes_of rfl rfl rfl rfl) (by rfl) T.g__law_draws T.F__law_draws.kp T.b__law_draws (argN_cons (argN_cons (argN_cons argN_nil))) (ja_cons (je_var rfl 0) (ja_cons (je_var rfl 1) (ja_cons (je_lst (ja_cons (je_int) (ja_cons (je_int) (ja_cons (je_int) (ja_nil))))) (ja_nil)))))) (js_cons (js_set 5 nd rfl (by first | exact .inl rfl | exact .inr rfl | exact .inr (.inl rfl) | exact .inr (.inr rfl)) (je_bin op_mod fit_mod (je_callTy call_int1 fit_int (by rfl) T.n_int (by decide +kernel) (ja_cons (je_item rfl hu1 (je_var rfl 4) (je_int)) (ja_nil))) (je_bin op_addA fit_add (je_int) (je_callB call_lenA fit_len (by rfl) T.n_len (by decide +kernel) (ja_cons (je_var rfl 2) (ja_nil)))))) (js_cons (js_if (jt_cmp op_ltA fit_lt (je_item rfl hu1 (je_var rfl 4) (je_int)) (je_int)) (js_cons (js_set 6 nd rfl (by first | exact .inl rfl | exact .inr rfl | exact .inr (.inl rfl) | exact .inr (.inr rfl)) (je_item rfl hu1 (je_lst (ja_cons (je_tup (ja_cons (je_var rfl 3) (ja_cons (je_int) (ja_nil)))) (ja_cons (je_tup (ja_cons (je_var rfl 3) (ja_cons (je_bin op_addA fit_add (je_int) (je_item rfl hu1 (je_var rfl 4) (je_int))) (ja_nil)))) (ja_cons (je_tup (ja_cons (je_var rfl 3) (ja_cons (je_bl) (ja_nil)))) (ja_cons (je_tup (ja_cons (je_var rfl 3) (ja_cons (je_bin op_sub fit_sub (je_un un_neg fit_neg (je_int)) (je_item rfl hu1 (je_var rfl 4) (je_int))) (ja_nil)))) (ja_cons (je_tup (ja_cons (je_var rfl 3) (ja_cons (je_int) (ja_cons (je_int) (ja_nil))))) (ja_nil))))))) (je_item rfl hu1 (je_var rfl 4) (je_int)))) (js_one (js_ret (je_bin op_addA fit_add (je_callTy call_tuple_of fit_tuple (by rfl) T.n_tuple (by decide +kernel) (ja_cons (je_lc (tg := (.nm 7)) (own := [("old", 7)]) (by rfl) nd rfl (je_var rfl 2) (blkOk_by (N := N__law_no_words) (sc := (defScope s__law_no_words)) (own := [("old", 7)]) (by decide +kernel)) ⟨fun _ _ _ _ _ => pg_name (i := 7) nd rfl (by first | exact .inl rfl | exact .inr rfl | exact .inr (.inl rfl) | exact .inr (.inr rfl)), fun _ _ _ _ _ _ _ => pts_one (jt_cmp (op_neA hu64) fit_ne (je_item rfl hu1 (je_var rfl 7) (je_int)) (je_var rfl 3)), fun _ _ _ _ _ _ _ => je_var rfl 7⟩ (by decide)) (ja_nil))) (je_tup (ja_cons (je_var rfl 6) (ja_nil))))))) (js_nil)) (js_cons (js_if (jt_cmp op_ltA fit_lt (je_item rfl hu1 (je_var rfl 4) (je_int)) (je_int)) (js_cons (js_set 6 nd rfl (by first | exact .inl rfl | exact .inr rfl | exact .inr (.inl rfl) | exact .inr (.inr rfl)) (je_item rfl hu1 (je_lst (ja_cons (je_tup (ja_cons (je_str) (ja_cons (je_int) (ja_nil)))) (ja_cons (je_tup (ja_cons (je_str) (ja_cons (je_int) (ja_nil)))) (ja_cons (je_tup (ja_cons (je_str) (ja_cons (je_int) (ja_nil)))) (ja_cons (je_tup (ja_cons (je_str) (ja_cons (je_int) (ja_nil)))) (ja_cons (je_tup (ja_cons (je_str) (ja_cons (je_int) (ja_nil)))) (ja_nil))))))) (je_bin op_sub fit_sub (je_item rfl hu1 (je_var rfl 4) (je_int)) (je_int)))) (js_one (js_ret (je_bin op_addA fit_add (je_bin op_addA fit_add (je_slH rfl (je_var rfl 2) (je_var rfl 5)) (je_tup (ja_cons (je_var rfl 6) (ja_nil)))) (je_slL rfl (je_var rfl 2) (je_var rfl 5)))))) (js_nil)) (js_cons (js_if (jt_cmp op_ltA fit_lt (je_item rfl hu1 (je_var rfl 4) (je_int)) (je_int)) (js_one (js_ret (je_if (jt_cmp (op_eqA hu64) fit_eq (je_item rfl hu1 (je_var rfl 4) (je_int)) (je_int)) (je_tup (ja_cons (je_tup (ja_cons (je_str) (ja_cons (je_int) (ja_nil)))) (ja_cons (je_tup (ja_cons (je_str) (ja_cons (je_bin op_addA fit_add (je_int) (je_item rfl hu1 (je_var rfl 4) (je_int))) (ja_nil)))) (ja_nil)))) (je_tup (ja_cons (je_tup (ja_cons (je_str) (ja_cons (je_int) (ja_nil)))) (ja_cons (je_tup (ja_cons (je_str) (ja_cons (je_bin op_addA fit_add (je_int) (je_item rfl hu1 (je_var rfl 4) (je_int))) (ja_nil)))) (ja_nil))))))) (js_nil)) (js_one (js_ret (je_item rfl hu1 (je_lst (ja_cons (je_callTy call_list_of fit_list (by rfl) T.n_list (by decide +kernel) (ja_cons (je_var rfl 2) (ja_nil))) (ja_cons (je_non) (ja_cons (je_tup (ja_cons (je_var rfl 3) (ja_nil))) (ja_cons (je_tup (ja_cons (je_lst (ja_cons (je_var rfl 3) (ja_cons (je_int) (ja_nil)))) (ja_nil))) (ja_nil)))))) (je_bin op_sub fit_sub (je_item rfl hu1 (je_var rfl 4) (je_int)) (je_int))))))))))
theorem ok__law_is_refused (T : Top K mg) : FnOk P w K mg base (L2N.CX P w) 13 T.f__law_is_refused T.fd__law_is_refused ["words", "name"] (spF K mg 2 F__law_is_refused) :=
  fn_mir (N := N__law_is_refused) (m := m__law_is_refused) T.F__law_is_refused sc__law_is_refused fun cdv A outer s H E B hr => by
    have nd := sc__law_is_refused.nd
    have hu65 := hr_65 hr
    have hu64 := hr_64 hr
    have hu1 := hr_1 hr
    exact (js_cons (js_forR1 (tg := (.nm 2)) (passes_of rfl) (by rfl) rfl (by rfl) T.n_range (ja_cons (je_int) (ja_nil)) (pg_name (i := 2) nd rfl (by first | exact .inl rfl | exact .inr rfl | exact .inr (.inl rfl) | exact .inr (.inr rfl))) (js_less (w2 := [3]) (js_one (js_try (i := 3) (kn := [("InvalidWords", true)]) (mh := fun xc => mIfS (mAndT (mB (mIsi .tTuple (mVar 0))) (mAndT (mNotT (mB (mIsi .tList (mOp2 dIx (mVar 0) (mC (.int 0)))))) (mNotT (mB (mCall (F__law_equal 12) (mCons (mXf "InvalidWords" 3 "value" xc) (mCons (mVar 0) (mNil)))))))) (mRet (mC (.bool false))) (mNx)) rfl rfl nd rfl rfl ⟨rfl, by decide, .inl T.g_InvalidWords⟩ (L2N.takes_of rfl rfl rfl rfl) rfl (ex_InvalidWords T) (fun W pn xe tk hp => js_cons (js_if (jt_cmp (op_eqA hu64) fit_eq (je_var rfl 2) (je_int)) (js_one (js_expr (je_call (ok_word_in T) (hr.mono (by decide)) tk (by rfl) T.g_word_in T.F_word_in.kp T.b_word_in (argN_cons (argN_cons argN_nil)) (ja_cons (je_var rfl 0) (ja_cons (je_var rfl 1) (ja_nil)))))) (js_one (js_expr (je_call (ok_words_with T) (hr.mono (by decide)) tk (by rfl) T.g_words_with T.F_words_with.kp T.b_words_with (argN_cons (argN_cons (argN_cons argN_nil))) (ja_cons (je_var rfl 0) (ja_cons (je_var rfl 1) (ja_cons (je_int) (ja_nil)))))))) (js_one (js_ret (je_bl)))) (fun a oe cls d pn xc H0 hz hf hx => js_one (js_if ((jw_and (jt_val (je_isi .tTuple rfl (je_var rfl 0) (by rfl) (by rfl) T.n_isinstance (by rfl) T.n_tuple (by decide +kernel))) (jw_and (jt_not (jt_val (je_isi .tList rfl (je_item rfl hu1 (je_var rfl 0) (je_int)) (by rfl) (by rfl) T.n_isinstance (by rfl) T.n_list (by decide +kernel)))) (jw_and1 (jt_not (jt_val (je_callH (okH__law_equal T 12) (L2H.roomH_mark (hr.mono (by decide)) _) (hot_suite hz hf) takes_held (by rfl) T.g__law_equal T.F__law_equal.kp T.b__law_equal (argN_cons (argN_cons argN_nil)) (ja_cons (je_xf 3 T.X_InvalidWords T.no_InvalidWords_value hz hf hx T.g_InvalidWords rfl (by first | exact .inl rfl | exact .inr rfl | exact .inr (.inl rfl) | exact .inr (.inr rfl))) (ja_cons (je_var rfl 0) (ja_nil))))))))).pt) (js_one (js_ret (je_bl))) (js_nil))))) (by decide))) (js_one (js_ret (je_bl))))
theorem ok_law (T : Top K mg) : FnOk P w K mg base (L2N.CX P w) 14 T.f_law T.fd_law ["script"] (spF K mg 1 F_law) :=
  fn_mir (N := N_law) (m := m_law) T.F_law sc_law fun cdv A outer s H E B hr => by
    have nd := sc_law.nd
    have hu65 := hr_65 hr
    have hu64 := hr_64 hr
    have hu1 := hr_1 hr
    exact (js_cons (js_set 1 nd rfl (by first | exact .inl rfl | exact .inr rfl | exact .inr (.inl rfl) | exact .inr (.inr rfl)) (je_call (ok__law_pool T) (hr.mono (by decide)) (L2N.takes_of rfl rfl rfl rfl) (by rfl) T.g__law_pool T.F__law_pool.kp T.b__law_pool (argN_cons (argN_cons (argN_cons argN_nil))) (ja_cons (je_var rfl 0) (ja_cons (je_int) (ja_cons (je_int) (ja_nil)))))) (js_cons (js_set 2 nd rfl (by first | exact .inl rfl | exact .inr rfl | exact .inr (.inl rfl) | exact .inr (.inr rfl)) (je_call (ok__law_words T) (hr.mono (by decide)) (L2N.takes_of rfl rfl rfl rfl) (by rfl) T.g__law_words T.F__law_words.kp T.b__law_words (argN_cons (argN_cons (argN_cons argN_nil))) (ja_cons (je_var rfl 0) (ja_cons (je_int) (ja_cons (je_slH rfl (je_var rfl 1) (je_int)) (ja_nil)))))) (js_cons (js_if ((jw_or (jt_not (jt_val (je_call (ok__law_equal T 12) (hr.mono (by decide)) (L2N.takes_of rfl rfl rfl rfl) (by rfl) T.g__law_equal T.F__law_equal.kp T.b__law_equal (argN_cons (argN_cons argN_nil)) (ja_cons (je_gl (by rfl) T.c_PRIME (by exact ⟨_, rfl⟩) (fun _ => .int _)) (ja_cons (je_int) (ja_nil)))))) (jw_or (jt_cmp op_nisA fit_nis (je_call (ok_is_words T) (hr.mono (by decide)) (L2N.takes_of rfl rfl rfl rfl) (by rfl) T.g_is_words T.F_is_words.kp T.b_is_words (argN_cons argN_nil) (ja_cons (je_var rfl 2) (ja_nil))) (je_bl)) (jw_or1 (jt_cmp op_nisA fit_nis (je_callKw (ok_is_words T) (hr.mono (by decide)) (L2N.takes_of rfl rfl rfl rfl) (by rfl) T.g_is_words T.F_is_words.kp T.kb_is_words (argN_cons argN_nil) (jk_cons (je_tup (ja_nil)) (jk_nil))) (je_bl))))).pt) (js_one (js_ret (je_bl))) (js_nil)) (js_cons (js_set 3 nd rfl (by first | exact .inl rfl | exact .inr rfl | exact .inr (.inl rfl) | exact .inr (.inr rfl)) (je_call (ok__law_draws T) (hr.mono (by decide)) (L2N.takes_of rfl rfl rfl rfl) (by rfl) T.g__law_draws T.F__law_draws.kp T.b__law_draws (argN_cons (argN_cons (argN_cons argN_nil))) (ja_cons (je_var rfl 0) (ja_cons (je_int) (ja_cons (je_lst (ja_cons (je_int) (ja_nil))) (ja_nil)))))) (js_cons (js_set 4 nd rfl (by first | exact .inl rfl | exact .inr rfl | exact .inr (.inl rfl) | exact .inr (.inr rfl)) (je_item rfl hu1 (je_var rfl 1) (je_item rfl hu1 (je_var rfl 3) (je_int)))) (js_cons (js_set 5 nd rfl (by first | exact .inl rfl | exact .inr rfl | exact .inr (.inl rfl) | exact .inr (.inr rfl)) (je_call (ok__law_big T) (hr.mono (by decide)) (L2N.takes_of rfl rfl rfl rfl) (by rfl) T.g__law_big T.F__law_big.kp T.b__law_big (argN_cons (argN_cons argN_nil)) (ja_cons (je_var rfl 0) (ja_cons (je_int) (ja_nil))))) (js_cons (js_for (tg := (.nm 6)) (passes_of rfl) (by rfl) rfl (je_var rfl 1) (pg_name (i := 6) nd rfl (by first | exact .inl rfl | exact .inr rfl | exact .inr (.inl rfl) | exact .inr (.inr rfl))) (js_less (w2 := [7, 8, 9, 10]) (js_cons (js_set 7 nd rfl (by first | exact .inl rfl | exact .inr rfl | exact .inr (.inl rfl) | exact .inr (.inr rfl)) (je_int)) (js_cons (js_for (tg := (.nm 8)) (passes_of rfl) (by rfl) rfl (je_var rfl 2) (pg_name (i := 8) nd rfl (by first | exact .inl rfl | exact .inr rfl | exact .inr (.inl rfl) | exact .inr (.inr rfl))) (js_less (w2 := [7]) (js_one (js_if (jt_cmp (op_eqA hu64) fit_eq (je_item rfl hu1 (je_var rfl 8) (je_int)) (je_var rfl 6)) (js_one (js_set 7 nd rfl (by first | exact .inl rfl | exact .inr rfl | exact .inr (.inl rfl) | exact .inr (.inr rfl)) (je_item rfl hu1 (je_var rfl 8) (je_int)))) (js_nil))) (by decide))) (js_cons (js_if (jt_not (jt_val (je_call (ok__law_equal T 12) (hr.mono (by decide)) (L2N.takes_of rfl rfl rfl rfl) (by rfl) T.g__law_equal T.F__law_equal.kp T.b__law_equal (argN_cons (argN_cons argN_nil)) (ja_cons (je_call (ok_word_in T) (hr.mono (by decide)) (L2N.takes_of rfl rfl rfl rfl) (by rfl) T.g_word_in T.F_word_in.kp T.b_word_in (argN_cons (argN_cons argN_nil)) (ja_cons (je_var rfl 2) (ja_cons (je_var rfl 6) (ja_nil)))) (ja_cons (je_var rfl 7) (ja_nil)))))) (js_one (js_ret (je_bl))) (js_nil)) (js_one (js_for (tg := (.nm 9)) (passes_of rfl) (by rfl) rfl (je_lst (ja_cons (je_var rfl 5) (ja_cons (je_int) (ja_nil)))) (pg_name (i := 9) nd rfl (by first | exact .inl rfl | exact .inr rfl | exact .inr (.inl rfl) | exact .inr (.inr rfl))) (js_less (w2 := [10]) (js_cons (js_set 10 nd rfl (by first | exact .inl rfl | exact .inr rfl | exact .inr (.inl rfl) | exact .inr (.inr rfl)) (je_callKw (ok_words_with T) (hr.mono (by decide)) (L2N.takes_of rfl rfl rfl rfl) (by rfl) T.g_words_with T.F_words_with.kp T.kb_words_with (argN_cons (argN_cons (argN_cons argN_nil))) (jk_cons (je_var rfl 2) (jk_cons (je_var rfl 6) (jk_cons (je_var rfl 9) (jk_nil)))))) (js_one (js_if ((jw_or (jt_not (jt_val (je_call (ok__law_equal T 12) (hr.mono (by decide)) (L2N.takes_of rfl rfl rfl rfl) (by rfl) T.g__law_equal T.F__law_equal.kp T.b__law_equal (argN_cons (argN_cons argN_nil)) (ja_cons (je_var rfl 10) (ja_cons (je_call (ok__law_with T) (hr.mono (by decide)) (L2N.takes_of rfl rfl rfl rfl) (by rfl) T.g__law_with T.F__law_with.kp T.b__law_with (argN_cons (argN_cons (argN_cons argN_nil))) (ja_cons (je_var rfl 2) (ja_cons (je_var rfl 6) (ja_cons (je_var rfl 9) (ja_nil))))) (ja_nil)))))) (jw_or1 (jt_cmp op_nisA fit_nis (je_call (ok_is_words T) (hr.mono (by decide)) (L2N.takes_of rfl rfl rfl rfl) (by rfl) T.g_is_words T.F_is_words.kp T.b_is_words (argN_cons argN_nil) (ja_cons (je_var rfl 10) (ja_nil))) (je_bl)))).pt) (js_one (js_ret (je_bl))) (js_nil)))) (by decide))))))) (by decide))) (js_cons (js_set 11 nd rfl (by first | exact .inl rfl | exact .inr rfl | exact .inr (.inl rfl) | exact .inr (.inr rfl)) (je_call (ok__law_big T) (hr.mono (by decide)) (L2N.takes_of rfl rfl rfl rfl) (by rfl) T.g__law_big T.F__law_big.kp T.b__law_big (argN_cons (argN_cons argN_nil)) (ja_cons (je_var rfl 0) (ja_cons (je_int) (ja_nil))))) (js_cons (js_set 12 nd rfl (by first | exact .inl rfl | exact .inr rfl | exact .inr (.inl rfl) | exact .inr (.inr rfl)) (je_call (ok__law_big T) (hr.mono (by decide)) (L2N.takes_of rfl rfl rfl rfl) (by rfl) T.g__law_big T.F__law_big.kp T.b__law_big (argN_cons (argN_cons argN_nil)) (ja_cons (je_var rfl 0) (ja_cons (je_int) (ja_nil))))) (js_cons (js_for (tg := (.nm 13)) (passes_of rfl) (by rfl) rfl (je_lst (ja_cons (je_str) (ja_cons (je_str) (ja_cons (je_str) (ja_cons (je_str) (ja_cons (je_str) (ja_cons (je_str) (ja_cons (je_str) (ja_nil))))))))) (pg_name (i := 13) nd rfl (by first | exact .inl rfl | exact .inr rfl | exact .inr (.inl rfl) | exact .inr (.inr rfl))) (js_less (w2 := [8]) (js_one (js_for (tg := (.nm 8)) (passes_of rfl) (by rfl) rfl (je_lst (ja_cons (je_tup (ja_cons (je_var rfl 11) (ja_cons (je_var rfl 12) (ja_nil)))) (ja_cons (je_tup (ja_cons (je_var rfl 12) (ja_cons (je_var rfl 11) (ja_nil)))) (ja_cons (je_tup (ja_cons (je_var rfl 11) (ja_cons (je_var rfl 11) (ja_nil)))) (ja_nil))))) (pg_name (i := 8) nd rfl (by first | exact .inl rfl | exact .inr rfl | exact .inr (.inl rfl) | exact .inr (.inr rfl))) (js_less (w2 := []) (js_one (js_if (jt_not (jt_val (je_call (ok__law_equal T 12) (hr.mono (by decide)) (L2N.takes_of rfl rfl rfl rfl) (by rfl) T.g__law_equal T.F__law_equal.kp T.b__law_equal (argN_cons (argN_cons argN_nil)) (ja_cons (je_call (ok_operated T) (hr.mono (by decide)) (L2N.takes_of rfl rfl rfl rfl) (by rfl) T.g_operated T.F_operated.kp T.b_operated (argN_cons (argN_cons (argN_cons argN_nil))) (ja_cons (je_var rfl 13) (ja_cons (je_item rfl hu1 (je_var rfl 8) (je_int)) (ja_cons (je_item rfl hu1 (je_var rfl 8) (je_int)) (ja_nil))))) (ja_cons (je_call (ok__law_operated T) (hr.mono (by decide)) (L2N.takes_of rfl rfl rfl rfl) (by rfl) T.g__law_operated T.F__law_operated.kp T.b__law_operated (argN_cons (argN_cons (argN_cons argN_nil))) (ja_cons (je_var rfl 13) (ja_cons (je_item rfl hu1 (je_var rfl 8) (je_int)) (ja_cons (je_item rfl hu1 (je_var rfl 8) (je_int)) (ja_nil))))) (ja_nil)))))) (js_one (js_ret (je_bl))) (js_nil))) (by decide)))) (by decide))) (js_cons (js_set 14 nd rfl (by first | exact .inl rfl | exact .inr rfl | exact .inr (.inl rfl) | exact .inr (.inr rfl)) (je_call (ok__law_no_words T) (hr.mono (by decide)) (L2N.takes_of rfl rfl rfl rfl) (by rfl) T.g__law_no_words T.F__law_no_words.kp T.b__law_no_words (argN_cons (argN_cons (argN_cons (argN_cons argN_nil)))) (ja_cons (je_var rfl 0) (ja_cons (je_int) (ja_cons (je_var rfl 2) (ja_cons (je_var rfl 4) (ja_nil))))))) (js_one (js_ret (je_and (je_cmp op_isA fit_is (je_call (ok_is_words T) (hr.mono (by decide)) (L2N.takes_of rfl rfl rfl rfl) (by rfl) T.g_is_words T.F_is_words.kp T.b_is_words (argN_cons argN_nil) (ja_cons (je_var rfl 14) (ja_nil))) (je_bl)) (je_and (je_cmp op_isA fit_is (je_call (ok_is_words T) (hr.mono (by decide)) (L2N.takes_of rfl rfl rfl rfl) (by rfl) T.g_is_words T.F_is_words.kp T.b_is_words (argN_cons argN_nil) (ja_cons (je_bin op_addA fit_add (je_var rfl 2) (je_tup (ja_cons (je_tup (ja_cons (je_str) (ja_cons (je_int) (ja_nil)))) (ja_nil)))) (ja_nil))) (je_bl)) (je_one (je_call (ok__law_is_refused T) (hr.mono (by decide)) (L2N.takes_of rfl rfl rfl rfl) (by rfl) T.g__law_is_refused T.F__law_is_refused.kp T.b__law_is_refused (argN_cons (argN_cons argN_nil)) (ja_cons (je_var rfl 14) (ja_cons (je_var rfl 4) (ja_nil))))))))))))))))))))
end
end K03

namespace K03
open PySem PySem.Spec PyProof.Rows L2
noncomputable def mkTop {K : Kf} {h : Heap} {mg : Str → Option Value} (X : K.In h) (G : h.Ns mainGlobals mg)
    {a_is_integer : Addr} {od_is_integer an_is_integer : Option Addr} {sl_is_integer : Array (Option Value)} {oc_is_integer kV_is_integer dc_is_integer pm_is_integer cd_is_integer ct_is_integer : Value}
    {a_is_word : Addr} {od_is_word an_is_word : Option Addr} {sl_is_word : Array (Option Value)} {oc_is_word kV_is_word dc_is_word pm_is_word cd_is_word ct_is_word : Value}
    {a_is_name : Addr} {od_is_name an_is_name : Option Addr} {sl_is_name : Array (Option Value)} {oc_is_name kV_is_name dc_is_name pm_is_name cd_is_name ct_is_name : Value}
    {a_is_value : Addr} {od_is_value an_is_value : Option Addr} {sl_is_value : Array (Option Value)} {oc_is_value kV_is_value dc_is_value pm_is_value cd_is_value ct_is_value : Value}
    {a_is_entry : Addr} {od_is_entry an_is_entry : Option Addr} {sl_is_entry : Array (Option Value)} {oc_is_entry kV_is_entry dc_is_entry pm_is_entry cd_is_entry ct_is_entry : Value}
    {a_is_words : Addr} {od_is_words an_is_words : Option Addr} {sl_is_words : Array (Option Value)} {oc_is_words kV_is_words dc_is_words pm_is_words cd_is_words ct_is_words : Value}
    {a_table_of : Addr} {od_table_of an_table_of : Option Addr} {sl_table_of : Array (Option Value)} {oc_table_of kV_table_of dc_table_of pm_table_of cd_table_of ct_table_of : Value}
    {a_words_from : Addr} {od_words_from an_words_from : Option Addr} {sl_words_from : Array (Option Value)} {oc_words_from kV_words_from dc_words_from pm_words_from cd_words_from ct_words_from : Value}
    {a_word_in : Addr} {od_word_in an_word_in : Option Addr} {sl_word_in : Array (Option Value)} {oc_word_in kV_word_in dc_word_in pm_word_in cd_word_in ct_word_in : Value}
    {a_words_with : Addr} {od_words_with an_words_with : Option Addr} {sl_words_with : Array (Option Value)} {oc_words_with kV_words_with dc_words_with pm_words_with cd_words_with ct_words_with : Value}
    {a_operated : Addr} {od_operated an_operated : Option Addr} {sl_operated : Array (Option Value)} {oc_operated kV_operated dc_operated pm_operated cd_operated ct_operated : Value}
    {a__law_draws : Addr} {od__law_draws an__law_draws : Option Addr} {sl__law_draws : Array (Option Value)} {oc__law_draws kV__law_draws dc__law_draws pm__law_draws cd__law_draws ct__law_draws : Value}
    {a__law_equal : Addr} {od__law_equal an__law_equal : Option Addr} {sl__law_equal : Array (Option Value)} {oc__law_equal kV__law_equal dc__law_equal pm__law_equal cd__law_equal ct__law_equal : Value}
    {a__law_pool : Addr} {od__law_pool an__law_pool : Option Addr} {sl__law_pool : Array (Option Value)} {oc__law_pool kV__law_pool dc__law_pool pm__law_pool cd__law_pool ct__law_pool : Value}
    {a__law_words : Addr} {od__law_words an__law_words : Option Addr} {sl__law_words : Array (Option Value)} {oc__law_words kV__law_words dc__law_words pm__law_words cd__law_words ct__law_words : Value}
    {a__law_operated : Addr} {od__law_operated an__law_operated : Option Addr} {sl__law_operated : Array (Option Value)} {oc__law_operated kV__law_operated dc__law_operated pm__law_operated cd__law_operated ct__law_operated : Value}
    {a__law_big : Addr} {od__law_big an__law_big : Option Addr} {sl__law_big : Array (Option Value)} {oc__law_big kV__law_big dc__law_big pm__law_big cd__law_big ct__law_big : Value}
    {a__law_with : Addr} {od__law_with an__law_with : Option Addr} {sl__law_with : Array (Option Value)} {oc__law_with kV__law_with dc__law_with pm__law_with cd__law_with ct__law_with : Value}
    {a__law_no_words : Addr} {od__law_no_words an__law_no_words : Option Addr} {sl__law_no_words : Array (Option Value)} {oc__law_no_words kV__law_no_words dc__law_no_words pm__law_no_words cd__law_no_words ct__law_no_words : Value}
    {a__law_is_refused : Addr} {od__law_is_refused an__law_is_refused : Option Addr} {sl__law_is_refused : Array (Option Value)} {oc__law_is_refused kV__law_is_refused dc__law_is_refused pm__law_is_refused cd__law_is_refused ct__law_is_refused : Value}
    {a_law : Addr} {od_law an_law : Option Addr} {sl_law : Array (Option Value)} {oc_law kV_law dc_law pm_law cd_law ct_law : Value}
    {t_LONGEST_WORD : Tok}
    {e_NO_NAMES : Addr} {ed_NO_NAMES : Option Addr} {es_NO_NAMES : Array (Option Value)} {en_NO_NAMES : Nat} {e_NO_NAMES_0 : Tok} {e_NO_NAMES_1 : Tok} {e_NO_NAMES_2 : Tok} {e_NO_NAMES_3 : Tok} {e_NO_NAMES_4 : Tok} {e_NO_NAMES_5 : Tok} {e_NO_NAMES_6 : Tok} {e_NO_NAMES_7 : Tok}
    {t_PRIME : Tok}
    {C_InvalidWords I_InvalidWords : Addr} {nm_InvalidWords q_InvalidWords : Str} {N_InvalidWords : Addr} {bs_InvalidWords bm_InvalidWords : List Value} {sn_InvalidWords : List Str} {su_InvalidWords : List Value} {ab_InvalidWords : Bool} {co_InvalidWords : Option Bool} {dd_InvalidWords : Option Addr} {m0_InvalidWords m1_InvalidWords m2_InvalidWords m3_InvalidWords m5_InvalidWords : Option Value} {od_InvalidWords an_InvalidWords : Option Addr} {sl_InvalidWords : Array (Option Value)} {oc_InvalidWords kV_InvalidWords dc_InvalidWords pm_InvalidWords cd_InvalidWords ct_InvalidWords : Value}
    (p_is_integer : W.nsIn K mainGlobals "is_integer" = some (some (.ref a_is_integer)))
    (l_is_integer : K.lookup a_is_integer = some ⟨oc_is_integer, od_is_integer, .func (W.fnOf "is_integer" "is_integer" (defArgs s_is_integer) (defBody s_is_integer) (defScope s_is_integer) .none kV_is_integer dc_is_integer pm_is_integer an_is_integer cd_is_integer ct_is_integer), sl_is_integer⟩)
    (c_is_integer : W.codeIn K cd_is_integer "is_integer" = true)
    (k_is_integer : W.keepIn K (.ref a_is_integer) = true)
    (p_is_word : W.nsIn K mainGlobals "is_word" = some (some (.ref a_is_word)))
    (l_is_word : K.lookup a_is_word = some ⟨oc_is_word, od_is_word, .func (W.fnOf "is_word" "is_word" (defArgs s_is_word) (defBody s_is_word) (defScope s_is_word) .none kV_is_word dc_is_word pm_is_word an_is_word cd_is_word ct_is_word), sl_is_word⟩)
    (c_is_word : W.codeIn K cd_is_word "is_word" = true)
    (k_is_word : W.keepIn K (.ref a_is_word) = true)
    (p_is_name : W.nsIn K mainGlobals "is_name" = some (some (.ref a_is_name)))
    (l_is_name : K.lookup a_is_name = some ⟨oc_is_name, od_is_name, .func (W.fnOf "is_name" "is_name" (defArgs s_is_name) (defBody s_is_name) (defScope s_is_name) .none kV_is_name dc_is_name pm_is_name an_is_name cd_is_name ct_is_name), sl_is_name⟩)
    (c_is_name : W.codeIn K cd_is_name "is_name" = true)
    (k_is_name : W.keepIn K (.ref a_is_name) = true)
    (p_is_value : W.nsIn K mainGlobals "is_value" = some (some (.ref a_is_value)))
    (l_is_value : K.lookup a_is_value = some ⟨oc_is_value, od_is_value, .func (W.fnOf "is_value" "is_value" (defArgs s_is_value) (defBody s_is_value) (defScope s_is_value) .none kV_is_value dc_is_value pm_is_value an_is_value cd_is_value ct_is_value), sl_is_value⟩)
    (c_is_value : W.codeIn K cd_is_value "is_value" = true)
    (k_is_value : W.keepIn K (.ref a_is_value) = true)
    (p_is_entry : W.nsIn K mainGlobals "is_entry" = some (some (.ref a_is_entry)))
    (l_is_entry : K.lookup a_is_entry = some ⟨oc_is_entry, od_is_entry, .func (W.fnOf "is_entry" "is_entry" (defArgs s_is_entry) (defBody s_is_entry) (defScope s_is_entry) .none kV_is_entry dc_is_entry pm_is_entry an_is_entry cd_is_entry ct_is_entry), sl_is_entry⟩)
    (c_is_entry : W.codeIn K cd_is_entry "is_entry" = true)
    (k_is_entry : W.keepIn K (.ref a_is_entry) = true)
    (p_is_words : W.nsIn K mainGlobals "is_words" = some (some (.ref a_is_words)))
    (l_is_words : K.lookup a_is_words = some ⟨oc_is_words, od_is_words, .func (W.fnOf "is_words" "is_words" (defArgs s_is_words) (defBody s_is_words) (defScope s_is_words) .none kV_is_words dc_is_words pm_is_words an_is_words cd_is_words ct_is_words), sl_is_words⟩)
    (c_is_words : W.codeIn K cd_is_words "is_words" = true)
    (k_is_words : W.keepIn K (.ref a_is_words) = true)
    (p_table_of : W.nsIn K mainGlobals "table_of" = some (some (.ref a_table_of)))
    (l_table_of : K.lookup a_table_of = some ⟨oc_table_of, od_table_of, .func (W.fnOf "table_of" "table_of" (defArgs s_table_of) (defBody s_table_of) (defScope s_table_of) .none kV_table_of dc_table_of pm_table_of an_table_of cd_table_of ct_table_of), sl_table_of⟩)
    (c_table_of : W.codeIn K cd_table_of "table_of" = true)
    (k_table_of : W.keepIn K (.ref a_table_of) = true)
    (p_words_from : W.nsIn K mainGlobals "words_from" = some (some (.ref a_words_from)))
    (l_words_from : K.lookup a_words_from = some ⟨oc_words_from, od_words_from, .func (W.fnOf "words_from" "words_from" (defArgs s_words_from) (defBody s_words_from) (defScope s_words_from) .none kV_words_from dc_words_from pm_words_from an_words_from cd_words_from ct_words_from), sl_words_from⟩)
    (c_words_from : W.codeIn K cd_words_from "words_from" = true)
    (k_words_from : W.keepIn K (.ref a_words_from) = true)
    (p_word_in : W.nsIn K mainGlobals "word_in" = some (some (.ref a_word_in)))
    (l_word_in : K.lookup a_word_in = some ⟨oc_word_in, od_word_in, .func (W.fnOf "word_in" "word_in" (defArgs s_word_in) (defBody s_word_in) (defScope s_word_in) .none kV_word_in dc_word_in pm_word_in an_word_in cd_word_in ct_word_in), sl_word_in⟩)
    (c_word_in : W.codeIn K cd_word_in "word_in" = true)
    (k_word_in : W.keepIn K (.ref a_word_in) = true)
    (p_words_with : W.nsIn K mainGlobals "words_with" = some (some (.ref a_words_with)))
    (l_words_with : K.lookup a_words_with = some ⟨oc_words_with, od_words_with, .func (W.fnOf "words_with" "words_with" (defArgs s_words_with) (defBody s_words_with) (defScope s_words_with) .none kV_words_with dc_words_with pm_words_with an_words_with cd_words_with ct_words_with), sl_words_with⟩)
    (c_words_with : W.codeIn K cd_words_with "words_with" = true)
    (k_words_with : W.keepIn K (.ref a_words_with) = true)
    (p_operated : W.nsIn K mainGlobals "operated" = some (some (.ref a_operated)))
    (l_operated : K.lookup a_operated = some ⟨oc_operated, od_operated, .func (W.fnOf "operated" "operated" (defArgs s_operated) (defBody s_operated) (defScope s_operated) .none kV_operated dc_operated pm_operated an_operated cd_operated ct_operated), sl_operated⟩)
    (c_operated : W.codeIn K cd_operated "operated" = true)
    (k_operated : W.keepIn K (.ref a_operated) = true)
    (p__law_draws : W.nsIn K mainGlobals "_law_draws" = some (some (.ref a__law_draws)))
    (l__law_draws : K.lookup a__law_draws = some ⟨oc__law_draws, od__law_draws, .func (W.fnOf "_law_draws" "_law_draws" (defArgs s__law_draws) (defBody s__law_draws) (defScope s__law_draws) .none kV__law_draws dc__law_draws pm__law_draws an__law_draws cd__law_draws ct__law_draws), sl__law_draws⟩)
    (c__law_draws : W.codeIn K cd__law_draws "_law_draws" = true)
    (k__law_draws : W.keepIn K (.ref a__law_draws) = true)
    (p__law_equal : W.nsIn K mainGlobals "_law_equal" = some (some (.ref a__law_equal)))
    (l__law_equal : K.lookup a__law_equal = some ⟨oc__law_equal, od__law_equal, .func (W.fnOf "_law_equal" "_law_equal" (defArgs s__law_equal) (defBody s__law_equal) (defScope s__law_equal) .none kV__law_equal dc__law_equal pm__law_equal an__law_equal cd__law_equal ct__law_equal), sl__law_equal⟩)
    (c__law_equal : W.codeIn K cd__law_equal "_law_equal" = true)
    (k__law_equal : W.keepIn K (.ref a__law_equal) = true)
    (p__law_pool : W.nsIn K mainGlobals "_law_pool" = some (some (.ref a__law_pool)))
    (l__law_pool : K.lookup a__law_pool = some ⟨oc__law_pool, od__law_pool, .func (W.fnOf "_law_pool" "_law_pool" (defArgs s__law_pool) (defBody s__law_pool) (defScope s__law_pool) .none kV__law_pool dc__law_pool pm__law_pool an__law_pool cd__law_pool ct__law_pool), sl__law_pool⟩)
    (c__law_pool : W.codeIn K cd__law_pool "_law_pool" = true)
    (k__law_pool : W.keepIn K (.ref a__law_pool) = true)
    (p__law_words : W.nsIn K mainGlobals "_law_words" = some (some (.ref a__law_words)))
    (l__law_words : K.lookup a__law_words = some ⟨oc__law_words, od__law_words, .func (W.fnOf "_law_words" "_law_words" (defArgs s__law_words) (defBody s__law_words) (defScope s__law_words) .none kV__law_words dc__law_words pm__law_words an__law_words cd__law_words ct__law_words), sl__law_words⟩)
    (c__law_words : W.codeIn K cd__law_words "_law_words" = true)
    (k__law_words : W.keepIn K (.ref a__law_words) = true)
    (p__law_operated : W.nsIn K mainGlobals "_law_operated" = some (some (.ref a__law_operated)))
    (l__law_operated : K.lookup a__law_operated = some ⟨oc__law_operated, od__law_operated, .func (W.fnOf "_law_operated" "_law_operated" (defArgs s__law_operated) (defBody s__law_operated) (defScope s__law_operated) .none kV__law_operated dc__law_operated pm__law_operated an__law_operated cd__law_operated ct__law_operated), sl__law_operated⟩)
    (c__law_operated : W.codeIn K cd__law_operated "_law_operated" = true)
    (k__law_operated : W.keepIn K (.ref a__law_operated) = true)
    (p__law_big : W.nsIn K mainGlobals "_law_big" = some (some (.ref a__law_big)))
    (l__law_big : K.lookup a__law_big = some ⟨oc__law_big, od__law_big, .func (W.fnOf "_law_big" "_law_big" (defArgs s__law_big) (defBody s__law_big) (defScope s__law_big) .none kV__law_big dc__law_big pm__law_big an__law_big cd__law_big ct__law_big), sl__law_big⟩)
    (c__law_big : W.codeIn K cd__law_big "_law_big" = true)
    (k__law_big : W.keepIn K (.ref a__law_big) = true)
    (p__law_with : W.nsIn K mainGlobals "_law_with" = some (some (.ref a__law_with)))
    (l__law_with : K.lookup a__law_with = some ⟨oc__law_with, od__law_with, .func (W.fnOf "_law_with" "_law_with" (defArgs s__law_with) (defBody s__law_with) (defScope s__law_with) .none kV__law_with dc__law_with pm__law_with an__law_with cd__law_with ct__law_with), sl__law_with⟩)
    (c__law_with : W.codeIn K cd__law_with "_law_with" = true)
    (k__law_with : W.keepIn K (.ref a__law_with) = true)
    (p__law_no_words : W.nsIn K mainGlobals "_law_no_words" = some (some (.ref a__law_no_words)))
    (l__law_no_words : K.lookup a__law_no_words = some ⟨oc__law_no_words, od__law_no_words, .func (W.fnOf "_law_no_words" "_law_no_words" (defArgs s__law_no_words) (defBody s__law_no_words) (defScope s__law_no_words) .none kV__law_no_words dc__law_no_words pm__law_no_words an__law_no_words cd__law_no_words ct__law_no_words), sl__law_no_words⟩)
    (c__law_no_words : W.codeIn K cd__law_no_words "_law_no_words" = true)
    (k__law_no_words : W.keepIn K (.ref a__law_no_words) = true)
    (p__law_is_refused : W.nsIn K mainGlobals "_law_is_refused" = some (some (.ref a__law_is_refused)))
    (l__law_is_refused : K.lookup a__law_is_refused = some ⟨oc__law_is_refused, od__law_is_refused, .func (W.fnOf "_law_is_refused" "_law_is_refused" (defArgs s__law_is_refused) (defBody s__law_is_refused) (defScope s__law_is_refused) .none kV__law_is_refused dc__law_is_refused pm__law_is_refused an__law_is_refused cd__law_is_refused ct__law_is_refused), sl__law_is_refused⟩)
    (c__law_is_refused : W.codeIn K cd__law_is_refused "_law_is_refused" = true)
    (k__law_is_refused : W.keepIn K (.ref a__law_is_refused) = true)
    (p_law : W.nsIn K mainGlobals "law" = some (some (.ref a_law)))
    (l_law : K.lookup a_law = some ⟨oc_law, od_law, .func (W.fnOf "law" "law" (defArgs s_law) (defBody s_law) (defScope s_law) .none kV_law dc_law pm_law an_law cd_law ct_law), sl_law⟩)
    (c_law : W.codeIn K cd_law "law" = true)
    (k_law : W.keepIn K (.ref a_law) = true)
    (z_all : W.nsIn K mainGlobals "all" = some none)
    (z_bool : W.nsIn K mainGlobals "bool" = some none)
    (z_int : W.nsIn K mainGlobals "int" = some none)
    (z_isinstance : W.nsIn K mainGlobals "isinstance" = some none)
    (z_len : W.nsIn K mainGlobals "len" = some none)
    (z_list : W.nsIn K mainGlobals "list" = some none)
    (z_max : W.nsIn K mainGlobals "max" = some none)
    (z_min : W.nsIn K mainGlobals "min" = some none)
    (z_range : W.nsIn K mainGlobals "range" = some none)
    (z_set : W.nsIn K mainGlobals "set" = some none)
    (z_sorted : W.nsIn K mainGlobals "sorted" = some none)
    (z_str : W.nsIn K mainGlobals "str" = some none)
    (z_tuple : W.nsIn K mainGlobals "tuple" = some none)
    (q_LONGEST_WORD : W.nsIn K mainGlobals "LONGEST_WORD" = some (some (.int 8 t_LONGEST_WORD)))
    (q_NO_NAMES : W.nsIn K mainGlobals "NO_NAMES" = some (some (.ref e_NO_NAMES)))
    (r_NO_NAMES : K.lookup e_NO_NAMES = some ⟨.type "tuple", ed_NO_NAMES, .seq #[.str "if" e_NO_NAMES_0, .str "fork" e_NO_NAMES_1, .str "each" e_NO_NAMES_2, .str "fold" e_NO_NAMES_3, .str "start" e_NO_NAMES_4, .str "await" e_NO_NAMES_5, .str "max" e_NO_NAMES_6, .str "min" e_NO_NAMES_7] en_NO_NAMES, es_NO_NAMES⟩)
    (q_PRIME : W.nsIn K mainGlobals "PRIME" = some (some (.int 1000003 t_PRIME)))
    (pC_InvalidWords : W.nsIn K mainGlobals "InvalidWords" = some (some (.ref C_InvalidWords)))
    (xC_InvalidWords : K.lookup C_InvalidWords = some (excClassObj nm_InvalidWords q_InvalidWords C_InvalidWords N_InvalidWords bs_InvalidWords bm_InvalidWords true sn_InvalidWords su_InvalidWords ab_InvalidWords co_InvalidWords dd_InvalidWords m0_InvalidWords m1_InvalidWords m2_InvalidWords m3_InvalidWords m5_InvalidWords "ValueError.__new__"))
    (vC_InvalidWords : HandSPX.refsVE bm_InvalidWords = true)
    (sa_InvalidWords : W.findIn K (.ref C_InvalidWords) "__setattr__" = some (some (.builtin "object.__setattr__")))
    (ga_InvalidWords : W.findIn K (.ref C_InvalidWords) "__getattribute__" = some (some (.builtin "BaseException.__getattribute__")))
    (gg_InvalidWords : W.findIn K (.ref C_InvalidWords) "__getattr__" = some none)
    (nf_InvalidWords_value : W.findIn K (.ref C_InvalidWords) "value" = some none)
    (iC_InvalidWords : W.findIn K (.ref C_InvalidWords) "__init__" = some (some (.ref I_InvalidWords)))
    (tI_InvalidWords : W.typeIn K (.ref I_InvalidWords) = some (.type "function"))
    (lI_InvalidWords : K.lookup I_InvalidWords = some ⟨oc_InvalidWords, od_InvalidWords, .func (W.fnOf "__init__" "InvalidWords.__init__" (defArgs s_InvalidWords_init) (defBody s_InvalidWords_init) (defScope s_InvalidWords_init) .none kV_InvalidWords dc_InvalidWords pm_InvalidWords an_InvalidWords cd_InvalidWords ct_InvalidWords), sl_InvalidWords⟩)
    (cI_InvalidWords : W.codeIn K cd_InvalidWords "InvalidWords.__init__" = true)
    (kI_InvalidWords : W.keepIn K (.ref I_InvalidWords) = true)
    (kC_InvalidWords : W.keepIn K (.ref C_InvalidWords) = true)
    (eC_InvalidWords : W.subIn K (.ref C_InvalidWords) (.type "BaseException") = some true)
    (tC_InvalidWords : W.typeIn K (.ref C_InvalidWords) = some (.type "type"))
    (hC_InvalidWords : W.hasDictIn K C_InvalidWords = true)
    (jC_InvalidWords : W.isClsIn K C_InvalidWords = true)
    (sC_InvalidWords : W.subIn K (.ref C_InvalidWords) (.ref C_InvalidWords) = some true) : Top K mg where
  f_is_integer := a_is_integer
  fd_is_integer := _
  F_is_integer := fun_mk (st := s_is_integer) l_is_integer c_is_integer k_is_integer
  g_is_integer := W.mg_of X G p_is_integer
  b_is_integer := (fun_mk (st := s_is_integer) l_is_integer c_is_integer k_is_integer).binds (ps := ["value"]) fun _ _ _ _ _ _ us hl => match us, hl with | [_], _ => rfl
  kb_is_integer := fun s us _ hl => match us, hl with | [_], _ => .of_eq rfl
  f_is_word := a_is_word
  fd_is_word := _
  F_is_word := fun_mk (st := s_is_word) l_is_word c_is_word k_is_word
  g_is_word := W.mg_of X G p_is_word
  b_is_word := (fun_mk (st := s_is_word) l_is_word c_is_word k_is_word).binds (ps := ["value"]) fun _ _ _ _ _ _ us hl => match us, hl with | [_], _ => rfl
  kb_is_word := fun s us _ hl => match us, hl with | [_], _ => .of_eq rfl
  f_is_name := a_is_name
  fd_is_name := _
  F_is_name := fun_mk (st := s_is_name) l_is_name c_is_name k_is_name
  g_is_name := W.mg_of X G p_is_name
  b_is_name := (fun_mk (st := s_is_name) l_is_name c_is_name k_is_name).binds (ps := ["value"]) fun _ _ _ _ _ _ us hl => match us, hl with | [_], _ => rfl
  kb_is_name := fun s us _ hl => match us, hl with | [_], _ => .of_eq rfl
  f_is_value := a_is_value
  fd_is_value := _
  F_is_value := fun_mk (st := s_is_value) l_is_value c_is_value k_is_value
  g_is_value := W.mg_of X G p_is_value
  b_is_value := (fun_mk (st := s_is_value) l_is_value c_is_value k_is_value).binds (ps := ["value"]) fun _ _ _ _ _ _ us hl => match us, hl with | [_], _ => rfl
  kb_is_value := fun s us _ hl => match us, hl with | [_], _ => .of_eq rfl
  f_is_entry := a_is_entry
  fd_is_entry := _
  F_is_entry := fun_mk (st := s_is_entry) l_is_entry c_is_entry k_is_entry
  g_is_entry := W.mg_of X G p_is_entry
  b_is_entry := (fun_mk (st := s_is_entry) l_is_entry c_is_entry k_is_entry).binds (ps := ["value"]) fun _ _ _ _ _ _ us hl => match us, hl with | [_], _ => rfl
  kb_is_entry := fun s us _ hl => match us, hl with | [_], _ => .of_eq rfl
  f_is_words := a_is_words
  fd_is_words := _
  F_is_words := fun_mk (st := s_is_words) l_is_words c_is_words k_is_words
  g_is_words := W.mg_of X G p_is_words
  b_is_words := (fun_mk (st := s_is_words) l_is_words c_is_words k_is_words).binds (ps := ["value"]) fun _ _ _ _ _ _ us hl => match us, hl with | [_], _ => rfl
  kb_is_words := fun s us _ hl => match us, hl with | [_], _ => .of_eq rfl
  f_table_of := a_table_of
  fd_table_of := _
  F_table_of := fun_mk (st := s_table_of) l_table_of c_table_of k_table_of
  g_table_of := W.mg_of X G p_table_of
  b_table_of := (fun_mk (st := s_table_of) l_table_of c_table_of k_table_of).binds (ps := ["words"]) fun _ _ _ _ _ _ us hl => match us, hl with | [_], _ => rfl
  kb_table_of := fun s us _ hl => match us, hl with | [_], _ => .of_eq rfl
  f_words_from := a_words_from
  fd_words_from := _
  F_words_from := fun_mk (st := s_words_from) l_words_from c_words_from k_words_from
  g_words_from := W.mg_of X G p_words_from
  b_words_from := (fun_mk (st := s_words_from) l_words_from c_words_from k_words_from).binds (ps := ["table"]) fun _ _ _ _ _ _ us hl => match us, hl with | [_], _ => rfl
  kb_words_from := fun s us _ hl => match us, hl with | [_], _ => .of_eq rfl
  f_word_in := a_word_in
  fd_word_in := _
  F_word_in := fun_mk (st := s_word_in) l_word_in c_word_in k_word_in
  g_word_in := W.mg_of X G p_word_in
  b_word_in := (fun_mk (st := s_word_in) l_word_in c_word_in k_word_in).binds (ps := ["words", "name"]) fun _ _ _ _ _ _ us hl => match us, hl with | [_, _], _ => rfl
  kb_word_in := fun s us _ hl => match us, hl with | [_, _], _ => .of_eq rfl
  f_words_with := a_words_with
  fd_words_with := _
  F_words_with := fun_mk (st := s_words_with) l_words_with c_words_with k_words_with
  g_words_with := W.mg_of X G p_words_with
  b_words_with := (fun_mk (st := s_words_with) l_words_with c_words_with k_words_with).binds (ps := ["words", "name", "value"]) fun _ _ _ _ _ _ us hl => match us, hl with | [_, _, _], _ => rfl
  kb_words_with := fun s us _ hl => match us, hl with | [_, _, _], _ => .of_eq rfl
  f_operated := a_operated
  fd_operated := _
  F_operated := fun_mk (st := s_operated) l_operated c_operated k_operated
  g_operated := W.mg_of X G p_operated
  b_operated := (fun_mk (st := s_operated) l_operated c_operated k_operated).binds (ps := ["op", "a", "b"]) fun _ _ _ _ _ _ us hl => match us, hl with | [_, _, _], _ => rfl
  kb_operated := fun s us _ hl => match us, hl with | [_, _, _], _ => .of_eq rfl
  f__law_draws := a__law_draws
  fd__law_draws := _
  F__law_draws := fun_mk (st := s__law_draws) l__law_draws c__law_draws k__law_draws
  g__law_draws := W.mg_of X G p__law_draws
  b__law_draws := (fun_mk (st := s__law_draws) l__law_draws c__law_draws k__law_draws).binds (ps := ["script", "k", "bounds"]) fun _ _ _ _ _ _ us hl => match us, hl with | [_, _, _], _ => rfl
  kb__law_draws := fun s us _ hl => match us, hl with | [_, _, _], _ => .of_eq rfl
  f__law_equal := a__law_equal
  fd__law_equal := _
  F__law_equal := fun_mk (st := s__law_equal) l__law_equal c__law_equal k__law_equal
  g__law_equal := W.mg_of X G p__law_equal
  b__law_equal := (fun_mk (st := s__law_equal) l__law_equal c__law_equal k__law_equal).binds (ps := ["actual", "expected"]) fun _ _ _ _ _ _ us hl => match us, hl with | [_, _], _ => rfl
  kb__law_equal := fun s us _ hl => match us, hl with | [_, _], _ => .of_eq rfl
  f__law_pool := a__law_pool
  fd__law_pool := _
  F__law_pool := fun_mk (st := s__law_pool) l__law_pool c__law_pool k__law_pool
  g__law_pool := W.mg_of X G p__law_pool
  b__law_pool := (fun_mk (st := s__law_pool) l__law_pool c__law_pool k__law_pool).binds (ps := ["script", "k", "size"]) fun _ _ _ _ _ _ us hl => match us, hl with | [_, _, _], _ => rfl
  kb__law_pool := fun s us _ hl => match us, hl with | [_, _, _], _ => .of_eq rfl
  f__law_words := a__law_words
  fd__law_words := _
  F__law_words := fun_mk (st := s__law_words) l__law_words c__law_words k__law_words
  g__law_words := W.mg_of X G p__law_words
  b__law_words := (fun_mk (st := s__law_words) l__law_words c__law_words k__law_words).binds (ps := ["script", "k", "pool"]) fun _ _ _ _ _ _ us hl => match us, hl with | [_, _, _], _ => rfl
  kb__law_words := fun s us _ hl => match us, hl with | [_, _, _], _ => .of_eq rfl
  f__law_operated := a__law_operated
  fd__law_operated := _
  F__law_operated := fun_mk (st := s__law_operated) l__law_operated c__law_operated k__law_operated
  g__law_operated := W.mg_of X G p__law_operated
  b__law_operated := (fun_mk (st := s__law_operated) l__law_operated c__law_operated k__law_operated).binds (ps := ["op", "a", "b"]) fun _ _ _ _ _ _ us hl => match us, hl with | [_, _, _], _ => rfl
  kb__law_operated := fun s us _ hl => match us, hl with | [_, _, _], _ => .of_eq rfl
  f__law_big := a__law_big
  fd__law_big := _
  F__law_big := fun_mk (st := s__law_big) l__law_big c__law_big k__law_big
  g__law_big := W.mg_of X G p__law_big
  b__law_big := (fun_mk (st := s__law_big) l__law_big c__law_big k__law_big).binds (ps := ["script", "k"]) fun _ _ _ _ _ _ us hl => match us, hl with | [_, _], _ => rfl
  kb__law_big := fun s us _ hl => match us, hl with | [_, _], _ => .of_eq rfl
  f__law_with := a__law_with
  fd__law_with := _
  F__law_with := fun_mk (st := s__law_with) l__law_with c__law_with k__law_with
  g__law_with := W.mg_of X G p__law_with
  b__law_with := (fun_mk (st := s__law_with) l__law_with c__law_with k__law_with).binds (ps := ["words", "name", "value"]) fun _ _ _ _ _ _ us hl => match us, hl with | [_, _, _], _ => rfl
  kb__law_with := fun s us _ hl => match us, hl with | [_, _, _], _ => .of_eq rfl
  f__law_no_words := a__law_no_words
  fd__law_no_words := _
  F__law_no_words := fun_mk (st := s__law_no_words) l__law_no_words c__law_no_words k__law_no_words
  g__law_no_words := W.mg_of X G p__law_no_words
  b__law_no_words := (fun_mk (st := s__law_no_words) l__law_no_words c__law_no_words k__law_no_words).binds (ps := ["script", "k", "words", "name"]) fun _ _ _ _ _ _ us hl => match us, hl with | [_, _, _, _], _ => rfl
  kb__law_no_words := fun s us _ hl => match us, hl with | [_, _, _, _], _ => .of_eq rfl
  f__law_is_refused := a__law_is_refused
  fd__law_is_refused := _
  F__law_is_refused := fun_mk (st := s__law_is_refused) l__law_is_refused c__law_is_refused k__law_is_refused
  g__law_is_refused := W.mg_of X G p__law_is_refused
  b__law_is_refused := (fun_mk (st := s__law_is_refused) l__law_is_refused c__law_is_refused k__law_is_refused).binds (ps := ["words", "name"]) fun _ _ _ _ _ _ us hl => match us, hl with | [_, _], _ => rfl
  kb__law_is_refused := fun s us _ hl => match us, hl with | [_, _], _ => .of_eq rfl
  f_law := a_law
  fd_law := _
  F_law := fun_mk (st := s_law) l_law c_law k_law
  g_law := W.mg_of X G p_law
  b_law := (fun_mk (st := s_law) l_law c_law k_law).binds (ps := ["script"]) fun _ _ _ _ _ _ us hl => match us, hl with | [_], _ => rfl
  kb_law := fun s us _ hl => match us, hl with | [_], _ => .of_eq rfl
  n_all := W.mg_none_of X G z_all
  n_bool := W.mg_none_of X G z_bool
  n_int := W.mg_none_of X G z_int
  n_isinstance := W.mg_none_of X G z_isinstance
  n_len := W.mg_none_of X G z_len
  n_list := W.mg_none_of X G z_list
  n_max := W.mg_none_of X G z_max
  n_min := W.mg_none_of X G z_min
  n_range := W.mg_none_of X G z_range
  n_set := W.mg_none_of X G z_set
  n_sorted := W.mg_none_of X G z_sorted
  n_str := W.mg_none_of X G z_str
  n_tuple := W.mg_none_of X G z_tuple
  t_LONGEST_WORD := t_LONGEST_WORD
  c_LONGEST_WORD := W.mg_of X G q_LONGEST_WORD
  a_NO_NAMES := e_NO_NAMES
  c_NO_NAMES := W.mg_of X G q_NO_NAMES
  d_NO_NAMES := fun H => .tup (xs := [.str "if", .str "fork", .str "each", .str "fold", .str "start", .str "await", .str "max", .str "min"]) (.inr ⟨_, _, _, r_NO_NAMES, rfl, rfl, (by show 8 ≤ sizeLine; decide), .cons ⟨_, rfl⟩ (.cons ⟨_, rfl⟩ (.cons ⟨_, rfl⟩ (.cons ⟨_, rfl⟩ (.cons ⟨_, rfl⟩ (.cons ⟨_, rfl⟩ (.cons ⟨_, rfl⟩ (.cons ⟨_, rfl⟩ (Paired.nil))))))))⟩) (.cons (.str _) (.cons (.str _) (.cons (.str _) (.cons (.str _) (.cons (.str _) (.cons (.str _) (.cons (.str _) (.cons (.str _) (DqAll.nil)))))))))
  t_PRIME := t_PRIME
  c_PRIME := W.mg_of X G q_PRIME
  C_InvalidWords := C_InvalidWords
  fI_InvalidWords := I_InvalidWords
  fdI_InvalidWords := _
  g_InvalidWords := W.mg_of X G pC_InvalidWords
  O_InvalidWords := ⟨⟨_, _, _, _, _, _, _, _, _, _, _, _, _, _, _, xC_InvalidWords, vC_InvalidWords⟩, sa_InvalidWords, eC_InvalidWords, tC_InvalidWords, kC_InvalidWords⟩
  X_InvalidWords := ⟨ga_InvalidWords, gg_InvalidWords, eC_InvalidWords, hC_InvalidWords⟩
  iC_InvalidWords := iC_InvalidWords
  tI_InvalidWords := tI_InvalidWords
  FI_InvalidWords := fun_mk (st := s_InvalidWords_init) lI_InvalidWords cI_InvalidWords kI_InvalidWords
  em_InvalidWords := exm_eq eC_InvalidWords jC_InvalidWords tC_InvalidWords sC_InvalidWords
  bI_InvalidWords := (fun_mk (st := s_InvalidWords_init) lI_InvalidWords cI_InvalidWords kI_InvalidWords).binds (ps := ["self", "value"]) fun _ _ _ _ _ _ us hl => match us, hl with | [_, _], _ => rfl
  no_InvalidWords_value := nf_InvalidWords_value
theorem all_mk {l : W.OpenLaw} {w : World} {K : Kf} {h : Heap} {mg : Str → Option Value} {fa : Addr} (math : ∀ ns : List Int, ns.length ≤ 63 → ∃ en, F_law [scrD ns] = .ok (.d (.bool true)) en) (X : K.In h) (G : h.Ns mainGlobals mg) (hfa : mg "law" = some (.ref fa))
    {a_is_integer : Addr} {od_is_integer an_is_integer : Option Addr} {sl_is_integer : Array (Option Value)} {oc_is_integer kV_is_integer dc_is_integer pm_is_integer cd_is_integer ct_is_integer : Value}
    {a_is_word : Addr} {od_is_word an_is_word : Option Addr} {sl_is_word : Array (Option Value)} {oc_is_word kV_is_word dc_is_word pm_is_word cd_is_word ct_is_word : Value}
    {a_is_name : Addr} {od_is_name an_is_name : Option Addr} {sl_is_name : Array (Option Value)} {oc_is_name kV_is_name dc_is_name pm_is_name cd_is_name ct_is_name : Value}
    {a_is_value : Addr} {od_is_value an_is_value : Option Addr} {sl_is_value : Array (Option Value)} {oc_is_value kV_is_value dc_is_value pm_is_value cd_is_value ct_is_value : Value}
    {a_is_entry : Addr} {od_is_entry an_is_entry : Option Addr} {sl_is_entry : Array (Option Value)} {oc_is_entry kV_is_entry dc_is_entry pm_is_entry cd_is_entry ct_is_entry : Value}
    {a_is_words : Addr} {od_is_words an_is_words : Option Addr} {sl_is_words : Array (Option Value)} {oc_is_words kV_is_words dc_is_words pm_is_words cd_is_words ct_is_words : Value}
    {a_table_of : Addr} {od_table_of an_table_of : Option Addr} {sl_table_of : Array (Option Value)} {oc_table_of kV_table_of dc_table_of pm_table_of cd_table_of ct_table_of : Value}
    {a_words_from : Addr} {od_words_from an_words_from : Option Addr} {sl_words_from : Array (Option Value)} {oc_words_from kV_words_from dc_words_from pm_words_from cd_words_from ct_words_from : Value}
    {a_word_in : Addr} {od_word_in an_word_in : Option Addr} {sl_word_in : Array (Option Value)} {oc_word_in kV_word_in dc_word_in pm_word_in cd_word_in ct_word_in : Value}
    {a_words_with : Addr} {od_words_with an_words_with : Option Addr} {sl_words_with : Array (Option Value)} {oc_words_with kV_words_with dc_words_with pm_words_with cd_words_with ct_words_with : Value}
    {a_operated : Addr} {od_operated an_operated : Option Addr} {sl_operated : Array (Option Value)} {oc_operated kV_operated dc_operated pm_operated cd_operated ct_operated : Value}
    {a__law_draws : Addr} {od__law_draws an__law_draws : Option Addr} {sl__law_draws : Array (Option Value)} {oc__law_draws kV__law_draws dc__law_draws pm__law_draws cd__law_draws ct__law_draws : Value}
    {a__law_equal : Addr} {od__law_equal an__law_equal : Option Addr} {sl__law_equal : Array (Option Value)} {oc__law_equal kV__law_equal dc__law_equal pm__law_equal cd__law_equal ct__law_equal : Value}
    {a__law_pool : Addr} {od__law_pool an__law_pool : Option Addr} {sl__law_pool : Array (Option Value)} {oc__law_pool kV__law_pool dc__law_pool pm__law_pool cd__law_pool ct__law_pool : Value}
    {a__law_words : Addr} {od__law_words an__law_words : Option Addr} {sl__law_words : Array (Option Value)} {oc__law_words kV__law_words dc__law_words pm__law_words cd__law_words ct__law_words : Value}
    {a__law_operated : Addr} {od__law_operated an__law_operated : Option Addr} {sl__law_operated : Array (Option Value)} {oc__law_operated kV__law_operated dc__law_operated pm__law_operated cd__law_operated ct__law_operated : Value}
    {a__law_big : Addr} {od__law_big an__law_big : Option Addr} {sl__law_big : Array (Option Value)} {oc__law_big kV__law_big dc__law_big pm__law_big cd__law_big ct__law_big : Value}
    {a__law_with : Addr} {od__law_with an__law_with : Option Addr} {sl__law_with : Array (Option Value)} {oc__law_with kV__law_with dc__law_with pm__law_with cd__law_with ct__law_with : Value}
    {a__law_no_words : Addr} {od__law_no_words an__law_no_words : Option Addr} {sl__law_no_words : Array (Option Value)} {oc__law_no_words kV__law_no_words dc__law_no_words pm__law_no_words cd__law_no_words ct__law_no_words : Value}
    {a__law_is_refused : Addr} {od__law_is_refused an__law_is_refused : Option Addr} {sl__law_is_refused : Array (Option Value)} {oc__law_is_refused kV__law_is_refused dc__law_is_refused pm__law_is_refused cd__law_is_refused ct__law_is_refused : Value}
    {a_law : Addr} {od_law an_law : Option Addr} {sl_law : Array (Option Value)} {oc_law kV_law dc_law pm_law cd_law ct_law : Value}
    {t_LONGEST_WORD : Tok}
    {e_NO_NAMES : Addr} {ed_NO_NAMES : Option Addr} {es_NO_NAMES : Array (Option Value)} {en_NO_NAMES : Nat} {e_NO_NAMES_0 : Tok} {e_NO_NAMES_1 : Tok} {e_NO_NAMES_2 : Tok} {e_NO_NAMES_3 : Tok} {e_NO_NAMES_4 : Tok} {e_NO_NAMES_5 : Tok} {e_NO_NAMES_6 : Tok} {e_NO_NAMES_7 : Tok}
    {t_PRIME : Tok}
    {C_InvalidWords I_InvalidWords : Addr} {nm_InvalidWords q_InvalidWords : Str} {N_InvalidWords : Addr} {bs_InvalidWords bm_InvalidWords : List Value} {sn_InvalidWords : List Str} {su_InvalidWords : List Value} {ab_InvalidWords : Bool} {co_InvalidWords : Option Bool} {dd_InvalidWords : Option Addr} {m0_InvalidWords m1_InvalidWords m2_InvalidWords m3_InvalidWords m5_InvalidWords : Option Value} {od_InvalidWords an_InvalidWords : Option Addr} {sl_InvalidWords : Array (Option Value)} {oc_InvalidWords kV_InvalidWords dc_InvalidWords pm_InvalidWords cd_InvalidWords ct_InvalidWords : Value}
    (p_is_integer : W.nsIn K mainGlobals "is_integer" = some (some (.ref a_is_integer)))
    (l_is_integer : K.lookup a_is_integer = some ⟨oc_is_integer, od_is_integer, .func (W.fnOf "is_integer" "is_integer" (defArgs s_is_integer) (defBody s_is_integer) (defScope s_is_integer) .none kV_is_integer dc_is_integer pm_is_integer an_is_integer cd_is_integer ct_is_integer), sl_is_integer⟩)
    (c_is_integer : W.codeIn K cd_is_integer "is_integer" = true)
    (k_is_integer : W.keepIn K (.ref a_is_integer) = true)
    (p_is_word : W.nsIn K mainGlobals "is_word" = some (some (.ref a_is_word)))
    (l_is_word : K.lookup a_is_word = some ⟨oc_is_word, od_is_word, .func (W.fnOf "is_word" "is_word" (defArgs s_is_word) (defBody s_is_word) (defScope s_is_word) .none kV_is_word dc_is_word pm_is_word an_is_word cd_is_word ct_is_word), sl_is_word⟩)
    (c_is_word : W.codeIn K cd_is_word "is_word" = true)
    (k_is_word : W.keepIn K (.ref a_is_word) = true)
    (p_is_name : W.nsIn K mainGlobals "is_name" = some (some (.ref a_is_name)))
    (l_is_name : K.lookup a_is_name = some ⟨oc_is_name, od_is_name, .func (W.fnOf "is_name" "is_name" (defArgs s_is_name) (defBody s_is_name) (defScope s_is_name) .none kV_is_name dc_is_name pm_is_name an_is_name cd_is_name ct_is_name), sl_is_name⟩)
    (c_is_name : W.codeIn K cd_is_name "is_name" = true)
    (k_is_name : W.keepIn K (.ref a_is_name) = true)
    (p_is_value : W.nsIn K mainGlobals "is_value" = some (some (.ref a_is_value)))
    (l_is_value : K.lookup a_is_value = some ⟨oc_is_value, od_is_value, .func (W.fnOf "is_value" "is_value" (defArgs s_is_value) (defBody s_is_value) (defScope s_is_value) .none kV_is_value dc_is_value pm_is_value an_is_value cd_is_value ct_is_value), sl_is_value⟩)
    (c_is_value : W.codeIn K cd_is_value "is_value" = true)
    (k_is_value : W.keepIn K (.ref a_is_value) = true)
    (p_is_entry : W.nsIn K mainGlobals "is_entry" = some (some (.ref a_is_entry)))
    (l_is_entry : K.lookup a_is_entry = some ⟨oc_is_entry, od_is_entry, .func (W.fnOf "is_entry" "is_entry" (defArgs s_is_entry) (defBody s_is_entry) (defScope s_is_entry) .none kV_is_entry dc_is_entry pm_is_entry an_is_entry cd_is_entry ct_is_entry), sl_is_entry⟩)
    (c_is_entry : W.codeIn K cd_is_entry "is_entry" = true)
    (k_is_entry : W.keepIn K (.ref a_is_entry) = true)
    (p_is_words : W.nsIn K mainGlobals "is_words" = some (some (.ref a_is_words)))
    (l_is_words : K.lookup a_is_words = some ⟨oc_is_words, od_is_words, .func (W.fnOf "is_words" "is_words" (defArgs s_is_words) (defBody s_is_words) (defScope s_is_words) .none kV_is_words dc_is_words pm_is_words an_is_words cd_is_words ct_is_words), sl_is_words⟩)
    (c_is_words : W.codeIn K cd_is_words "is_words" = true)
    (k_is_words : W.keepIn K (.ref a_is_words) = true)
    (p_table_of : W.nsIn K mainGlobals "table_of" = some (some (.ref a_table_of)))
    (l_table_of : K.lookup a_table_of = some ⟨oc_table_of, od_table_of, .func (W.fnOf "table_of" "table_of" (defArgs s_table_of) (defBody s_table_of) (defScope s_table_of) .none kV_table_of dc_table_of pm_table_of an_table_of cd_table_of ct_table_of), sl_table_of⟩)
    (c_table_of : W.codeIn K cd_table_of "table_of" = true)
    (k_table_of : W.keepIn K (.ref a_table_of) = true)
    (p_words_from : W.nsIn K mainGlobals "words_from" = some (some (.ref a_words_from)))
    (l_words_from : K.lookup a_words_from = some ⟨oc_words_from, od_words_from, .func (W.fnOf "words_from" "words_from" (defArgs s_words_from) (defBody s_words_from) (defScope s_words_from) .none kV_words_from dc_words_from pm_words_from an_words_from cd_words_from ct_words_from), sl_words_from⟩)
    (c_words_from : W.codeIn K cd_words_from "words_from" = true)
    (k_words_from : W.keepIn K (.ref a_words_from) = true)
    (p_word_in : W.nsIn K mainGlobals "word_in" = some (some (.ref a_word_in)))
    (l_word_in : K.lookup a_word_in = some ⟨oc_word_in, od_word_in, .func (W.fnOf "word_in" "word_in" (defArgs s_word_in) (defBody s_word_in) (defScope s_word_in) .none kV_word_in dc_word_in pm_word_in an_word_in cd_word_in ct_word_in), sl_word_in⟩)
    (c_word_in : W.codeIn K cd_word_in "word_in" = true)
    (k_word_in : W.keepIn K (.ref a_word_in) = true)
    (p_words_with : W.nsIn K mainGlobals "words_with" = some (some (.ref a_words_with)))
    (l_words_with : K.lookup a_words_with = some ⟨oc_words_with, od_words_with, .func (W.fnOf "words_with" "words_with" (defArgs s_words_with) (defBody s_words_with) (defScope s_words_with) .none kV_words_with dc_words_with pm_words_with an_words_with cd_words_with ct_words_with), sl_words_with⟩)
    (c_words_with : W.codeIn K cd_words_with "words_with" = true)
    (k_words_with : W.keepIn K (.ref a_words_with) = true)
    (p_operated : W.nsIn K mainGlobals "operated" = some (some (.ref a_operated)))
    (l_operated : K.lookup a_operated = some ⟨oc_operated, od_operated, .func (W.fnOf "operated" "operated" (defArgs s_operated) (defBody s_operated) (defScope s_operated) .none kV_operated dc_operated pm_operated an_operated cd_operated ct_operated), sl_operated⟩)
    (c_operated : W.codeIn K cd_operated "operated" = true)
    (k_operated : W.keepIn K (.ref a_operated) = true)
    (p__law_draws : W.nsIn K mainGlobals "_law_draws" = some (some (.ref a__law_draws)))
    (l__law_draws : K.lookup a__law_draws = some ⟨oc__law_draws, od__law_draws, .func (W.fnOf "_law_draws" "_law_draws" (defArgs s__law_draws) (defBody s__law_draws) (defScope s__law_draws) .none kV__law_draws dc__law_draws pm__law_draws an__law_draws cd__law_draws ct__law_draws), sl__law_draws⟩)
    (c__law_draws : W.codeIn K cd__law_draws "_law_draws" = true)
    (k__law_draws : W.keepIn K (.ref a__law_draws) = true)
    (p__law_equal : W.nsIn K mainGlobals "_law_equal" = some (some (.ref a__law_equal)))
    (l__law_equal : K.lookup a__law_equal = some ⟨oc__law_equal, od__law_equal, .func (W.fnOf "_law_equal" "_law_equal" (defArgs s__law_equal) (defBody s__law_equal) (defScope s__law_equal) .none kV__law_equal dc__law_equal pm__law_equal an__law_equal cd__law_equal ct__law_equal), sl__law_equal⟩)
    (c__law_equal : W.codeIn K cd__law_equal "_law_equal" = true)
    (k__law_equal : W.keepIn K (.ref a__law_equal) = true)
    (p__law_pool : W.nsIn K mainGlobals "_law_pool" = some (some (.ref a__law_pool)))
    (l__law_pool : K.lookup a__law_pool = some ⟨oc__law_pool, od__law_pool, .func (W.fnOf "_law_pool" "_law_pool" (defArgs s__law_pool) (defBody s__law_pool) (defScope s__law_pool) .none kV__law_pool dc__law_pool pm__law_pool an__law_pool cd__law_pool ct__law_pool), sl__law_pool⟩)
    (c__law_pool : W.codeIn K cd__law_pool "_law_pool" = true)
    (k__law_pool : W.keepIn K (.ref a__law_pool) = true)
    (p__law_words : W.nsIn K mainGlobals "_law_words" = some (some (.ref a__law_words)))
    (l__law_words : K.lookup a__law_words = some ⟨oc__law_words, od__law_words, .func (W.fnOf "_law_words" "_law_words" (defArgs s__law_words) (defBody s__law_words) (defScope s__law_words) .none kV__law_words dc__law_words pm__law_words an__law_words cd__law_words ct__law_words), sl__law_words⟩)
    (c__law_words : W.codeIn K cd__law_words "_law_words" = true)
    (k__law_words : W.keepIn K (.ref a__law_words) = true)
    (p__law_operated : W.nsIn K mainGlobals "_law_operated" = some (some (.ref a__law_operated)))
    (l__law_operated : K.lookup a__law_operated = some ⟨oc__law_operated, od__law_operated, .func (W.fnOf "_law_operated" "_law_operated" (defArgs s__law_operated) (defBody s__law_operated) (defScope s__law_operated) .none kV__law_operated dc__law_operated pm__law_operated an__law_operated cd__law_operated ct__law_operated), sl__law_operated⟩)
    (c__law_operated : W.codeIn K cd__law_operated "_law_operated" = true)
    (k__law_operated : W.keepIn K (.ref a__law_operated) = true)
    (p__law_big : W.nsIn K mainGlobals "_law_big" = some (some (.ref a__law_big)))
    (l__law_big : K.lookup a__law_big = some ⟨oc__law_big, od__law_big, .func (W.fnOf "_law_big" "_law_big" (defArgs s__law_big) (defBody s__law_big) (defScope s__law_big) .none kV__law_big dc__law_big pm__law_big an__law_big cd__law_big ct__law_big), sl__law_big⟩)
    (c__law_big : W.codeIn K cd__law_big "_law_big" = true)
    (k__law_big : W.keepIn K (.ref a__law_big) = true)
    (p__law_with : W.nsIn K mainGlobals "_law_with" = some (some (.ref a__law_with)))
    (l__law_with : K.lookup a__law_with = some ⟨oc__law_with, od__law_with, .func (W.fnOf "_law_with" "_law_with" (defArgs s__law_with) (defBody s__law_with) (defScope s__law_with) .none kV__law_with dc__law_with pm__law_with an__law_with cd__law_with ct__law_with), sl__law_with⟩)
    (c__law_with : W.codeIn K cd__law_with "_law_with" = true)
    (k__law_with : W.keepIn K (.ref a__law_with) = true)
    (p__law_no_words : W.nsIn K mainGlobals "_law_no_words" = some (some (.ref a__law_no_words)))
    (l__law_no_words : K.lookup a__law_no_words = some ⟨oc__law_no_words, od__law_no_words, .func (W.fnOf "_law_no_words" "_law_no_words" (defArgs s__law_no_words) (defBody s__law_no_words) (defScope s__law_no_words) .none kV__law_no_words dc__law_no_words pm__law_no_words an__law_no_words cd__law_no_words ct__law_no_words), sl__law_no_words⟩)
    (c__law_no_words : W.codeIn K cd__law_no_words "_law_no_words" = true)
    (k__law_no_words : W.keepIn K (.ref a__law_no_words) = true)
    (p__law_is_refused : W.nsIn K mainGlobals "_law_is_refused" = some (some (.ref a__law_is_refused)))
    (l__law_is_refused : K.lookup a__law_is_refused = some ⟨oc__law_is_refused, od__law_is_refused, .func (W.fnOf "_law_is_refused" "_law_is_refused" (defArgs s__law_is_refused) (defBody s__law_is_refused) (defScope s__law_is_refused) .none kV__law_is_refused dc__law_is_refused pm__law_is_refused an__law_is_refused cd__law_is_refused ct__law_is_refused), sl__law_is_refused⟩)
    (c__law_is_refused : W.codeIn K cd__law_is_refused "_law_is_refused" = true)
    (k__law_is_refused : W.keepIn K (.ref a__law_is_refused) = true)
    (p_law : W.nsIn K mainGlobals "law" = some (some (.ref a_law)))
    (l_law : K.lookup a_law = some ⟨oc_law, od_law, .func (W.fnOf "law" "law" (defArgs s_law) (defBody s_law) (defScope s_law) .none kV_law dc_law pm_law an_law cd_law ct_law), sl_law⟩)
    (c_law : W.codeIn K cd_law "law" = true)
    (k_law : W.keepIn K (.ref a_law) = true)
    (z_all : W.nsIn K mainGlobals "all" = some none)
    (z_bool : W.nsIn K mainGlobals "bool" = some none)
    (z_int : W.nsIn K mainGlobals "int" = some none)
    (z_isinstance : W.nsIn K mainGlobals "isinstance" = some none)
    (z_len : W.nsIn K mainGlobals "len" = some none)
    (z_list : W.nsIn K mainGlobals "list" = some none)
    (z_max : W.nsIn K mainGlobals "max" = some none)
    (z_min : W.nsIn K mainGlobals "min" = some none)
    (z_range : W.nsIn K mainGlobals "range" = some none)
    (z_set : W.nsIn K mainGlobals "set" = some none)
    (z_sorted : W.nsIn K mainGlobals "sorted" = some none)
    (z_str : W.nsIn K mainGlobals "str" = some none)
    (z_tuple : W.nsIn K mainGlobals "tuple" = some none)
    (q_LONGEST_WORD : W.nsIn K mainGlobals "LONGEST_WORD" = some (some (.int 8 t_LONGEST_WORD)))
    (q_NO_NAMES : W.nsIn K mainGlobals "NO_NAMES" = some (some (.ref e_NO_NAMES)))
    (r_NO_NAMES : K.lookup e_NO_NAMES = some ⟨.type "tuple", ed_NO_NAMES, .seq #[.str "if" e_NO_NAMES_0, .str "fork" e_NO_NAMES_1, .str "each" e_NO_NAMES_2, .str "fold" e_NO_NAMES_3, .str "start" e_NO_NAMES_4, .str "await" e_NO_NAMES_5, .str "max" e_NO_NAMES_6, .str "min" e_NO_NAMES_7] en_NO_NAMES, es_NO_NAMES⟩)
    (q_PRIME : W.nsIn K mainGlobals "PRIME" = some (some (.int 1000003 t_PRIME)))
    (pC_InvalidWords : W.nsIn K mainGlobals "InvalidWords" = some (some (.ref C_InvalidWords)))
    (xC_InvalidWords : K.lookup C_InvalidWords = some (excClassObj nm_InvalidWords q_InvalidWords C_InvalidWords N_InvalidWords bs_InvalidWords bm_InvalidWords true sn_InvalidWords su_InvalidWords ab_InvalidWords co_InvalidWords dd_InvalidWords m0_InvalidWords m1_InvalidWords m2_InvalidWords m3_InvalidWords m5_InvalidWords "ValueError.__new__"))
    (vC_InvalidWords : HandSPX.refsVE bm_InvalidWords = true)
    (sa_InvalidWords : W.findIn K (.ref C_InvalidWords) "__setattr__" = some (some (.builtin "object.__setattr__")))
    (ga_InvalidWords : W.findIn K (.ref C_InvalidWords) "__getattribute__" = some (some (.builtin "BaseException.__getattribute__")))
    (gg_InvalidWords : W.findIn K (.ref C_InvalidWords) "__getattr__" = some none)
    (nf_InvalidWords_value : W.findIn K (.ref C_InvalidWords) "value" = some none)
    (iC_InvalidWords : W.findIn K (.ref C_InvalidWords) "__init__" = some (some (.ref I_InvalidWords)))
    (tI_InvalidWords : W.typeIn K (.ref I_InvalidWords) = some (.type "function"))
    (lI_InvalidWords : K.lookup I_InvalidWords = some ⟨oc_InvalidWords, od_InvalidWords, .func (W.fnOf "__init__" "InvalidWords.__init__" (defArgs s_InvalidWords_init) (defBody s_InvalidWords_init) (defScope s_InvalidWords_init) .none kV_InvalidWords dc_InvalidWords pm_InvalidWords an_InvalidWords cd_InvalidWords ct_InvalidWords), sl_InvalidWords⟩)
    (cI_InvalidWords : W.codeIn K cd_InvalidWords "InvalidWords.__init__" = true)
    (kI_InvalidWords : W.keepIn K (.ref I_InvalidWords) = true)
    (kC_InvalidWords : W.keepIn K (.ref C_InvalidWords) = true)
    (eC_InvalidWords : W.subIn K (.ref C_InvalidWords) (.type "BaseException") = some true)
    (tC_InvalidWords : W.typeIn K (.ref C_InvalidWords) = some (.type "type"))
    (hC_InvalidWords : W.hasDictIn K C_InvalidWords = true)
    (jC_InvalidWords : W.isClsIn K C_InvalidWords = true)
    (sC_InvalidWords : W.subIn K (.ref C_InvalidWords) (.ref C_InvalidWords) = some true) :
    ∃ fd : FuncData, (∀ (s : Shared) (u : Value), BindsTo s fd ⟨[u], []⟩ [("script", u)]) ∧ ∀ base : Heap, K.In base → base.Ns mainGlobals mg → FnOk l.prog w K mg base (L2N.CX l.prog w) 14 fa fd ["script"] (spLaw K) := by
  have e := hfa.symm.trans (W.mg_of X G p_law)
  cases e
  exact ⟨_, fun s v => .of_eq rfl, fun base _ _ => fn_law rfl (ok_law (mkTop X G p_is_integer l_is_integer c_is_integer k_is_integer p_is_word l_is_word c_is_word k_is_word p_is_name l_is_name c_is_name k_is_name p_is_value l_is_value c_is_value k_is_value p_is_entry l_is_entry c_is_entry k_is_entry p_is_words l_is_words c_is_words k_is_words p_table_of l_table_of c_table_of k_table_of p_words_from l_words_from c_words_from k_words_from p_word_in l_word_in c_word_in k_word_in p_words_with l_words_with c_words_with k_words_with p_operated l_operated c_operated k_operated p__law_draws l__law_draws c__law_draws k__law_draws p__law_equal l__law_equal c__law_equal k__law_equal p__law_pool l__law_pool c__law_pool k__law_pool p__law_words l__law_words c__law_words k__law_words p__law_operated l__law_operated c__law_operated k__law_operated p__law_big l__law_big c__law_big k__law_big p__law_with l__law_with c__law_with k__law_with p__law_no_words l__law_no_words c__law_no_words k__law_no_words p__law_is_refused l__law_is_refused c__law_is_refused k__law_is_refused p_law l_law c_law k_law z_all z_bool z_int z_isinstance z_len z_list z_max z_min z_range z_set z_sorted z_str z_tuple q_LONGEST_WORD q_NO_NAMES r_NO_NAMES q_PRIME pC_InvalidWords xC_InvalidWords vC_InvalidWords sa_InvalidWords ga_InvalidWords gg_InvalidWords nf_InvalidWords_value iC_InvalidWords tI_InvalidWords lI_InvalidWords cI_InvalidWords kI_InvalidWords kC_InvalidWords eC_InvalidWords tC_InvalidWords hC_InvalidWords jC_InvalidWords sC_InvalidWords)) math⟩
end K03

namespace K03
open PySem PySem.Spec PyProof.Rows L2

def isInt : D → Bool
  | .int _ => true
  | .dict _ => false
  | .none => false
  | .bool _ => false
  | .str _ => false
  | .list _ => false
  | .tuple _ => false
def isVal : D → Bool
  | .int i => decide (0 ≤ i) && decide (i < 1000003)
  | .dict _ => false
  | .none => false
  | .bool _ => false
  | .str _ => false
  | .list _ => false
  | .tuple _ => false
def ND (d : D) : Prop := ∀ k, d ≠ .dict k
@[simp] theorem nd_int (i : Int) : ND (.int i) := fun _ h => nomatch h
@[simp] theorem nd_str (i : Str) : ND (.str i) := fun _ h => nomatch h
@[simp] theorem nd_bool (i : Bool) : ND (.bool i) := fun _ h => nomatch h
@[simp] theorem nd_none : ND .none := fun _ h => nomatch h
@[simp] theorem nd_list (i : List D) : ND (.list i) := fun _ h => nomatch h
@[simp] theorem nd_tuple (i : List D) : ND (.tuple i) := fun _ h => nomatch h
theorem is_integer_eq (d : D) (h : ND d) : F_is_integer [d] = .ok (.d (.bool (isInt d))) [] := by
  unfold F_is_integer m_is_integer
  cases d <;> first | rfl | exact absurd rfl (h _)
theorem is_value_eq (d : D) (h : ND d) : F_is_value [d] = .ok (.d (.bool (isVal d))) [] := by
  refine run_ok rfl (e := [some (.d d)]) ?_
  cases d with
  | dict k => exact absurd rfl (h k)
  | int i =>
    simp [m_is_value, is_integer_eq, isInt, flat, isVal]
    by_cases h1 : 0 ≤ i <;> simp [h1]
  | _ => simp [m_is_value, is_integer_eq, isInt, flat, isVal]
def wordB (z : Str) : Bool := decide (1 ≤ z.length) && decide (z.length ≤ 8) && z.cps.toList.all fun c => decide (97 ≤ c) && decide (c ≤ 122)
def isWord : D → Bool
  | .str z => wordB z
  | .int _ => false
  | .dict _ => false
  | .none => false
  | .bool _ => false
  | .list _ => false
  | .tuple _ => false
theorem sign_lo (c : Nat) : (!decide ((⟨#[c]⟩ : Str).cps.toList < ("a" : Str).cps.toList)) = decide (97 ≤ c) := by
  have e : ("a" : Str).cps.toList = [97] := by decide
  rw [e]
  by_cases h : 97 ≤ c
  · simp [h, List.cons_lt_cons_iff, Nat.not_lt.mpr h]
  · simp [h, List.cons_lt_cons_iff, Nat.lt_of_not_le h]
theorem sign_hi (c : Nat) : (!decide (("z" : Str).cps.toList < (⟨#[c]⟩ : Str).cps.toList)) = decide (c ≤ 122) := by
  have e : ("z" : Str).cps.toList = [122] := by decide
  rw [e]
  by_cases h : c ≤ 122
  · simp [h, List.cons_lt_cons_iff, Nat.not_lt.mpr h]
  · simp [h, List.cons_lt_cons_iff, Nat.lt_of_not_le h]
theorem dLe_s (a b : Str) : dLe (.str a) (.str b) = mpure (.d (.bool (!decide (b.cps.toList < a.cps.toList)))) := rfl
theorem is_word_eq (d : D) (h : ND d) (hl : ∀ z, d = .str z → z.length ≤ sizeLine) : F_is_word [d] = .ok (.d (.bool (isWord d))) [] := by
  refine run_ok rfl (e := [some (.d d), none]) ?_
  cases d with
  | dict k => exact absurd rfl (h k)
  | str z =>
    have hz := hl z rfl
    have hz2 : (L2.signs z).length ≤ sizeLine := by
      unfold L2.signs
      rw [List.length_map]
      exact hz
    have ec : compGo (.nm 1) mYes (mChain dLe dLe (mC (.str "a")) (mVar 1) (mC (.str "z"))) [some (.d (.str z)), none] (L2.signs z) [] = some ([] ++ (L2.signs z).map fun d => .bool (match d with | .str x => !decide (x.cps.toList < ("a" : Str).cps.toList) && !decide (("z" : Str).cps.toList < x.cps.toList) | _ => false)) := by
      refine compGo_map _ _ (fun d m => ?_) (by simpa using hz2)
      unfold L2.signs at m
      obtain ⟨c, _, rfl⟩ := List.mem_map.mp m
      refine ⟨_, rfl, ?_⟩
      simp only [s_keep, s_chain, s_frz, s_c, s_var, List.set_cons_succ, List.set_cons_zero, List.getElem?_cons_succ, List.getElem?_cons_zero, s_look_d, dLe_s, s_pure, s_op1]
      cases h1 : decide ((⟨#[c]⟩ : Str).cps.toList < ("a" : Str).cps.toList) <;> simp
    simp only [List.nil_append] at ec
    have em : mComp (.nm 1) [1] mYes (mChain dLe dLe (mC (.str "a")) (mVar 1) (mC (.str "z"))) (L2.signs z) [some (.d (.str z)), none] = .ok (.own (.lst _)) [some (.d (.str z)), none] := comp_ok rfl ec
    have es : ((L2.signs z).map fun d => PyData.bool (match d with | .str x => !decide (x.cps.toList < ("a" : Str).cps.toList) && !decide (("z" : Str).cps.toList < x.cps.toList) | _ => false)) = (z.cps.toList.map fun c => decide (97 ≤ c) && decide (c ≤ 122)).map PyData.bool := by
      unfold L2.signs
      rw [List.map_map, List.map_map]
      refine List.map_congr_left fun c _ => ?_
      show PyData.bool (!decide ((⟨#[c]⟩ : Str).cps.toList < ("a" : Str).cps.toList) && !decide (("z" : Str).cps.toList < (⟨#[c]⟩ : Str).cps.toList)) = PyData.bool _
      rw [sign_lo, sign_hi]
    rw [es] at em
    have ea : ((z.cps.toList.map fun c => decide (97 ≤ c) && decide (c ≤ 122)).all id) = z.cps.toList.all fun c => decide (97 ≤ c) && decide (c ≤ 122) := by
      rw [List.all_map]; rfl
    have ed : dAll (PyData.list (List.map (PyData.bool ∘ fun c => decide (97 ≤ c) && decide (c ≤ 122)) z.cps.toList)) = mpure (.d (.bool (z.cps.all fun c => decide (97 ≤ c) && decide (c ≤ 122)))) := by
      rw [← List.map_map, dAll_bools, ea, Array.all_toList]
    have el : dLen (.str z) = mpure (.d (.int z.length)) := by
      show ivD ((if z.length ≤ sizeLine then some (z.length : Int) else none).map .int) = _
      rw [if_pos hz]
      rfl
    simp only [m_is_word, s_seq, s_ifS, s_orT, s_notT, s_B, s_isi, s_frz, s_var, List.map_cons, List.map_nil, List.cons_append, List.nil_append, List.replicate_succ, List.replicate_zero, List.getElem?_cons_zero, Nat.reduceSub, s_look_d, isiD, s_bv, Bool.not_true, s_chain, s_c, s_callD, s_cons, s_nil, s_lent_d, if_true, s_looks_cons, s_looks_nil, s_d1, el, s_pure, s_dLe_i, s_op1, isWord, wordB]
    by_cases h1 : 1 ≤ z.length
    · have h1' : (1 : Int) ≤ (z.length : Int) := by omega
      by_cases h2 : z.length ≤ 8
      · have h2' : (z.length : Int) ≤ 8 := by omega
        simp [h1, h2, h1', h2', em, ed]
      · have h2' : ¬ (z.length : Int) ≤ 8 := by omega
        simp [h1, h2, h1', h2']
    · have h1' : ¬ (1 : Int) ≤ (z.length : Int) := by omega
      simp [h1, h1']
  | _ => simp [m_is_word, isWord, isiD]
abbrev nn : List D := [.str "if", .str "fork", .str "each", .str "fold", .str "start", .str "await", .str "max", .str "min"]
def isName : D → Bool
  | .str z => wordB z && !(nn.any fun d => PyData.eqv d (.str z))
  | .int _ => false
  | .dict _ => false
  | .none => false
  | .bool _ => false
  | .list _ => false
  | .tuple _ => false
/-- a text that is not out of all measure -/
def Sm (d : D) : Prop := ND d ∧ ∀ z, d = .str z → z.length ≤ sizeLine
theorem sm_str {z : Str} (h : z.length ≤ sizeLine) : Sm (.str z) := ⟨nd_str z, fun _ e => by cases e; exact h⟩
@[simp] theorem sm_int (i : Int) : Sm (.int i) := ⟨nd_int i, fun _ e => nomatch e⟩
@[simp] theorem sm_bool (i : Bool) : Sm (.bool i) := ⟨nd_bool i, fun _ e => nomatch e⟩
@[simp] theorem sm_none : Sm .none := ⟨nd_none, fun _ e => nomatch e⟩
@[simp] theorem sm_list (i : List D) : Sm (.list i) := ⟨nd_list i, fun _ e => nomatch e⟩
@[simp] theorem sm_tuple (i : List D) : Sm (.tuple i) := ⟨nd_tuple i, fun _ e => nomatch e⟩
theorem is_word_sm (d : D) (h : Sm d) : F_is_word [d] = .ok (.d (.bool (isWord d))) [] := is_word_eq d h.1 h.2
theorem nin_nn (z : Str) (en : En) : dNin (.str z) (.tuple nn) en = .ok (.d (.bool (!(nn.any fun d => PyData.eqv d (.str z))))) en := rfl
theorem is_name_eq (d : D) (h : Sm d) : F_is_name [d] = .ok (.d (.bool (isName d))) [] := by
  refine run_ok rfl (e := [some (.d d)]) ?_
  cases d with
  | dict k => exact absurd rfl (h.1 k)
  | str z =>
    have e := is_word_sm _ h
    unfold isWord at e
    have e2 := nin_nn z [some (.d (.str z))]
    simp only [m_is_name, s_ret, s_BV, s_andT, s_B, s_call, s_cons, s_frz, s_var, List.map_cons, List.map_nil, List.cons_append, List.nil_append, List.replicate_succ, List.replicate_zero, List.getElem?_cons_zero, Nat.sub_self, s_lent_d, if_true, s_nil, s_looksA_cons, s_looksA_nil, s_lookA_d, e, flat, s_op2, s_c, s_look_d, e2, isName]
    cases wordB z <;> simp [e2]
  | _ =>
    have e := is_word_sm _ h
    simp [m_is_name, isName, e, isWord, flat]
def pos : D → Bool
  | .int i => decide (0 < i)
  | .dict _ => false
  | .none => false
  | .bool _ => false
  | .str _ => false
  | .list _ => false
  | .tuple _ => false
def isEntry : D → Bool
  | .tuple [a, b] => isName a && (isVal b && pos b)
  | _ => false
@[simp] theorem at0 {a b : D} : atI [a, b] 0 = some a := rfl
@[simp] theorem at1 {a b : D} : atI [a, b] 1 = some b := rfl
theorem is_entry_pair (a b : D) (ha : Sm a) (hb : ND b) : F_is_entry [.tuple [a, b]] = .ok (.d (.bool (isName a && (isVal b && pos b)))) [] := by
  refine run_ok rfl (e := [some (.d (.tuple [a, b]))]) ?_
  have e1 := is_name_eq a ha
  have e2 := is_value_eq b hb
  cases hn : isName a with
  | false => simp [m_is_entry, e1, hn, flat, isiD]
  | true =>
    cases b with
    | int i => cases hv : isVal (.int i) <;> simp [m_is_entry, e1, e2, hn, hv, flat, isiD, pos]
    | dict k => exact absurd rfl (hb k)
    | _ => simp [m_is_entry, e1, e2, hn, flat, isiD, isVal]
theorem is_entry_not (d : D) (h : ND d) (hn : ∀ a b, d ≠ .tuple [a, b]) : F_is_entry [d] = .ok (.d (.bool false)) [] := by
  refine run_ok rfl (e := [some (.d d)]) ?_
  cases d with
  | dict k => exact absurd rfl (h k)
  | tuple ds =>
    have hl : ¬ ((ds.length : Int) = 2) := fun z => by
      match ds, z with
      | [a, b], _ => exact hn a b rfl
      | [], z => simp at z
      | [_], z => simp at z
      | _ :: _ :: _ :: _, z => simp at z; omega
    simp [m_is_entry, isiD, hl]
  | _ => simp [m_is_entry, isiD]
def EntOk (d : D) : Prop := ND d ∧ ∀ a b, d = .tuple [a, b] → Sm a ∧ ND b
theorem is_entry_eq (d : D) (h : EntOk d) : F_is_entry [d] = .ok (.d (.bool (isEntry d))) [] := by
  by_cases c : ∃ a b, d = .tuple [a, b]
  · obtain ⟨a, b, rfl⟩ := c
    obtain ⟨ha, hb⟩ := h.2 a b rfl
    exact is_entry_pair a b ha hb
  · have hn : ∀ a b, d ≠ .tuple [a, b] := fun a b e => c ⟨a, b, e⟩
    rw [is_entry_not d h.1 hn]
    have : isEntry d = false := by
      unfold isEntry
      split
      · exact (hn _ _ rfl).elim
      · rfl
    rw [this]
theorem is_words_not (d : D) (h : ND d) (hn : ∀ ds, d ≠ .tuple ds) : F_is_words [d] = .ok (.d (.bool false)) [] := by
  refine run_ok rfl (e := [some (.d d), none, none]) ?_
  cases d with
  | dict k => exact absurd rfl (h k)
  | tuple ds => exact absurd rfl (hn ds)
  | _ => simp [m_is_words, isiD]
abbrev enW (ds : List D) : En := [some (.d (.tuple ds)), none, none]
theorem entries_comp (ds : List D) (h : ∀ d ∈ ds, EntOk d) (hl : ds.length ≤ sizeLine) : mComp (.nm 2) [2] mYes (mCall F_is_entry (mCons (mVar 2) mNil)) ds (enW ds) = .ok (.own (.lst ((ds.map isEntry).map .bool))) (enW ds) := by
  have ec : compGo (.nm 2) mYes (mCall F_is_entry (mCons (mVar 2) mNil)) (wipeEn (enW ds) [2]) ds [] = some ([] ++ ds.map fun d => .bool (isEntry d)) := by
    refine compGo_map _ _ (fun d m => ⟨_, rfl, ?_⟩) (by simpa using hl)
    have e := is_entry_eq d (h d m)
    simp [wipeEn, e, flat]
  rw [List.nil_append] at ec
  rw [comp_ok rfl ec, List.map_map]
  rfl
theorem is_words_bad (ds : List D) (h : ∀ d ∈ ds, EntOk d) (hl : ds.length ≤ sizeLine) (hb : ds.all isEntry = false) : F_is_words [.tuple ds] = .ok (.d (.bool false)) [] := by
  refine run_ok rfl (e := enW ds) ?_
  have e := entries_comp ds h hl
  have ed : dAll (.list ((ds.map isEntry).map .bool)) = mpure (.d (.bool false)) := by
    rw [dAll_bools, List.all_map]
    rw [show ds.all (id ∘ isEntry) = ds.all isEntry from rfl, hb]
  rw [List.map_map] at ed e
  simp [m_is_words, isiD, e, ed]
/-- names and values as they must be -/
def okPair (p : Str × Int) : Bool := isName (.str p.1) && (isVal (.int p.2) && pos (.int p.2))
theorem name_small {z : Str} (h : isName (.str z) = true) : z.length ≤ 8 ∧ PyData.strOk z = true := by
  unfold isName wordB at h
  simp only [Bool.and_eq_true, decide_eq_true_eq, List.all_eq_true] at h
  refine ⟨h.1.1.2, ?_⟩
  unfold PyData.strOk
  rw [← Array.all_toList, List.all_eq_true]
  intro c m
  have := (h.1.2 c m).2
  simp
  omega
theorem sm_name {z : Str} (h : isName (.str z) = true) : Sm (.str z) := sm_str (by have := (name_small h).1; have := sizeLine_ge; omega)
theorem is_words_ws (ws : Ws) (h : ∀ p ∈ ws, okPair p = true) (hl : ws.length < 64) : F_is_words [wsD ws] = .ok (.d (.bool (decide (ws.map (·.1) = sortSet (ws.map (·.1)))))) [] := by
  have nm : ∀ p ∈ ws, isName (.str p.1) = true := fun p m => by
    have := h p m
    unfold okPair at this
    simp only [Bool.and_eq_true] at this
    exact this.1
  have hl2 : (ws.map pD).length ≤ sizeLine := by rw [List.length_map]; have := sizeLine_ge; omega
  have e := entries_comp (ws.map pD) (fun d m => by
    obtain ⟨p, mp, rfl⟩ := List.mem_map.mp m
    refine ⟨nd_tuple _, fun a b q => ?_⟩
    cases q
    exact ⟨sm_name (nm p mp), nd_int _⟩) hl2
  have ea : (ws.map pD).map isEntry = ws.map fun _ => true := by
    rw [List.map_map]
    refine List.map_congr_left fun p m => ?_
    exact h p m
  have ed : dAll (.list (((ws.map pD).map isEntry).map .bool)) = mpure (.d (.bool true)) := by
    rw [dAll_bools, ea]
    congr 3
    simp
  have en : mComp (.nm 2) [2] mYes (mOp2 dIx (mVar 2) (mC (.int 0))) (ws.map pD) (enW (ws.map pD)) = .ok (.own (.lst ((ws.map (·.1)).map .str))) (enW (ws.map pD)) := by
    have ec : compGo (.nm 2) mYes (mOp2 dIx (mVar 2) (mC (.int 0))) (wipeEn (enW (ws.map pD)) [2]) (ws.map pD) [] = some ([] ++ (ws.map pD).map fun d => match d with | .tuple [a, _] => a | _ => .none) := by
      refine compGo_map _ _ (fun d m => ?_) (by simpa using hl2)
      obtain ⟨p, mp, rfl⟩ := List.mem_map.mp m
      refine ⟨_, rfl, ?_⟩
      simp [wipeEn, pD]
    rw [List.nil_append, List.map_map] at ec
    rw [comp_ok rfl ec, List.map_map]
    rfl
  refine run_ok rfl (e := [some (.d (wsD ws)), some (.own (.lst ((ws.map (·.1)).map .str))), none]) ?_
  have hs : ssD (.list ((ws.map (·.1)).map .str)) = some (sortSet (ws.map (·.1))) := ssD_strs (by rw [List.length_map]; exact hl)
  have hq := eq_strs (ws.map (·.1)) (sortSet (ws.map (·.1))) (fun x m => by
    obtain ⟨p, mp, rfl⟩ := List.mem_map.mp m
    exact (name_small (nm p mp)).2) (fun x m => by
    have m2 : x ∈ (ws.map (·.1)).eraseDups := (sortStrs_perm _).mem_iff.mp m
    obtain ⟨p, mp, rfl⟩ := List.mem_map.mp (List.mem_eraseDups.mp m2)
    exact (name_small (nm p mp)).2)
  simp only [List.map_map] at e ed en hs hq
  simp [m_is_words, wsD, isiD, e, ed, en, hs, hq]
end K03

namespace K03
open PySem PySem.Spec PyProof.Rows L2
/-- words -/
structure Good (ws : Ws) : Prop where
  ok : ∀ p ∈ ws, okPair p = true
  few : ws.length < 63
  asc : ws.map (·.1) = sortSet (ws.map (·.1))
theorem Good.nd {ws : Ws} (h : Good ws) : (ws.map (·.1)).Nodup := by
  rw [h.asc]
  exact sortSet_nodup _
theorem Good.is {ws : Ws} (h : Good ws) : F_is_words [wsD ws] = .ok (.d (.bool true)) [] := by
  rw [is_words_ws ws h.ok (by have := h.few; omega)]
  simp [h.asc.symm]
theorem table_ok {ws : Ws} (h : Good ws) : F_table_of [wsD ws] = .ok (.own (.dct (tabOf ws))) [] := by
  refine run_own rfl (e := [some (.d (wsD ws)), none, none]) ?_
  have e := h.is
  have ec := dcGo_ws (mk := mVar 1) (mv := mVar 2) (tg := .tp [1, 2]) (en0 := [some (.d (wsD ws)), none, none]) (fun p => ⟨_, rfl, by simp [setAll], by simp [setAll]⟩) ws [] (by simpa using h.nd) (by have := sizeLine_ge; have := h.few; simp; omega)
  have ed := dc_ok (en := [some (.d (wsD ws)), none, none]) (tg := .tp [1, 2]) (vs := [1, 2]) (mc := mYes) (mk := mVar 1) (mv := mVar 2) rfl ec
  rw [List.nil_append] at ed
  have ew : wsD ws = .tuple (ws.map pD) := rfl
  rw [ew] at e ed ⊢
  simp [m_table_of, e, flat, ed]
theorem table_bad (d : D) (h : F_is_words [d] = .ok (.d (.bool false)) []) : F_table_of [d] = .exc ⟨"InvalidWords", [("value", d)]⟩ [] := by
  refine run_exc rfl (e := [some (.d d), none, none]) ?_
  simp [m_table_of, h, flat]
theorem flat_tab (ws : Ws) : flatO (.dct (tabOf ws)) = true := by
  show ((ws.map fun p => ((Sum.inr p.1 : Key), PyData.int p.2)).all fun p => flat p.2) = true
  rw [List.all_map]
  simp [flat]
theorem word_in_ok {ws : Ws} (h : Good ws) (x : Str) : F_word_in [wsD ws, .str x] = .ok (.d (.int (valW ws x))) [] := by
  refine run_ok rfl (e := [some (.d (wsD ws)), some (.d (.str x))]) ?_
  have e := table_ok h
  have e1 : mCall F_table_of (mCons (mVar 0) mNil) [some (.d (wsD ws)), some (.d (.str x))] = .ok (.own (.dct (tabOf ws))) [some (.d (wsD ws)), some (.d (.str x))] := by
    simp [e, flat_tab]
  have e2 := s_get2_own (mx := mC (.int 0)) (mk := mVar 1) (z := .int 0) (x := x) (e2 := [some (.d (wsD ws)), some (.d (.str x))]) e1 rfl rfl
  rw [valD_tab] at e2
  simp [m_word_in, e2]
theorem word_in_bad (d : D) (x : Str) (h : F_is_words [d] = .ok (.d (.bool false)) []) : ∃ e, F_word_in [d, .str x] = .exc ⟨"InvalidWords", [("value", d)]⟩ e := by
  refine ⟨[], run_exc rfl (e := frzAll [some (.d d), some (.d (.str x))]) ?_⟩
  have e := table_bad d h
  unfold m_word_in
  rw [s_ret]
  unfold mGet2
  rw [s_bind]
  simp [e]
/-! ### words_with -/
theorem lookD_tab (x : Str) : ∀ kds : List (Key × D), lookD (.str x) (kds.map fun p => (kD p.1, p.2)) = valD kds (.inr x)
  | [] => rfl
  | p :: r => by
    have kk : keyD (kD p.1) = some p.1 := by cases p.1 <;> rfl
    have ih := lookD_tab x r
    unfold valD at ih ⊢
    rw [List.map_cons, List.find?_cons]
    show (if keyD (kD p.1) = keyD (.str x) then some p.2 else lookD (.str x) (r.map fun p => (kD p.1, p.2))) = _
    rw [kk]
    by_cases h : p.1 = .inr x
    · simp [h, keyD]
    · have h2 : ¬ (some p.1 = keyD (.str x)) := fun c => h (by simpa [keyD] using c)
      rw [if_neg h2, ih]
      simp [h]
/-- the table with a value put in -/
def putW (ws : Ws) (x : Str) (v : Int) : Ws := if (ws.any fun p => decide (p.1 = x)) = true then ws.map fun p => if p.1 = x then (p.1, v) else p else ws ++ [(x, v)]
theorem putD_tab (ws : Ws) (x : Str) (v : Int) : putD (tabOf ws) (.inr x) (.int v) = tabOf (putW ws x v) := by
  have e : ((tabOf ws).any fun kv => decide (kv.1 = (Sum.inr x : Key))) = ws.any fun p => decide (p.1 = x) := by
    unfold tabOf
    rw [List.any_map]
    congr 1
    funext p
    simp
  unfold putD putW
  rw [e]
  split
  · unfold tabOf
    rw [List.map_map, List.map_map]
    refine List.map_congr_left fun p _ => ?_
    by_cases h : p.1 = x
    · simp [h]
    · simp [h]
  · unfold tabOf
    rw [List.map_append]
    rfl
theorem putW_len (ws : Ws) (x : Str) (v : Int) : (putW ws x v).length ≤ ws.length + 1 := by
  unfold putW
  split
  · rw [List.length_map]; omega
  · simp
/-- what it gives: the names ascending, each with its value, those above 0 -/
def withW (ws : Ws) (x : Str) (v : Int) : Ws := ((sortStrs ((putW ws x v).map (·.1))).filter fun k => decide (0 < valW (putW ws x v) k)).map fun k => (k, valW (putW ws x v) k)
theorem valD_some {ws : Ws} {x : Str} (h : x ∈ ws.map (·.1)) : valD (tabOf ws) (.inr x) = some (.int (valW ws x)) := by
  have e := valD_tab ws x
  unfold valD tabOf valW at *
  rw [List.find?_map] at *
  have e1 : ((fun kv : Key × D => decide (kv.1 = (Sum.inr x : Key))) ∘ fun p : Str × Int => ((Sum.inr p.1 : Key), PyData.int p.2)) = fun p => decide (p.1 = x) := by
    funext p
    simp
  rw [e1]
  cases q : ws.find? fun p => decide (p.1 = x) with
  | none =>
    obtain ⟨p, mp, rfl⟩ := List.mem_map.mp h
    have := List.find?_eq_none.mp q p mp
    simp at this
  | some p => rfl
abbrev enT (ws : Ws) (x : Str) (v : Int) (t : Ws) : En := [some (.d (wsD ws)), some (.d (.str x)), some (.d (.int v)), some (.own (.dct (tabOf t)))]
abbrev enF (t : Ws) : En := [some (.d (dctD (tabOf t))), none]
def strD : D → Str
  | .str k => k
  | _ => Str.empty
@[simp] theorem strD_s (k : Str) : strD (.str k) = k := rfl
def fromW (t : Ws) : Ws := ((sortStrs (t.map (·.1))).filter fun k => decide (0 < valW t k)).map fun k => (k, valW t k)
theorem words_from_ok {t : Ws} (hl : t.length < 64) : F_words_from [dctD (tabOf t)] = .ok (.d (wsD (fromW t))) [] := by
  refine run_ok rfl (e := enF t) ?_
  have e2 : mCallD (d1 dSorted) (mCons (mVar 0) mNil) (enF t) = .ok (.own (.lst ((sortStrs (t.map (·.1))).map .str))) (enF t) := by
    have hk : keysOf ((tabOf t).map fun p => (kD p.1, p.2)) = (t.map (·.1)).map .str := by
      unfold keysOf tabOf
      rw [List.map_map, List.map_map, List.map_map]
      rfl
    have hd : dSorted (dctD (tabOf t)) (enF t) = .ok (.own (.lst ((sortStrs (t.map (·.1))).map .str))) (enF t) := by
      unfold dSorted
      have q : sortD (dctD (tabOf t)) = some ((sortStrs (t.map (·.1))).map .str) := by
        unfold dctD
        show (match strsOf (keysOf ((tabOf t).map fun p => (kD p.1, p.2))) with
          | some xs => if xs.length < 64 then some ((sortStrs xs).map PyData.str) else none
          | none => none) = _
        rw [hk, strsOf_map]
        simp [hl]
      rw [q]
      try rfl
    have f0 : mfrz (mVar 0) (enF t) = .ok (.d (dctD (tabOf t))) (enF t) := rfl
    have q : mCallD (d1 dSorted) (mCons (mVar 0) mNil) (enF t) = d1 dSorted [dctD (tabOf t)] (enF t) := by
      rw [s_callD, s_cons, f0]
      rfl
    rw [q, s_d1, hd]
  have hix : ∀ k : Str, k ∈ t.map (·.1) → ixD (dctD (tabOf t)) (.str k) = some (.int (valW t k)) := fun k hk => by
    unfold dctD
    rw [ix_dct, lookD_tab, valD_some hk]
  have hkeys : ∀ d ∈ (sortStrs (t.map (·.1))).map PyData.str, ∃ k, d = .str k ∧ k ∈ t.map (·.1) := fun d m => by
    obtain ⟨k, mk, rfl⟩ := List.mem_map.mp m
    exact ⟨k, rfl, (sortStrs_perm _).mem_iff.mp mk⟩
  have hlen : ((sortStrs (t.map (·.1))).map PyData.str).length ≤ sizeLine := by
    rw [List.length_map, (sortStrs_perm _).length_eq, List.length_map]
    have := sizeLine_ge
    omega
  have ec := compGo_filter (tg := .nm 1) (mc := mB (mOp2 dGt (mOp2 dIx (mVar 0) (mVar 1)) (mC (.int 0)))) (me := mTup (mCons (mVar 1) (mCons (mOp2 dIx (mVar 0) (mVar 1)) mNil))) (en0 := enF t)
    (p := fun d => decide (0 < valW t (strD d))) (g := fun d => pD (strD d, valW t (strD d))) _ [] (fun d m => by
      obtain ⟨k, rfl, hk⟩ := hkeys d m
      have hi := hix k hk
      refine ⟨_, rfl, ?_, fun _ => ?_⟩
      · simp [hi]
        try exact decide_eq_decide.mpr Iff.rfl
      · simp [hi, pD, show 2 ≤ sizeLine by have := sizeLine_ge; omega]) (by simpa using hlen)
  have e3 := comp_ok (en := enF t) (tg := .nm 1) (vs := [1]) rfl ec
  rw [List.nil_append] at e3
  have e4 : (((sortStrs (t.map (·.1))).map PyData.str).filter fun d => decide (0 < valW t (strD d))).map (fun d => pD (strD d, valW t (strD d))) = (((sortStrs (t.map (·.1))).filter fun k => decide (0 < valW t k)).map fun k => (k, valW t k)).map pD := by
    rw [List.filter_map, List.map_map, List.map_map]
    rfl
  rw [e4] at e3
  unfold m_words_from
  show mRet _ (enF t) = _
  rw [s_ret, s_callD, s_cons, s_frz, s_lc, s_frz, e2]
  dsimp only
  rw [e3]
  rfl
theorem flat_ws (ws : Ws) : flat (wsD ws) = true := by
  show flats (ws.map pD) = true
  induction ws with
  | nil => rfl
  | cons p r ih =>
    rw [List.map_cons]
    show (flat (pD p) && flats (r.map pD)) = true
    rw [ih]
    rfl
theorem tab_at (t : Ws) : ((tabOf t).all fun p => isAt p.2) = true := by
  unfold tabOf
  rw [List.all_map]
  exact List.all_eq_true.mpr fun _ _ => rfl
theorem words_with_ok {ws : Ws} (h : Good ws) (x : Str) (v : Int) : F_words_with [wsD ws, .str x, .int v] = .ok (.d (wsD (withW ws x v))) [] := by
  refine run_ok rfl (e := enT ws x v (putW ws x v)) ?_
  have e := table_ok h
  have hl : (putW ws x v).length < 64 := by have := putW_len ws x v; have := h.few; omega
  have e0 : (mSet 3 (mCall F_table_of (mCons (mVar 0) mNil))) [some (.d (wsD ws)), some (.d (.str x)), some (.d (.int v)), none] = .ok .nx (enT ws x v ws) := by
    simp [e, flat_tab]
  have e1 : mDPut 3 (mVar 1) (mVar 2) (enT ws x v ws) = .ok .nx (enT ws x v (putW ws x v)) := by
    have hs : (tabOf ws).length < sizeLine := by unfold tabOf; rw [List.length_map]; have := sizeLine_ge; have := h.few; omega
    unfold mDPut
    rw [s_bind]
    simp [keyD, hs, putD_tab]
  have hw : withW ws x v = fromW (putW ws x v) := rfl
  rw [hw]
  clear hw
  generalize putW ws x v = t at *
  have hf := words_from_ok hl
  have f3 : mfrz (mVar 3) (enT ws x v t) = .ok (.bor 3) (enT ws x v t) := rfl
  have f4 : lentOk (enT ws x v t) (.bor 3) = true := rfl
  have f5 : looksA (enT ws x v t) [.bor 3] = some [dctD (tabOf t)] := by
    have : lookA (enT ws x v t) (.bor 3) = some (dctD (tabOf t)) := by
      show (if ((tabOf t).all fun p => isAt p.2) = true then some (dctD (tabOf t)) else none) = _
      rw [if_pos (tab_at t)]
    rw [s_looksA_cons, this]
    rfl
  have f6 : mCall F_words_from (mCons (mVar 3) (mNil)) (enT ws x v t) = .ok (.d (wsD (fromW t))) (enT ws x v t) := by
    have c : mCons (mVar 3) mNil (enT ws x v t) = .ok [.bor 3] (enT ws x v t) := by
      rw [s_cons, f3]
      dsimp only
      rw [s_nil]
      dsimp only
      rw [if_pos f4]
    rw [s_call, c]
    dsimp only
    rw [f5]
    dsimp only
    rw [hf]
    dsimp only
    rw [if_pos (flat_ws _)]
  unfold m_words_with
  show mSeq _ _ [some (.d (wsD ws)), some (.d (.str x)), some (.d (.int v)), none] = _
  rw [s_seq, e0]
  dsimp only
  rw [s_seq, e1]
  dsimp only
  rw [s_ret, f6]
end K03

namespace K03
open PySem PySem.Spec PyProof.Rows L2
theorem ge2 : 2 ≤ sizeLine := by have := sizeLine_ge; omega
theorem operated_same {op : Str} (h : op ∈ ([("+" : Str), "-", "*", "max", "min", "<", "="] : List Str)) {a b : Int} (ha : 0 ≤ a ∧ a < 1000003) (hb : 0 ≤ b ∧ b < 1000003) :
    ∃ r : Int, F_operated [.str op, .int a, .int b] = .ok (.d (.int r)) [] ∧ F__law_operated [.str op, .int a, .int b] = .ok (.d (.int r)) [] := by
  have mu : a < 18446744073709551616 ∨ b < 18446744073709551616 := .inl (by omega)
  have mu2 : -18446744073709551616 < a ∧ a < 18446744073709551616 := ⟨by omega, by omega⟩
  simp only [List.mem_cons, List.not_mem_nil, or_false] at h
  rcases h with rfl | rfl | rfl | rfl | rfl | rfl | rfl
  · exact ⟨(a + b) % 1000003, run_ok rfl (e := [some (.d (.str "+")), some (.d (.int a)), some (.d (.int b))]) (by simp [m_operated, (by decide : ¬ ("+" : Str) = "-"), (by decide : ¬ ("+" : Str) = "*"), (by decide : ¬ ("+" : Str) = "max"), (by decide : ¬ ("+" : Str) = "min"), (by decide : ¬ ("+" : Str) = "<"), mu2, ge2]), run_ok rfl (e := [some (.d (.str "+")), some (.d (.int a)), some (.d (.int b))]) (by simp [m__law_operated, (by decide : ¬ ("+" : Str) = "-"), (by decide : ¬ ("+" : Str) = "*"), (by decide : ¬ ("+" : Str) = "max"), (by decide : ¬ ("+" : Str) = "min"), (by decide : ¬ ("+" : Str) = "<"), mu2, ge2])⟩
  · exact ⟨(a - b) % 1000003, run_ok rfl (e := [some (.d (.str "-")), some (.d (.int a)), some (.d (.int b))]) (by simp [m_operated, (by decide : ¬ ("-" : Str) = "+"), (by decide : ¬ ("-" : Str) = "*"), (by decide : ¬ ("-" : Str) = "max"), (by decide : ¬ ("-" : Str) = "min"), (by decide : ¬ ("-" : Str) = "<"), mu2, ge2]), run_ok rfl (e := [some (.d (.str "-")), some (.d (.int a)), some (.d (.int b))]) (by simp [m__law_operated, (by decide : ¬ ("-" : Str) = "+"), (by decide : ¬ ("-" : Str) = "*"), (by decide : ¬ ("-" : Str) = "max"), (by decide : ¬ ("-" : Str) = "min"), (by decide : ¬ ("-" : Str) = "<"), mu2, ge2])⟩
  · exact ⟨(a * b) % 1000003, run_ok rfl (e := [some (.d (.str "*")), some (.d (.int a)), some (.d (.int b))]) (by simp [m_operated, (by decide : ¬ ("*" : Str) = "+"), (by decide : ¬ ("*" : Str) = "-"), (by decide : ¬ ("*" : Str) = "max"), (by decide : ¬ ("*" : Str) = "min"), (by decide : ¬ ("*" : Str) = "<"), mu2, ge2]), run_ok rfl (e := [some (.d (.str "*")), some (.d (.int a)), some (.d (.int b))]) (by simp [m__law_operated, (by decide : ¬ ("*" : Str) = "+"), (by decide : ¬ ("*" : Str) = "-"), (by decide : ¬ ("*" : Str) = "max"), (by decide : ¬ ("*" : Str) = "min"), (by decide : ¬ ("*" : Str) = "<"), mu2, ge2])⟩
  · refine ⟨if b > a then b else a, run_ok rfl (e := [some (.d (.str "max")), some (.d (.int a)), some (.d (.int b))]) (by simp [m_operated, (by decide : ¬ ("max" : Str) = "+"), (by decide : ¬ ("max" : Str) = "-"), (by decide : ¬ ("max" : Str) = "*"), (by decide : ¬ ("max" : Str) = "min"), (by decide : ¬ ("max" : Str) = "<"), mu2, ge2]), run_ok rfl (e := [some (.d (.str "max")), some (.d (.int a)), some (.d (.int b))]) ?_⟩
    by_cases c : a < b
    · simp [m__law_operated, (by decide : ¬ ("max" : Str) = "+"), (by decide : ¬ ("max" : Str) = "-"), (by decide : ¬ ("max" : Str) = "*"), (by decide : ¬ ("max" : Str) = "min"), (by decide : ¬ ("max" : Str) = "<"), mu2, ge2, c]
      try omega
    · simp [m__law_operated, (by decide : ¬ ("max" : Str) = "+"), (by decide : ¬ ("max" : Str) = "-"), (by decide : ¬ ("max" : Str) = "*"), (by decide : ¬ ("max" : Str) = "min"), (by decide : ¬ ("max" : Str) = "<"), mu2, ge2, c]
      try omega
  · refine ⟨if b < a then b else a, run_ok rfl (e := [some (.d (.str "min")), some (.d (.int a)), some (.d (.int b))]) (by simp [m_operated, (by decide : ¬ ("min" : Str) = "+"), (by decide : ¬ ("min" : Str) = "-"), (by decide : ¬ ("min" : Str) = "*"), (by decide : ¬ ("min" : Str) = "max"), (by decide : ¬ ("min" : Str) = "<"), mu2, ge2]), run_ok rfl (e := [some (.d (.str "min")), some (.d (.int a)), some (.d (.int b))]) ?_⟩
    by_cases c : a < b
    · simp [m__law_operated, (by decide : ¬ ("min" : Str) = "+"), (by decide : ¬ ("min" : Str) = "-"), (by decide : ¬ ("min" : Str) = "*"), (by decide : ¬ ("min" : Str) = "max"), (by decide : ¬ ("min" : Str) = "<"), mu2, ge2, c]
      try omega
    · simp [m__law_operated, (by decide : ¬ ("min" : Str) = "+"), (by decide : ¬ ("min" : Str) = "-"), (by decide : ¬ ("min" : Str) = "*"), (by decide : ¬ ("min" : Str) = "max"), (by decide : ¬ ("min" : Str) = "<"), mu2, ge2, c]
      try omega
  · exact ⟨if decide (a < b) = true then 1 else 0, run_ok rfl (e := [some (.d (.str "<")), some (.d (.int a)), some (.d (.int b))]) (by simp [m_operated, (by decide : ¬ ("<" : Str) = "+"), (by decide : ¬ ("<" : Str) = "-"), (by decide : ¬ ("<" : Str) = "*"), (by decide : ¬ ("<" : Str) = "max"), (by decide : ¬ ("<" : Str) = "min"), mu2, ge2]), run_ok rfl (e := [some (.d (.str "<")), some (.d (.int a)), some (.d (.int b))]) (by simp [m__law_operated, (by decide : ¬ ("<" : Str) = "+"), (by decide : ¬ ("<" : Str) = "-"), (by decide : ¬ ("<" : Str) = "*"), (by decide : ¬ ("<" : Str) = "max"), (by decide : ¬ ("<" : Str) = "min"), mu2, ge2])⟩
  · exact ⟨if decide (a = b) = true then 1 else 0, run_ok rfl (e := [some (.d (.str "=")), some (.d (.int a)), some (.d (.int b))]) (by simp [m_operated, (by decide : ¬ ("=" : Str) = "+"), (by decide : ¬ ("=" : Str) = "-"), (by decide : ¬ ("=" : Str) = "*"), (by decide : ¬ ("=" : Str) = "max"), (by decide : ¬ ("=" : Str) = "min"), (by decide : ¬ ("=" : Str) = "<"), mu2, ge2]), run_ok rfl (e := [some (.d (.str "=")), some (.d (.int a)), some (.d (.int b))]) (by simp [m__law_operated, (by decide : ¬ ("=" : Str) = "+"), (by decide : ¬ ("=" : Str) = "-"), (by decide : ¬ ("=" : Str) = "*"), (by decide : ¬ ("=" : Str) = "max"), (by decide : ¬ ("=" : Str) = "min"), (by decide : ¬ ("=" : Str) = "<"), mu2, ge2])⟩
/-! ### _law_equal of the same -/
def lvl : Nat → D → Bool
  | 0, _ => false
  | _ + 1, .int _ => true
  | _ + 1, .str _ => true
  | _ + 1, .bool _ => true
  | _ + 1, .none => true
  | n + 1, .tuple ds => ds.all (lvl n) && decide (ds.length ≤ 1000000)
  | _ + 1, .list _ => false
  | _ + 1, .dict _ => false
@[simp] theorem s_dIs_none (x : D) : dIs x .none = mpure (.d (.bool (isNone x))) := by
  cases x <;> rfl
theorem equal_refl : ∀ (n : Nat) (d : D), lvl n d = true → F__law_equal n [d, d] = .ok (.d (.bool true)) []
  | 0, _, h => by cases h
  | n + 1, .int i, _ => by
    show runF 2 3 (m__law_equal (F__law_equal n)) _ = _
    exact run_ok rfl (e := [some (.d (.int i)), some (.d (.int i)), none]) (by simp [m__law_equal, isNone, isiD])
  | n + 1, .str i, _ => by
    show runF 2 3 (m__law_equal (F__law_equal n)) _ = _
    exact run_ok rfl (e := [some (.d (.str i)), some (.d (.str i)), none]) (by simp [m__law_equal, isNone, isiD])
  | n + 1, .bool i, _ => by
    show runF 2 3 (m__law_equal (F__law_equal n)) _ = _
    exact run_ok rfl (e := [some (.d (.bool i)), some (.d (.bool i)), none]) (by simp [m__law_equal, isNone, isiD])
  | n + 1, .none, _ => by
    show runF 2 3 (m__law_equal (F__law_equal n)) _ = _
    exact run_ok rfl (e := [some (.d .none), some (.d .none), none]) (by simp [m__law_equal, isNone, isiD])
  | n + 1, .tuple ds, h => by
    show runF 2 3 (m__law_equal (F__law_equal n)) _ = _
    unfold lvl at h
    simp only [Bool.and_eq_true, decide_eq_true_eq, List.all_eq_true] at h
    obtain ⟨hd, hl⟩ := h
    have hr : -(2 ^ 62) ≤ (ds.length : Int) ∧ (ds.length : Int) < 2 ^ 62 := ⟨by omega, by omega⟩
    obtain ⟨e', h1, jv, h2⟩ := for_inv (tg := .nm 2) (body := mIfS (mNotT (mB (mCall (F__law_equal n) (mCons (mOp2 dIx (mVar 0) (mVar 2)) (mCons (mOp2 dIx (mVar 1) (mVar 2)) (mNil)))))) (mRet (mC (.bool false))) (mNx)) (ds := rngD 0 ds.length)
      (fun _ e => ∃ jv, e = [some (.d (.tuple ds)), some (.d (.tuple ds)), jv]) (fun i d e hi ⟨jv, he⟩ => by
        obtain ⟨li, rfl⟩ := rng_get hi
        subst he
        have ha : atI ds ((0 : Int) + (i : Nat)) = some ds[i] := atI_at (by omega) (by simp [List.getElem?_eq_getElem li])
        have ih := equal_refl n ds[i] (hd _ (List.getElem_mem li))
        rw [Int.zero_add] at ha
        refine ⟨_, [some (.d (.tuple ds)), some (.d (.tuple ds)), some (.d (.int (0 + (i : Nat))))], rfl, .inl ?_, _, rfl⟩
        simp [ha, ih, flat]) (e := [some (.d (.tuple ds)), some (.d (.tuple ds)), none]) ⟨_, rfl⟩
    subst h2
    refine run_ok rfl (e := [some (.d (.tuple ds)), some (.d (.tuple ds)), jv]) ?_
    simp at hr
    simp [m__law_equal, isNone, isiD, hr, h1]
end K03

namespace K03
open PySem PySem.Spec PyProof.Rows L2
theorem ix_scr_at {ns : List Int} {i : Int} (h0 : 0 ≤ i) (h1 : i < ns.length) : ∃ z : Int, ixD (scrD ns) (.int i) = some (.int z) := by
  have hl : i.toNat < ns.length := by omega
  refine ⟨ns[i.toNat], ?_⟩
  rw [ix_scr]
  exact atI_at h0 (by rw [List.getElem?_map, List.getElem?_eq_getElem hl]; rfl)
/-- what is drawn lies below the bounds -/
def InB (ds bs : List Int) : Prop := ∀ (i : Nat) (d b : Int), ds[i]? = some d → bs[i]? = some b → 0 ≤ d ∧ d < b
abbrev enD (ns : List Int) (k : Int) (bs : List Int) (cell rest : Int) (ds : List Int) (j mx : Option SV) : En := [some (.d (scrD ns)), some (.d (.int k)), some (.d (.list (bs.map .int))), some (.d (.int cell)), some (.d (.int rest)), some (.own (.lst (ds.map .int))), j, mx]
abbrev bodyD : M Ct := mIfS (mB (mOp2 dGt (mVar 4) (mC (.int 0)))) (mSeq (mAppend 5 (mOp2 dMod (mCallD (d1 dInt) (mCons (mVar 4) (mNil))) (mOp2 dIx (mVar 2) (mVar 6)))) (mSet 4 (mOp2 dDiv (mVar 4) (mOp2 dIx (mVar 2) (mVar 6))))) (mSeq (mSet 7 (mOp2 dMod (mCallD (d1 dInt) (mCons (mOp2 dAdd (mOp2 dAdd (mOp2 dAdd (mOp2 dMulL (mVar 3) (mC (.int 48271))) (mOp2 dMulL (mVar 1) (mC (.int 69621)))) (mOp2 dMulL (mVar 6) (mC (.int 40692)))) (mC (.int 12345))) (mNil))) (mC (.int 2147483647)))) (mSeq (mSet 7 (mOp2 dMod (mCallD (d1 dInt) (mCons (mOp2 dAdd (mOp2 dAdd (mOp2 dMulL (mVar 7) (mVar 7)) (mOp2 dMulL (mVar 6) (mC (.int 16807)))) (mC (.int 271))) (mNil))) (mC (.int 2147483563)))) (mSeq (mSet 7 (mOp2 dMod (mCallD (d1 dInt) (mCons (mOp2 dAdd (mOp2 dAdd (mOp2 dMulL (mVar 7) (mVar 7)) (mOp2 dMulL (mVar 7) (mC (.int 39373)))) (mC (.int 7))) (mNil))) (mC (.int 2147483399)))) (mAppend 5 (mOp2 dMod (mOp2 dDiv (mVar 7) (mC (.int 16))) (mOp2 dIx (mVar 2) (mVar 6)))))))
section
variable (ns : List Int) (k cell rest : Int) (bs ds : List Int) (i : Int)
theorem dr1 (mx : Option SV) : (mSet 7 (mOp2 dMod (mCallD (d1 dInt) (mCons (mOp2 dAdd (mOp2 dAdd (mOp2 dAdd (mOp2 dMulL (mVar 3) (mC (.int 48271))) (mOp2 dMulL (mVar 1) (mC (.int 69621)))) (mOp2 dMulL (mVar 6) (mC (.int 40692)))) (mC (.int 12345))) (mNil))) (mC (.int 2147483647)))) (enD ns k bs cell rest ds (some (.d (.int i))) mx) = .ok .nx (enD ns k bs cell rest ds (some (.d (.int i))) (some (.d (.int ((cell * 48271 + k * 69621 + i * 40692 + 12345) % 2147483647))))) := by
  simp
theorem dr2 (x1 : Int) (g : x1 < 18446744073709551616 ∧ -18446744073709551616 < x1) : (mSet 7 (mOp2 dMod (mCallD (d1 dInt) (mCons (mOp2 dAdd (mOp2 dAdd (mOp2 dMulL (mVar 7) (mVar 7)) (mOp2 dMulL (mVar 6) (mC (.int 16807)))) (mC (.int 271))) (mNil))) (mC (.int 2147483563)))) (enD ns k bs cell rest ds (some (.d (.int i))) (some (.d (.int x1)))) = .ok .nx (enD ns k bs cell rest ds (some (.d (.int i))) (some (.d (.int ((x1 * x1 + i * 16807 + 271) % 2147483563))))) := by
  simp [g.1, g.2]
theorem dr3 (x2 : Int) (g : x2 < 18446744073709551616 ∧ -18446744073709551616 < x2) : (mSet 7 (mOp2 dMod (mCallD (d1 dInt) (mCons (mOp2 dAdd (mOp2 dAdd (mOp2 dMulL (mVar 7) (mVar 7)) (mOp2 dMulL (mVar 7) (mC (.int 39373)))) (mC (.int 7))) (mNil))) (mC (.int 2147483399)))) (enD ns k bs cell rest ds (some (.d (.int i))) (some (.d (.int x2)))) = .ok .nx (enD ns k bs cell rest ds (some (.d (.int i))) (some (.d (.int ((x2 * x2 + x2 * 39373 + 7) % 2147483399))))) := by
  simp [g.1, g.2]
theorem dr4 (x3 b : Int) (hi : atI (bs.map PyData.int) i = some (.int b)) (b0 : 0 < b) (hs : ds.length < sizeLine) : (mAppend 5 (mOp2 dMod (mOp2 dDiv (mVar 7) (mC (.int 16))) (mOp2 dIx (mVar 2) (mVar 6)))) (enD ns k bs cell rest ds (some (.d (.int i))) (some (.d (.int x3)))) = .ok .nx (enD ns k bs cell rest (ds ++ [x3 / 16 % b]) (some (.d (.int i))) (some (.d (.int x3)))) := by
  simp [hi, b0, hs]
theorem dr5 (mx : Option SV) (b : Int) (hi : atI (bs.map PyData.int) i = some (.int b)) (b0 : 0 < b) (b1 : b < 18446744073709551616) (hs : ds.length < sizeLine) (c : 0 < rest) : bodyD (enD ns k bs cell rest ds (some (.d (.int i))) mx) = .ok .nx (enD ns k bs cell (rest / b) (ds ++ [rest % b]) (some (.d (.int i))) mx) := by
  simp [c, hi, b0, b1, hs]
theorem md (y m : Int) (h : 0 < m) : 0 ≤ y % m ∧ y % m < m := ⟨Int.emod_nonneg _ (by omega), Int.emod_lt_of_pos _ h⟩
theorem dr6 (mx : Option SV) (b : Int) (hi : atI (bs.map PyData.int) i = some (.int b)) (b0 : 0 < b) (hs : ds.length < sizeLine) (c : ¬ 0 < rest) : ∃ x3 : Int, bodyD (enD ns k bs cell rest ds (some (.d (.int i))) mx) = .ok .nx (enD ns k bs cell rest (ds ++ [x3 / 16 % b]) (some (.d (.int i))) (some (.d (.int x3)))) := by
  have t : mB (mOp2 dGt (mVar 4) (mC (.int 0))) (enD ns k bs cell rest ds (some (.d (.int i))) mx) = .ok false (enD ns k bs cell rest ds (some (.d (.int i))) mx) := by simp [c]
  have h1 := dr1 ns k cell rest bs ds i mx
  have p1 := md (cell * 48271 + k * 69621 + i * 40692 + 12345) 2147483647 (by omega)
  generalize (cell * 48271 + k * 69621 + (i : Int) * 40692 + 12345) % 2147483647 = x1 at h1 p1
  have h2 := dr2 ns k cell rest bs ds i x1 ⟨by omega, by omega⟩
  have p2 := md (x1 * x1 + i * 16807 + 271) 2147483563 (by omega)
  generalize (x1 * x1 + (i : Int) * 16807 + 271) % 2147483563 = x2 at h2 p2
  have h3 := dr3 ns k cell rest bs ds i x2 ⟨by omega, by omega⟩
  generalize (x2 * x2 + x2 * 39373 + 7) % 2147483399 = x3 at h3
  refine ⟨x3, ?_⟩
  unfold bodyD
  rw [s_ifS, t]
  dsimp only
  rw [s_seq, h1]
  dsimp only
  rw [s_seq, h2]
  dsimp only
  rw [s_seq, h3]
  dsimp only
  exact dr4 ns k cell rest bs ds i x3 b hi b0 hs
end
/-- the bounds that are drawn below -/
structure Bnds (bs : List Int) : Prop where
  few : bs.length ≤ 1000
  pos : ∀ b ∈ bs, 0 < b
  lt : ∀ b ∈ bs, b < 18446744073709551616
theorem turns (ns : List Int) (k cell rest : Int) (bs : List Int) (B : Bnds bs) : ∃ e' rest' ds j mx, forGo (.nm 6) none bodyD (rngD 0 bs.length) (enD ns k bs cell rest [] none none) = .ok .nx e' ∧ e' = enD ns k bs cell rest' ds j mx ∧ ds.length = bs.length ∧ InB ds bs := by
  obtain ⟨e', h1, h2⟩ := for_inv (tg := .nm 6) (body := bodyD) (ds := rngD 0 bs.length) (e := enD ns k bs cell rest [] none none)
    (fun i e => ∃ (rest' : Int) (ds : List Int) (j mx : Option SV), e = enD ns k bs cell rest' ds j mx ∧ ds.length = i ∧ InB ds bs) (fun i d e hi ⟨rest', ds, j, mx, he, hl, hb⟩ => by
      obtain ⟨li, rfl⟩ := rng_get hi
      subst he
      rw [Int.zero_add]
      have hbi : bs[i]? = some bs[i] := List.getElem?_eq_getElem li
      have b0 := B.pos _ (List.getElem_mem li)
      have b1 := B.lt _ (List.getElem_mem li)
      have hs : ds.length < sizeLine := by have := sizeLine_ge; have := B.few; omega
      have ha : atI (bs.map PyData.int) (i : Int) = some (.int bs[i]) := atI_at (by omega) (by rw [Int.toNat_natCast, List.getElem?_map, hbi]; rfl)
      have inb : ∀ x, 0 ≤ x → x < bs[i] → InB (ds ++ [x]) bs := fun x h0 h1 m d b q1 q2 => by
        by_cases hm : m < ds.length
        · rw [List.getElem?_append_left hm] at q1
          exact hb m d b q1 q2
        · rw [List.getElem?_append_right (by omega)] at q1
          have e0 : m - ds.length = 0 := by
            have := (List.getElem?_eq_some_iff.mp q1).1
            simp at this
            omega
          rw [e0] at q1
          have em : m = i := by omega
          subst em
          rw [hbi] at q2
          cases q1
          cases q2
          exact ⟨h0, h1⟩
      by_cases c : 0 < rest'
      · exact ⟨_, _, rfl, .inl (dr5 ns k cell rest' bs ds (i : Int) mx _ ha b0 b1 hs c), _, _, _, _, rfl, by simp [hl], inb _ (md _ _ b0).1 (md _ _ b0).2⟩
      · obtain ⟨x3, q⟩ := dr6 ns k cell rest' bs ds (i : Int) mx _ ha b0 hs c
        exact ⟨_, _, rfl, .inl q, _, _, _, _, rfl, by simp [hl], inb _ (md _ _ b0).1 (md _ _ b0).2⟩)
    ⟨rest, [], none, none, rfl, rfl, fun i d b q _ => by simp at q⟩
  obtain ⟨rest', ds, j, mx, he, hl, hb⟩ := h2
  rw [show (rngD 0 bs.length).length = bs.length by unfold rngD; simp] at hl
  exact ⟨e', rest', ds, j, mx, h1, he, hl, hb⟩
theorem p18 : (10 : Int) ^ (18 : Int).toNat = 1000000000000000000 := by decide
theorem draws_pre (ns : List Int) (k : Int) (hk : 0 ≤ k) (bs : List Int) : ∃ cell rest : Int, ∀ n : M Ct, (mSeq (mSet 3 (mC (.int 0))) (mSeq (mSet 4 (mC (.int 0))) (mSeq (mIfS (mB (mOp2 dLt (mVar 1) (mCallD (d1 dLen) (mCons (mVar 0) (mNil))))) (mSeq (mSet 3 (mCallD (d1 dInt) (mCons (mOp2 dIx (mVar 0) (mVar 1)) (mNil)))) (mSet 4 (mCallD dMax2 (mCons (mC (.int 0)) (mCons (mOp2 dSub (mVar 3) (mOp2 dPow (mC (.int 10)) (mC (.int 18)))) (mNil)))))) (mIfS (mB (mOp2 dGt (mCallD (d1 dLen) (mCons (mVar 0) (mNil))) (mC (.int 0)))) (mSet 3 (mCallD (d1 dInt) (mCons (mOp2 dIx (mVar 0) (mOp2 dMod (mCallD (d1 dInt) (mCons (mVar 1) (mNil))) (mCallD (d1 dLen) (mCons (mVar 0) (mNil))))) (mNil)))) (mNx))) n)))
      [some (.d (scrD ns)), some (.d (.int k)), some (.d (.list (bs.map .int))), none, none, none, none, none] = n [some (.d (scrD ns)), some (.d (.int k)), some (.d (.list (bs.map .int))), some (.d (.int cell)), some (.d (.int rest)), none, none, none] := by
  by_cases c : k < ns.length
  · obtain ⟨z, hz⟩ := ix_scr_at hk c
    refine ⟨z, if z - 1000000000000000000 > 0 then z - 1000000000000000000 else 0, fun n => ?_⟩
    simp [c, hz]
  · by_cases c2 : 0 < ns.length
    · obtain ⟨z, hz⟩ := ix_scr_at (ns := ns) (i := k % (ns.length : Int)) (md _ _ (by omega)).1 (md _ _ (by omega)).2
      refine ⟨z, 0, fun n => ?_⟩
      simp [c, c2, hz]
    · refine ⟨0, 0, fun n => ?_⟩
      simp [c, c2]

theorem draws_loop (ns : List Int) (k cell rest rest' : Int) (bs ds : List Int) (j mx : Option SV) (B : Bnds bs) (h1 : forGo (.nm 6) none bodyD (rngD 0 bs.length) (enD ns k bs cell rest [] none none) = .ok .nx (enD ns k bs cell rest' ds j mx)) :
    mForR1 (.nm 6) (mCons (mCallD (d1 dLen) (mCons (mVar 2) (mNil))) (mNil)) bodyD (enD ns k bs cell rest [] none none) = .ok .nx (enD ns k bs cell rest' ds j mx) := by
  have h : (mCons (mCallD (d1 dLen) (mCons (mVar 2) (mNil))) (mNil)) (enD ns k bs cell rest [] none none) = .ok [.d (.int (bs.length : Int))] (enD ns k bs cell rest [] none none) := by simp
  have hb : (bs.length : Int) ≤ 1000000 := by have := B.few; omega
  have := forR1_run (tg := .nm 6) (body := bodyD) h (by omega) hb
  rw [Int.toNat_natCast] at this
  exact this.trans h1
theorem draws_tail (ns : List Int) (k cell rest : Int) (bs : List Int) (B : Bnds bs) : ∃ e' ds, (mSeq (mSet 5 (mLst (mNil))) (mSeq (mForR1 (.nm 6) (mCons (mCallD (d1 dLen) (mCons (mVar 2) (mNil))) (mNil)) bodyD) (mRet (mVar 5)))) [some (.d (scrD ns)), some (.d (.int k)), some (.d (.list (bs.map .int))), some (.d (.int cell)), some (.d (.int rest)), none, none, none] = .ok (.rt (.bor 5)) e' ∧ e'[5]? = some (some (.own (.lst (ds.map .int)))) ∧ ds.length = bs.length ∧ InB ds bs := by
  obtain ⟨e', rest', ds, j, mx, h1, he, hl, hb⟩ := turns ns k cell rest bs B
  subst he
  refine ⟨enD ns k bs cell rest' ds j mx, ds, ?_, rfl, hl, hb⟩
  have h0 : mSet 5 (mLst mNil) [some (.d (scrD ns)), some (.d (.int k)), some (.d (.list (bs.map .int))), some (.d (.int cell)), some (.d (.int rest)), none, none, none] = .ok .nx (enD ns k bs cell rest [] none none) := by simp
  have h2 := draws_loop ns k cell rest rest' bs ds j mx B h1
  rw [s_seq, h0]
  dsimp only
  rw [s_seq, h2]
  rfl
theorem draws_is : m__law_draws = (mSeq (mSet 3 (mC (.int 0))) (mSeq (mSet 4 (mC (.int 0))) (mSeq (mIfS (mB (mOp2 dLt (mVar 1) (mCallD (d1 dLen) (mCons (mVar 0) (mNil))))) (mSeq (mSet 3 (mCallD (d1 dInt) (mCons (mOp2 dIx (mVar 0) (mVar 1)) (mNil)))) (mSet 4 (mCallD dMax2 (mCons (mC (.int 0)) (mCons (mOp2 dSub (mVar 3) (mOp2 dPow (mC (.int 10)) (mC (.int 18)))) (mNil)))))) (mIfS (mB (mOp2 dGt (mCallD (d1 dLen) (mCons (mVar 0) (mNil))) (mC (.int 0)))) (mSet 3 (mCallD (d1 dInt) (mCons (mOp2 dIx (mVar 0) (mOp2 dMod (mCallD (d1 dInt) (mCons (mVar 1) (mNil))) (mCallD (d1 dLen) (mCons (mVar 0) (mNil))))) (mNil)))) (mNx))) (mSeq (mSet 5 (mLst (mNil))) (mSeq (mForR1 (.nm 6) (mCons (mCallD (d1 dLen) (mCons (mVar 2) (mNil))) (mNil)) bodyD) (mRet (mVar 5))))))) := rfl
theorem draws_ok (ns : List Int) (k : Int) (hk : 0 ≤ k) (bs : List Int) (B : Bnds bs) : ∃ ds : List Int, F__law_draws [scrD ns, .int k, .list (bs.map .int)] = .ok (.own (.lst (ds.map .int))) [] ∧ ds.length = bs.length ∧ InB ds bs := by
  obtain ⟨cell, rest, pre⟩ := draws_pre ns k hk bs
  obtain ⟨e', ds, h1, h2, hl, hb⟩ := draws_tail ns k cell rest bs B
  refine ⟨ds, run_bor rfl (i := 5) (e := e') ?_ h2, hl, hb⟩
  rw [draws_is]
  exact (pre _).trans h1
end K03

namespace K03
open PySem PySem.Spec PyProof.Rows L2
theorem flats_ints : ∀ ds : List Int, flats (ds.map .int) = true
  | [] => rfl
  | x :: r => by
    show (flat (.int x) && flats (r.map .int)) = true
    rw [flats_ints r]
    rfl
theorem flatO_ints (ds : List Int) : flatO (.lst (ds.map .int)) = true := flats_ints ds
theorem atI_int {ds : List Int} {i : Nat} {d : Int} (h : ds[i]? = some d) : atI (ds.map PyData.int) ((i : Nat) : Int) = some (.int d) := atI_at (by omega) (by rw [Int.toNat_natCast, List.getElem?_map, h]; rfl)
theorem bnds_of {bs : List Int} (h : bs.length ≤ 1000) (p : ∀ b ∈ bs, 0 < b ∧ b < 18446744073709551616) : Bnds bs := ⟨h, fun b m => (p b m).1, fun b m => (p b m).2⟩
theorem ge9 : 9 ≤ sizeLine := by have := sizeLine_ge; omega
theorem six (a b c d e f : D) (i : Int) (h0 : 0 ≤ i) (h1 : i < 6) : ∃ x ∈ [a, b, c, d, e, f], atI [a, b, c, d, e, f] i = some x := by
  have hl : i.toNat < [a, b, c, d, e, f].length := by simp; omega
  exact ⟨_, List.getElem_mem hl, atI_at h0 (List.getElem?_eq_getElem hl)⟩
theorem big_ok (ns : List Int) (k : Int) (hk : 0 ≤ k) : ∃ r : Int, F__law_big [scrD ns, .int k] = .ok (.d (.int r)) [] ∧ 0 ≤ r ∧ r < 1000003 := by
  obtain ⟨ds, h, hl, hb⟩ := draws_ok ns k hk [6, 1000003] (bnds_of (by decide) (by simp))
  match ds, hl with
  | [x, y], _ =>
    have hx := hb 0 x 6 rfl rfl
    have hy := hb 1 y 1000003 rfl rfl
    obtain ⟨z, mz, hz⟩ := six (.int 0) (.int 1) (.int 1000002) (.int (y % 10)) (.int y) (.int y) x hx.1 hx.2
    have ha : atI [PyData.int x, PyData.int y] 0 = some (.int x) := rfl
    have hb : atI [PyData.int x, PyData.int y] 1 = some (.int y) := rfl
    have hf : flatO (.lst [PyData.int x, PyData.int y]) = true := rfl
    have hz2 : ∃ r : Int, z = .int r ∧ 0 ≤ r ∧ r < 1000003 := by
      simp only [List.mem_cons, List.not_mem_nil, or_false] at mz
      rcases mz with rfl | rfl | rfl | rfl | rfl | rfl
      · exact ⟨_, rfl, by omega, by omega⟩
      · exact ⟨_, rfl, by omega, by omega⟩
      · exact ⟨_, rfl, by omega, by omega⟩
      · exact ⟨_, rfl, by omega, by omega⟩
      · exact ⟨_, rfl, hy.1, hy.2⟩
      · exact ⟨_, rfl, hy.1, hy.2⟩
    obtain ⟨r, rfl, h0, h1⟩ := hz2
    refine ⟨r, run_ok rfl (e := [some (.d (scrD ns)), some (.d (.int k)), some (.own (.lst [.int x, .int y]))]) ?_, h0, h1⟩
    simp only [List.map_cons, List.map_nil] at h
    have g2 := ge2
    have g6 : 6 ≤ sizeLine := by have := ge9; omega
    simp [m__law_big, h, hf, ha, hb, g2, g6, hz]
end K03

namespace L2
open PySem PySem.Spec PyProof.Rows
@[simp] theorem s_tru {en : En} (m : M SV) : mTru m en = match mfrz m en with
  | .ok sv e => (match look e sv with
    | some d => (match truD d with
      | some b => .ok b e
      | none => .stuck)
    | none => .stuck)
  | .exc x e => .exc x e
  | .stuck => .stuck := by
  unfold mTru
  rw [s_bind]
  cases mfrz m en with
  | ok a e => first | rfl | (dsimp only; cases look e a <;> first | rfl | (rename_i d; dsimp only; cases truD d <;> rfl))
  | exc _ _ => rfl
  | stuck => rfl
@[simp] theorem s_tru_b (b : Bool) : truD (.bool b) = some b := rfl
@[simp] theorem s_for {en : En} (tg : Tg) (wb : List Nat) (me : M SV) (body : M Ct) : mFor tg wb me body en = match mfrz me en with
  | .ok (.d (.list ds)) e => forGo tg none body ds e
  | .ok (.d (.tuple ds)) e => forGo tg none body ds e
  | .ok (.d (.str z)) e => forGo tg none body (L2.signs z) e
  | .ok (.bor i) e => (match e[i]? with
    | some (some (.own (.lst ds))) => if (tg.slots ++ wb).contains i then .stuck else forGo tg (some (i, ds)) body ds e
    | _ => .stuck)
  | .exc x e => .exc x e
  | _ => .stuck := by
  unfold mFor
  rw [s_bind]
  cases mfrz me en with
  | ok sv e => cases sv with
    | d d => cases d <;> rfl
    | bor _ => rfl
    | own _ => rfl
  | exc _ _ => rfl
  | stuck => rfl
@[simp] theorem s_dLt_s (a b : Str) : dLt (.str a) (.str b) = mpure (.d (.bool (decide (a.cps.toList < b.cps.toList)))) := rfl
end L2
namespace K03
open PySem PySem.Spec PyProof.Rows L2
def ltB (a b : Str) : Bool := decide (a.cps.toList < b.cps.toList)
/-- one turn of _law_with -/
def turnW (x : Str) (v : Int) (s : Ws × Bool) (p : Str × Int) : Ws × Bool :=
  let s1 : Ws × Bool := if !s.2 && ltB x p.1 then (s.1 ++ [(x, v)], true) else s
  if p.1 = x then (if 0 < v then (s1.1 ++ [(x, v)], true) else s1) else (s1.1 ++ [p], s1.2)
def lawW (ws : Ws) (x : Str) (v : Int) : Ws :=
  let s := ws.foldl (turnW x v) ([], decide (v = 0))
  if s.2 then s.1 else s.1 ++ [(x, v)]
theorem turnW_len (x : Str) (v : Int) (s : Ws × Bool) (p : Str × Int) : (turnW x v s p).1.length ≤ s.1.length + 2 := by
  unfold turnW
  dsimp only
  split <;> split <;> (try split) <;> simp
theorem foldW_len (x : Str) (v : Int) : ∀ (ws : Ws) (s : Ws × Bool), (ws.foldl (turnW x v) s).1.length ≤ s.1.length + 2 * ws.length
  | [], s => by simp
  | p :: r, s => by
    rw [List.foldl_cons]
    have := foldW_len x v r (turnW x v s p)
    have := turnW_len x v s p
    simp
    omega
abbrev enL (ws : Ws) (x : Str) (v : Int) (s : Ws × Bool) (pv : Option SV) : En := [some (.d (wsD ws)), some (.d (.str x)), some (.d (.int v)), some (.own (.lst (s.1.map pD))), some (.d (.bool s.2)), pv]
abbrev bodyW : M Ct := (mSeq (mIfS (mAndT (mNotT (mTru (mVar 4))) (mB (mOp2 dLt (mVar 1) (mOp2 dIx (mVar 5) (mC (.int 0)))))) (mSeq (mAppend 3 (mTup (mCons (mVar 1) (mCons (mVar 2) (mNil))))) (mSet 4 (mC (.bool true)))) (mNx)) (mIfS (mB (mOp2 dNe (mOp2 dIx (mVar 5) (mC (.int 0))) (mVar 1))) (mAppend 3 (mVar 5)) (mIfS (mB (mOp2 dGt (mVar 2) (mC (.int 0)))) (mSeq (mAppend 3 (mTup (mCons (mVar 1) (mCons (mVar 2) (mNil))))) (mSet 4 (mC (.bool true)))) (mNx))))
theorem pD_ix (p : Str × Int) : ixD (pD p) (.int 0) = some (.str p.1) := rfl
theorem turn_ok (ws : Ws) (x : Str) (v : Int) (s : Ws × Bool) (p : Str × Int) (hl : s.1.length + 2 < sizeLine) : bodyW (enL ws x v s (some (.d (pD p)))) = .ok .nx (enL ws x v (turnW x v s p) (some (.d (pD p)))) := by
  obtain ⟨row, put⟩ := s
  obtain ⟨q, w⟩ := p
  dsimp only at hl
  have g2 := ge2
  have l1 : row.length < sizeLine := by omega
  have l2 : row.length + 1 < sizeLine := by omega
  have e0 : ∀ a : Int, pD (x, a) = .tuple [.str x, .int a] := fun _ => rfl
  have ir : ¬ x.cps < x.cps := fun h => List.lt_irrefl x.cps.toList (by simpa using h)
  cases put
  · by_cases c2 : q = x
    · subst c2
      by_cases c3 : 0 < v
      · simp [turnW, ltB, ir, c3, pD_ix, g2, l1, l2, e0]
      · simp [turnW, ltB, ir, c3, pD_ix, g2, l1, l2, e0]
    · by_cases c : x.cps.toList < q.cps.toList
      · simp at c
        simp [turnW, ltB, c, c2, pD_ix, g2, l1, l2, e0]
      · have c' : ¬ x.cps < q.cps := fun h => c (by simpa using h)
        simp [turnW, ltB, c', c2, pD_ix, g2, l1, l2, e0]
  · by_cases c2 : q = x
    · subst c2
      by_cases c3 : 0 < v
      · simp [turnW, c3, pD_ix, g2, l1, l2, e0]
      · simp [turnW, c3, pD_ix, g2, l1, l2, e0]
    · simp [turnW, c2, pD_ix, g2, l1, l2, e0]
theorem law_with_ok (ws : Ws) (x : Str) (v : Int) (hl : ws.length ≤ 1000) : F__law_with [wsD ws, .str x, .int v] = .ok (.d (wsD (lawW ws x v))) [] := by
  have g := sizeLine_ge
  obtain ⟨e', h1, pv, h2⟩ := for_inv (tg := .nm 5) (body := bodyW) (ds := ws.map pD) (e := enL ws x v ([], decide (v = 0)) none)
    (fun i e => ∃ pv, e = enL ws x v ((ws.take i).foldl (turnW x v) ([], decide (v = 0))) pv) (fun i d e hi ⟨pv, he⟩ => by
      rw [List.getElem?_map] at hi
      cases hp : ws[i]? with
      | none => rw [hp] at hi; cases hi
      | some p =>
        rw [hp] at hi
        cases hi
        subst he
        have hlen := foldW_len x v (ws.take i) ([], decide (v = 0))
        have ht : (ws.take i).length ≤ ws.length := by rw [List.length_take]; omega
        simp at hlen
        refine ⟨_, _, rfl, .inl (turn_ok ws x v _ p (by omega)), some (.d (pD p)), ?_⟩
        rw [List.take_add_one, hp, List.foldl_append]
        rfl) ⟨none, rfl⟩
  rw [List.length_map, List.take_length] at h2
  subst h2
  have hw : wsD ws = .tuple (ws.map pD) := rfl
  have hlen := foldW_len x v ws ([], decide (v = 0))
  simp at hlen
  unfold lawW
  dsimp only
  generalize ws.foldl (turnW x v) ([], decide (v = 0)) = s at *
  obtain ⟨row, put⟩ := s
  dsimp only at *
  have l1 : row.length < sizeLine := by omega
  have g2 := ge2
  have e0 : pD (x, v) = .tuple [.str x, .int v] := rfl
  have hm : mFor (.nm 5) [4] (mVar 0) bodyW (enL ws x v ([], decide (v = 0)) none) = .ok .nx (enL ws x v (row, put) pv) := by
    rw [s_for]
    exact h1
  have h0 : mSet 4 (mOp2 dEq (mVar 2) (mC (.int 0))) [some (.d (wsD ws)), some (.d (.str x)), some (.d (.int v)), some (.own (.lst [])), none, none] = .ok .nx (enL ws x v ([], decide (v = 0)) none) := by simp
  have h00 : mSet 3 (mLst mNil) [some (.d (wsD ws)), some (.d (.str x)), some (.d (.int v)), none, none, none] = .ok .nx [some (.d (wsD ws)), some (.d (.str x)), some (.d (.int v)), some (.own (.lst [])), none, none] := by simp
  have run : ∀ r : Ws, (mSeq (mIfS (mNotT (mTru (mVar 4))) (mAppend 3 (mTup (mCons (mVar 1) (mCons (mVar 2) (mNil))))) (mNx)) (mRet (mCallD (d1 dTuple) (mCons (mVar 3) (mNil))))) (enL ws x v (row, put) pv) = .ok (.rt (.d (wsD r))) (enL ws x v (r, put) pv) → F__law_with [wsD ws, .str x, .int v] = .ok (.d (wsD r)) [] := fun r hr => by
    refine run_ok rfl (e := enL ws x v (r, put) pv) ?_
    have hd : m__law_with = mSeq (mSet 3 (mLst (mNil))) (mSeq (mSet 4 (mOp2 dEq (mVar 2) (mC (.int 0)))) (mSeq (mFor (.nm 5) [4] (mVar 0) bodyW) (mSeq (mIfS (mNotT (mTru (mVar 4))) (mAppend 3 (mTup (mCons (mVar 1) (mCons (mVar 2) (mNil))))) (mNx)) (mRet (mCallD (d1 dTuple) (mCons (mVar 3) (mNil))))))) := rfl
    rw [hd, s_seq]
    refine Eq.trans (by rw [show List.map (fun d => some (SV.d d)) [wsD ws, PyData.str x, PyData.int v] ++ List.replicate (6 - 3) none = [some (.d (wsD ws)), some (.d (.str x)), some (.d (.int v)), none, none, none] from rfl, h00]) ?_
    dsimp only
    rw [s_seq, h0]
    dsimp only
    rw [s_seq, hm]
    exact hr
  cases put
  · exact run _ (by simp [g2, l1, e0, wsD, dTuple])
  · exact run _ (by simp [wsD, dTuple])
end K03

namespace K03
open PySem PySem.Spec PyProof.Rows L2
/-! ### ascending words, and that both ways of putting a value in give the same -/
def ltK (p q : Str × Int) : Prop := p.1.cps.toList < q.1.cps.toList
def Asc (ws : Ws) : Prop := ws.Pairwise ltK
theorem ltK_trans {p q r : Str × Int} (h : ltK p q) (g : ltK q r) : ltK p r := List.lt_trans h g
theorem leS_lt {a b : Str} (h : leS a b = true) (n : a ≠ b) : a.cps.toList < b.cps.toList := by
  rcases List.le_iff_lt_or_eq.mp (show a.cps.toList ≤ b.cps.toList from leS_iff.mp h) with g | g
  · exact g
  · exact (n (str_ext g)).elim
theorem lt_leS {a b : Str} (h : a.cps.toList < b.cps.toList) : leS a b = true := leS_iff.mpr (List.lt_asymm h)
theorem asc_of {ws : Ws} (h1 : (ws.map (·.1)).Pairwise fun a b => leS a b = true) (h2 : (ws.map (·.1)).Nodup) : Asc ws := by
  have h3 := h1.and h2
  rw [List.pairwise_map] at h3
  exact h3.imp fun {p q} h => leS_lt h.1 h.2
theorem asc_nd {ws : Ws} (h : Asc ws) : (ws.map (·.1)).Nodup := by
  refine List.pairwise_map.mpr (h.imp fun {p q} g e => ?_)
  unfold ltK at g
  rw [e] at g
  exact List.lt_irrefl _ g
theorem asc_le {ws : Ws} (h : Asc ws) : (ws.map (·.1)).Pairwise fun a b => leS a b = true := List.pairwise_map.mpr (h.imp fun g => lt_leS g)
theorem Good.up {ws : Ws} (h : Good ws) : Asc ws := asc_of (by rw [h.asc]; exact sortSet_pw _) h.nd
theorem asc_ext {a b : Ws} (ha : Asc a) (hb : Asc b) (m : ∀ p, p ∈ a ↔ p ∈ b) : a = b := by
  have na : a.Nodup := ha.imp fun {p q} g e => by subst e; exact List.lt_irrefl _ g
  have nb : b.Nodup := hb.imp fun {p q} g e => by subst e; exact List.lt_irrefl _ g
  exact List.Perm.eq_of_pairwise (le := ltK) (fun p q _ _ h1 h2 => (List.lt_irrefl _ (List.lt_trans h1 h2)).elim) ha hb ((List.perm_ext_iff_of_nodup na nb).mpr m)
def InW (ws : Ws) (x : Str) (v : Int) (p : Str × Int) : Prop := (p.1 ≠ x ∧ p ∈ ws) ∨ (p = (x, v) ∧ 0 < v)
/-- put in before the first greater one -/
def ins (x : Str) (v : Int) : Ws → Ws
  | [] => [(x, v)]
  | p :: r => if ltB x p.1 then (x, v) :: p :: r else if p.1 = x then (x, v) :: r else p :: ins x v r
theorem ltB_self (x : Str) : ltB x x = false := decide_eq_false (List.lt_irrefl _)
theorem fold_true (x : Str) (v : Int) : ∀ (r row : Ws), (∀ p ∈ r, p.1 ≠ x) → r.foldl (turnW x v) (row, true) = (row ++ r, true)
  | [], row, _ => by simp
  | p :: r, row, h => by
    have hp := h p List.mem_cons_self
    rw [List.foldl_cons, show turnW x v (row, true) p = (row ++ [p], true) by simp [turnW, hp], fold_true x v r _ fun q m => h q (List.mem_cons_of_mem _ m)]
    simp
theorem fold_zero (x : Str) : ∀ (r row : Ws), r.foldl (turnW x 0) (row, true) = (row ++ r.filter (fun p => decide (p.1 ≠ x)), true)
  | [], row => by simp
  | p :: r, row => by
    by_cases hp : p.1 = x
    · rw [List.foldl_cons, show turnW x 0 (row, true) p = (row, true) by simp [turnW, hp], fold_zero x r]
      simp [hp]
    · rw [List.foldl_cons, show turnW x 0 (row, true) p = (row ++ [p], true) by simp [turnW, hp], fold_zero x r]
      simp [hp]
theorem asc_tail_ne {x : Str} {p : Str × Int} {r : Ws} (h : Asc (p :: r)) (g : x.cps.toList < p.1.cps.toList ∨ p.1 = x) : ∀ q ∈ r, q.1 ≠ x := fun q m e => by
  have hq := (List.pairwise_cons.mp h).1 q m
  unfold ltK at hq
  rw [e] at hq
  rcases g with g | g
  · exact List.lt_irrefl _ (List.lt_trans g hq)
  · rw [g] at hq
    exact List.lt_irrefl _ hq
theorem fold_false (x : Str) (v : Int) (hv : 0 < v) : ∀ (r row : Ws), Asc r → (let s := r.foldl (turnW x v) (row, false); if s.2 then s.1 else s.1 ++ [(x, v)]) = row ++ ins x v r
  | [], row, _ => by simp [ins]
  | p :: r, row, h => by
    rw [List.foldl_cons]
    by_cases c : x.cps.toList < p.1.cps.toList
    · have hp : p.1 ≠ x := fun e => by rw [e] at c; exact List.lt_irrefl _ c
      have e : turnW x v (row, false) p = (row ++ [(x, v)] ++ [p], true) := by
        have cb : ltB x p.1 = true := decide_eq_true c
        simp [turnW, cb, hp]
      rw [e, fold_true x v r _ (asc_tail_ne h (.inl c))]
      have cb : ltB x p.1 = true := decide_eq_true c
      simp [ins, cb]
    · have cb : ltB x p.1 = false := decide_eq_false c
      by_cases hp : p.1 = x
      · have e : turnW x v (row, false) p = (row ++ [(x, v)], true) := by simp [turnW, ltB_self, hp, hv]
        rw [e, fold_true x v r _ (asc_tail_ne h (.inr hp))]
        simp [ins, ltB_self, hp]
      · have e : turnW x v (row, false) p = (row ++ [p], false) := by simp [turnW, cb, hp]
        have ih := fold_false x v hv r (row ++ [p]) (List.pairwise_cons.mp h).2
        rw [e]
        refine ih.trans ?_
        simp [ins, cb, hp]
theorem mem_ins (x : Str) (v : Int) (hv : 0 < v) : ∀ (r : Ws), Asc r → ∀ p, p ∈ ins x v r ↔ InW r x v p
  | [], _, p => by simp [ins, InW, hv]
  | q :: r, h, p => by
    unfold ins
    by_cases c : x.cps.toList < q.1.cps.toList
    · have cb : ltB x q.1 = true := decide_eq_true c
      have hq : q.1 ≠ x := fun e => by rw [e] at c; exact List.lt_irrefl _ c
      have hr := asc_tail_ne h (.inl c)
      rw [if_pos cb]
      unfold InW
      constructor
      · intro m
        rcases List.mem_cons.mp m with rfl | m
        · exact .inr ⟨rfl, hv⟩
        · refine .inl ⟨?_, m⟩
          rcases List.mem_cons.mp m with rfl | m
          · exact hq
          · exact hr _ m
      · rintro (⟨_, m⟩ | ⟨rfl, _⟩)
        · exact List.mem_cons_of_mem _ m
        · exact List.mem_cons_self
    · have cb : ltB x q.1 = false := decide_eq_false c
      rw [if_neg (by rw [cb]; exact Bool.false_ne_true)]
      by_cases hq : q.1 = x
      · have hr := asc_tail_ne h (.inr hq)
        rw [if_pos hq]
        unfold InW
        constructor
        · intro m
          rcases List.mem_cons.mp m with rfl | m
          · exact .inr ⟨rfl, hv⟩
          · exact .inl ⟨hr _ m, List.mem_cons_of_mem _ m⟩
        · rintro (⟨n, m⟩ | ⟨rfl, _⟩)
          · rcases List.mem_cons.mp m with rfl | m
            · exact (n hq).elim
            · exact List.mem_cons_of_mem _ m
          · exact List.mem_cons_self
      · rw [if_neg hq, List.mem_cons, mem_ins x v hv r (List.pairwise_cons.mp h).2 p]
        unfold InW
        constructor
        · rintro (rfl | ⟨n, m⟩ | z)
          · exact .inl ⟨hq, List.mem_cons_self⟩
          · exact .inl ⟨n, List.mem_cons_of_mem _ m⟩
          · exact .inr z
        · rintro (⟨n, m⟩ | z)
          · rcases List.mem_cons.mp m with rfl | m
            · exact .inl rfl
            · exact .inr (.inl ⟨n, m⟩)
          · exact .inr (.inr z)
theorem asc_ins (x : Str) (v : Int) (hv : 0 < v) : ∀ (r : Ws), Asc r → Asc (ins x v r)
  | [], _ => by unfold ins; exact List.pairwise_singleton _ _
  | q :: r, h => by
    have h2 := List.pairwise_cons.mp h
    unfold ins
    by_cases c : x.cps.toList < q.1.cps.toList
    · have cb : ltB x q.1 = true := decide_eq_true c
      rw [if_pos cb]
      refine List.pairwise_cons.mpr ⟨fun p m => ?_, h⟩
      rcases List.mem_cons.mp m with rfl | m
      · exact c
      · exact List.lt_trans c (h2.1 p m)
    · have cb : ltB x q.1 = false := decide_eq_false c
      rw [if_neg (by rw [cb]; exact Bool.false_ne_true)]
      by_cases hq : q.1 = x
      · rw [if_pos hq]
        refine List.pairwise_cons.mpr ⟨fun p m => ?_, h2.2⟩
        have := h2.1 p m
        unfold ltK at this ⊢
        rw [hq] at this
        exact this
      · rw [if_neg hq]
        refine List.pairwise_cons.mpr ⟨fun p m => ?_, asc_ins x v hv r h2.2⟩
        rcases (mem_ins x v hv r h2.2 p).mp m with ⟨_, m⟩ | ⟨rfl, _⟩
        · exact h2.1 p m
        · rcases List.le_total q.1.cps.toList x.cps.toList with g | g
          · rcases List.le_iff_lt_or_eq.mp g with g | g
            · exact g
            · exact (hq (str_ext g)).elim
          · rcases List.le_iff_lt_or_eq.mp g with g | g
            · exact (c g).elim
            · exact (hq (str_ext g.symm)).elim
theorem law_spec {ws : Ws} (h : Asc ws) (x : Str) (v : Int) (hv : 0 ≤ v) : Asc (lawW ws x v) ∧ ∀ p, p ∈ lawW ws x v ↔ InW ws x v p := by
  by_cases c : v = 0
  · subst c
    have e : lawW ws x 0 = ws.filter fun p => decide (p.1 ≠ x) := by
      unfold lawW
      rw [show decide ((0 : Int) = 0) = true from rfl, fold_zero]
      simp
    rw [e]
    refine ⟨h.filter _, fun p => ?_⟩
    rw [List.mem_filter]
    unfold InW
    simp
    exact And.comm
  · have hv2 : 0 < v := by omega
    have e : lawW ws x v = ins x v ws := by
      have := fold_false x v hv2 ws [] h
      unfold lawW
      rw [show decide (v = 0) = false from decide_eq_false c]
      simpa using this
    rw [e]
    exact ⟨asc_ins x v hv2 ws h, mem_ins x v hv2 ws h⟩
theorem val_mem {ws : Ws} (nd : (ws.map (·.1)).Nodup) {k : Str} {w : Int} (h : (k, w) ∈ ws) : valW ws k = w := by
  unfold valW
  cases q : ws.find? fun p => decide (p.1 = k) with
  | none => have := List.find?_eq_none.mp q _ h; simp at this
  | some p =>
    have h1 := List.find?_some q
    have h2 := List.mem_of_find?_eq_some q
    have e1 : p.1 = k := of_decide_eq_true h1
    obtain ⟨i, hi, ei⟩ := List.getElem_of_mem h2
    obtain ⟨j, hj, ej⟩ := List.getElem_of_mem h
    have hij : i = j := (List.getElem_inj nd (i := i) (j := j) (h₀ := by simpa using hi) (h₁ := by simpa using hj)).mp (by rw [List.getElem_map, List.getElem_map, ei, ej, e1])
    subst hij
    rw [ei] at ej
    rw [ej]
theorem putW_mem (ws : Ws) (x : Str) (v : Int) (p : Str × Int) : p ∈ putW ws x v ↔ (p.1 ≠ x ∧ p ∈ ws) ∨ p = (x, v) := by
  unfold putW
  by_cases c : (ws.any fun p => decide (p.1 = x)) = true
  · rw [if_pos c]
    obtain ⟨q, mq, hq⟩ := List.any_eq_true.mp c
    have eq : q.1 = x := of_decide_eq_true hq
    rw [List.mem_map]
    constructor
    · rintro ⟨r, mr, rfl⟩
      by_cases hr : r.1 = x
      · rw [if_pos hr, hr]; exact .inr rfl
      · rw [if_neg hr]; exact .inl ⟨hr, mr⟩
    · rintro (⟨n, m⟩ | rfl)
      · exact ⟨p, m, if_neg n⟩
      · exact ⟨q, mq, by rw [if_pos eq, eq]⟩
  · rw [if_neg c, List.mem_append, List.mem_singleton]
    have hn : ∀ q ∈ ws, q.1 ≠ x := fun q m e => c (List.any_eq_true.mpr ⟨q, m, decide_eq_true e⟩)
    constructor
    · rintro (m | rfl)
      · exact .inl ⟨hn p m, m⟩
      · exact .inr rfl
    · rintro (⟨_, m⟩ | rfl)
      · exact .inl m
      · exact .inr rfl
theorem putW_nd {ws : Ws} (nd : (ws.map (·.1)).Nodup) (x : Str) (v : Int) : ((putW ws x v).map (·.1)).Nodup := by
  unfold putW
  by_cases c : (ws.any fun p => decide (p.1 = x)) = true
  · rw [if_pos c, List.map_map]
    have e : ((fun p : Str × Int => p.1) ∘ fun p : Str × Int => if p.1 = x then (p.1, v) else p) = fun p => p.1 := by
      funext p
      show (if p.1 = x then (p.1, v) else p).1 = p.1
      split <;> rfl
    rw [e]
    exact nd
  · rw [if_neg c, List.map_append]
    refine List.nodup_append.mpr ⟨nd, by simp, fun a ma b mb e => ?_⟩
    obtain ⟨q, mq, rfl⟩ := List.mem_map.mp ma
    simp at mb
    exact c (List.any_eq_true.mpr ⟨q, mq, decide_eq_true (e.trans mb)⟩)
theorem with_spec {ws : Ws} (nd : (ws.map (·.1)).Nodup) (hp : ∀ p ∈ ws, 0 < p.2) (x : Str) (v : Int) : Asc (withW ws x v) ∧ ∀ p, p ∈ withW ws x v ↔ InW ws x v p := by
  have nd2 := putW_nd nd x v
  have mem := putW_mem ws x v
  unfold withW
  generalize putW ws x v = t at *
  constructor
  · have h1 : (sortStrs (t.map (·.1))).Pairwise fun a b => leS a b = true := sortStrs_pw _
    have h2 : (sortStrs (t.map (·.1))).Nodup := (sortStrs_perm _).nodup_iff.mpr nd2
    unfold Asc
    rw [List.pairwise_map]
    exact ((h1.and h2).filter _).imp fun h => leS_lt h.1 h.2
  · intro p
    obtain ⟨k, w⟩ := p
    rw [List.mem_map]
    constructor
    · rintro ⟨k', mk, e⟩
      cases e
      obtain ⟨m1, m2⟩ := List.mem_filter.mp mk
      obtain ⟨q, mq, rfl⟩ := List.mem_map.mp ((sortStrs_perm _).mem_iff.mp m1)
      have hv := val_mem nd2 (k := q.1) (w := q.2) mq
      rw [hv]
      rw [hv] at m2
      rcases (mem q).mp mq with ⟨n, m⟩ | e
      · exact .inl ⟨n, m⟩
      · subst e
        exact .inr ⟨rfl, of_decide_eq_true m2⟩
    · intro h
      have mt : (k, w) ∈ t := (mem _).mpr (h.imp id And.left)
      have hv := val_mem nd2 mt
      have pw : 0 < w := by
        rcases h with ⟨_, m⟩ | ⟨e, g⟩
        · exact hp _ m
        · cases e; exact g
      exact ⟨k, List.mem_filter.mpr ⟨(sortStrs_perm _).mem_iff.mpr (List.mem_map.mpr ⟨_, mt, rfl⟩), decide_eq_true (by rw [hv]; exact pw)⟩, by rw [hv]⟩
theorem Good.pos {ws : Ws} (h : Good ws) : ∀ p ∈ ws, 0 < p.2 := fun p m => by
  have := h.ok p m
  unfold okPair at this
  simp only [Bool.and_eq_true, K03.pos, decide_eq_true_eq] at this
  exact this.2.2
/-- both ways give the same -/
theorem with_same {ws : Ws} (h : Good ws) (x : Str) (v : Int) (hv : 0 ≤ v) : withW ws x v = lawW ws x v := by
  obtain ⟨a1, m1⟩ := with_spec h.nd h.pos x v
  obtain ⟨a2, m2⟩ := law_spec h.up x v hv
  exact asc_ext a1 a2 fun p => (m1 p).trans (m2 p).symm
end K03

namespace L2
open PySem PySem.Spec PyProof.Rows
theorem chk_at {en : En} {i : Nat} {ds : List D} (h : en[i]? = some (some (SV.own (OB.lst ds)))) : chkOk (some (i, ds)) en = true := by
  unfold chkOk
  simp [h]
@[simp] theorem s_mulL {en : En} (ds : List D) (k : Int) : dMulL (.list ds) (.int k) en = if (-(2 ^ 63) ≤ k ∧ k < 2 ^ 63) ∧ ds.length * k.toNat ≤ sizeLine then Rs.ok (SV.own (OB.lst (repD ds k.toNat))) en else Rs.stuck := by
  show (if (-(2 ^ 63) ≤ k ∧ k < 2 ^ 63) ∧ ds.length * k.toNat ≤ sizeLine then (mpure (SV.own (OB.lst (repD ds k.toNat))) : M SV) else mstuck) en = _
  split <;> rfl
end L2
namespace K03
open PySem PySem.Spec PyProof.Rows L2
theorem okPair_of {x : Str} {v : Int} (h : isName (.str x) = true) (h0 : 0 < v) (h1 : v < 1000003) : okPair (x, v) = true := by
  unfold okPair
  rw [h]
  have e1 : isVal (.int v) = true := by unfold isVal; simp; omega
  have e2 : pos (.int v) = true := by unfold pos; simp; omega
  rw [e1, e2]
  rfl
theorem good_of {ws : Ws} (a : Asc ws) (o : ∀ p ∈ ws, okPair p = true) (l : ws.length < 63) : Good ws := ⟨o, l, sortSet_eq (asc_le a) (asc_nd a)⟩
theorem good_law {ws : Ws} (h : Good ws) (l : ws.length < 60) (x : Str) (v : Int) (hx : isName (.str x) = true) (h0 : 0 ≤ v) (h1 : v < 1000003) : Good (lawW ws x v) := by
  obtain ⟨a, m⟩ := law_spec h.up x v h0
  refine good_of a (fun p mp => ?_) ?_
  · rcases (m p).mp mp with ⟨_, q⟩ | ⟨rfl, q⟩
    · exact h.ok p q
    · exact okPair_of hx q h1
  · rw [← with_same h x v h0]
    have e : (withW ws x v).length ≤ (putW ws x v).length := by
      unfold withW
      rw [List.length_map]
      refine Nat.le_trans (List.length_filter_le _ _) ?_
      rw [(sortStrs_perm _).length_eq, List.length_map]
      exact Nat.le_refl _
    have := putW_len ws x v
    omega
/-! ### a name put in at the count of the lesser ones -/
theorem ins_at (x : Str) (v : Int) : ∀ (ws : Ws), Asc ws → (∀ p ∈ ws, p.1 ≠ x) → ws.take (ws.filter fun p => ltB p.1 x).length ++ [(x, v)] ++ ws.drop (ws.filter fun p => ltB p.1 x).length = ins x v ws
  | [], _, _ => by simp [ins]
  | p :: r, h, n => by
    have hp := n p List.mem_cons_self
    have h2 := List.pairwise_cons.mp h
    have ih := ins_at x v r h2.2 fun q m => n q (List.mem_cons_of_mem _ m)
    by_cases c : x.cps.toList < p.1.cps.toList
    · have c1 : ltB p.1 x = false := decide_eq_false fun g => List.lt_irrefl _ (List.lt_trans c g)
      have cr : r.filter (fun p => ltB p.1 x) = [] := List.filter_eq_nil_iff.mpr fun q m g => by
        have g2 := of_decide_eq_true g
        exact List.lt_irrefl _ (List.lt_trans c (List.lt_trans (h2.1 q m) g2))
      have cb : ltB x p.1 = true := decide_eq_true c
      simp [ins, cb, c1, cr]
    · have c1 : ltB p.1 x = true := by
        refine decide_eq_true ?_
        rcases List.le_iff_lt_or_eq.mp (show p.1.cps.toList ≤ x.cps.toList from c) with g | g
        · exact g
        · exact (hp (str_ext g)).elim
      have cb : ltB x p.1 = false := decide_eq_false c
      have ih' := ih
      simp only [List.append_assoc] at ih' ⊢
      simp [ins, cb, c1, hp]
      simpa using ih'
abbrev enJ (ns : List Int) (k : Int) (pool : List Str) (dr : List Int) (ws : Ws) (j v at_ pv : Option SV) : En := [some (.d (scrD ns)), some (.d (.int k)), some (.d (.list (pool.map .str))), some (.own (.lst (dr.map .int))), some (.own (.lst (ws.map pD))), j, v, at_, pv]
abbrev bodyA : M Ct := mIfS (mB (mOp2 dLt (mOp2 dIx (mVar 8) (mC (.int 0))) (mOp2 dIx (mVar 2) (mVar 5)))) (mSet 7 (mOp2 dAdd (mVar 7) (mC (.int 1)))) (mNx)
theorem count_ok (ns : List Int) (k : Int) (pool : List Str) (dr : List Int) (ws : Ws) (j : Nat) (x : Str) (hx : pool[j]? = some x) (v pv : Option SV) :
    ∃ pv', mFor (.nm 8) [7] (mVar 4) bodyA (enJ ns k pool dr ws (some (.d (.int (j : Nat)))) v (some (.d (.int 0))) pv) = .ok .nx (enJ ns k pool dr ws (some (.d (.int (j : Nat)))) v (some (.d (.int ((ws.filter fun p => ltB p.1 x).length : Nat)))) pv') := by
  have ha : atI (pool.map PyData.str) ((j : Nat) : Int) = some (.str x) := atI_at (by omega) (by rw [Int.toNat_natCast, List.getElem?_map, hx]; rfl)
  generalize hj : ((j : Nat) : Int) = J at *
  obtain ⟨e', h1, pv', h2⟩ := forGo_inv (tg := .nm 8) (c := some (4, ws.map pD)) (body := bodyA)
    (fun i e => ∃ pv, e = enJ ns k pool dr ws (some (.d (.int J))) v (some (.d (.int (((ws.take i).filter fun p => ltB p.1 x).length : Nat)))) pv) (ds0 := ws.map pD)
    (fun i e ⟨pv, he⟩ => chk_at (by rw [he]; rfl)) (fun i d e hi ⟨pv, he⟩ => by
      rw [List.getElem?_map] at hi
      cases hp : ws[i]? with
      | none => rw [hp] at hi; cases hi
      | some p =>
        rw [hp] at hi
        cases hi
        subst he
        have e3 : ((ws.take (i + 1)).filter fun p => ltB p.1 x).length = ((ws.take i).filter fun p => ltB p.1 x).length + (if ltB p.1 x then 1 else 0) := by
          rw [List.take_add_one, hp, List.filter_append, List.length_append]
          simp [List.filter_cons]
          split <;> simp
        rw [e3]
        generalize ((ws.take i).filter fun p => ltB p.1 x).length = n
        by_cases c : p.1.cps.toList < x.cps.toList
        · have cb : ltB p.1 x = true := decide_eq_true c
          simp at c
          refine ⟨_, enJ ns k pool dr ws (some (.d (.int J))) v (some (.d (.int ((n + 1 : Nat) : Int)))) (some (.d (pD p))), rfl, .inl ?_, some (.d (pD p)), by rw [cb]; rfl⟩
          simp [pD_ix, ha, c]
        · have cb : ltB p.1 x = false := decide_eq_false c
          have c' : ¬ p.1.cps < x.cps := fun h => c (by simpa using h)
          refine ⟨_, enJ ns k pool dr ws (some (.d (.int J))) v (some (.d (.int (n : Int)))) (some (.d (pD p))), rfl, .inl ?_, some (.d (pD p)), by rw [cb]; rfl⟩
          simp [pD_ix, ha, c']) (ws.map pD) 0 rfl (enJ ns k pool dr ws (some (.d (.int J))) v (some (.d (.int 0))) pv) ⟨pv, rfl⟩
  rw [Nat.zero_add, List.length_map, List.take_length] at h2
  subst h2
  refine ⟨pv', ?_⟩
  rw [s_for]
  exact h1
end K03

namespace K03
open PySem PySem.Spec PyProof.Rows L2
theorem three (a b c : D) (i : Int) (h0 : 0 ≤ i) (h1 : i < 3) : ∃ x ∈ [a, b, c], atI [a, b, c] i = some x := by
  have hl : i.toNat < [a, b, c].length := by simp; omega
  exact ⟨_, List.getElem_mem hl, atI_at h0 (List.getElem?_eq_getElem hl)⟩
abbrev valueM : M Ct := mSet 6 (mOp2 dIx (mLst (mCons (mC (.int 0)) (mCons (mOp2 dMod (mCallD (d1 dInt) (mCons (mOp2 dIx (mVar 3) (mOp2 dAdd (mOp2 dMulL (mC (.int 2)) (mVar 5)) (mC (.int 1)))) (mNil))) (mC (.int 9))) (mCons (mOp2 dAdd (mC (.int 1)) (mOp2 dIx (mVar 3) (mOp2 dAdd (mOp2 dMulL (mC (.int 2)) (mVar 5)) (mC (.int 1))))) (mNil))))) (mOp2 dIx (mVar 3) (mOp2 dMulL (mC (.int 2)) (mVar 5))))
/-- the value of a turn -/
theorem value_ok (ns : List Int) (k : Int) (pool : List Str) (dr : List Int) (ws : Ws) (j : Nat) (a b : Int) (ha : dr[2 * j]? = some a) (hb : dr[2 * j + 1]? = some b) (h1 : 0 ≤ a ∧ a < 3) (h2 : 0 ≤ b ∧ b < 1000002) (v at_ pv : Option SV) :
    ∃ z : Int, valueM (enJ ns k pool dr ws (some (.d (.int (j : Nat)))) v at_ pv) = .ok .nx (enJ ns k pool dr ws (some (.d (.int (j : Nat)))) (some (.d (.int z))) at_ pv) ∧ 0 ≤ z ∧ z < 1000003 := by
  have ia : atI (dr.map PyData.int) (2 * ((j : Nat) : Int)) = some (.int a) := by
    have := atI_int (ds := dr) ha
    rw [show ((2 * j : Nat) : Int) = 2 * (j : Int) by omega] at this
    exact this
  have ib : atI (dr.map PyData.int) (2 * ((j : Nat) : Int) + 1) = some (.int b) := by
    have := atI_int (ds := dr) hb
    rw [show ((2 * j + 1 : Nat) : Int) = 2 * (j : Int) + 1 by omega] at this
    exact this
  generalize ((j : Nat) : Int) = J at *
  obtain ⟨z, mz, hz⟩ := three (.int 0) (.int (b % 9)) (.int (1 + b)) a h1.1 h1.2
  have hz2 : ∃ r : Int, z = .int r ∧ 0 ≤ r ∧ r < 1000003 := by
    simp only [List.mem_cons, List.not_mem_nil, or_false] at mz
    rcases mz with rfl | rfl | rfl
    · exact ⟨_, rfl, by omega, by omega⟩
    · exact ⟨_, rfl, by omega, by omega⟩
    · exact ⟨_, rfl, by omega, by omega⟩
  obtain ⟨r, rfl, g0, g1⟩ := hz2
  refine ⟨r, ?_, g0, g1⟩
  have g3 : 3 ≤ sizeLine := by have := ge9; omega
  simp [ia, ib, hz, g3]
noncomputable abbrev bodyJ : M Ct := mSeq valueM (mSeq (mSet 7 (mC (.int 0))) (mSeq (mFor (.nm 8) [7] (mVar 4) bodyA) (mIfS (mB (mOp2 dGt (mVar 6) (mC (.int 0)))) (mInsert 4 (mVar 7) (mTup (mCons (mOp2 dIx (mVar 2) (mVar 5)) (mCons (mVar 6) (mNil))))) (mNx))))
theorem insert_ok (ns : List Int) (k : Int) (pool : List Str) (dr : List Int) (ws : Ws) (j : Nat) (x : Str) (hx : pool[j]? = some x) (n : Nat) (hn : n ≤ 1000) (z : Int) (pv : Option SV) (hl : ws.length < 1000) :
    mInsert 4 (mVar 7) (mTup (mCons (mOp2 dIx (mVar 2) (mVar 5)) (mCons (mVar 6) (mNil)))) (enJ ns k pool dr ws (some (.d (.int (j : Nat)))) (some (.d (.int z))) (some (.d (.int (n : Nat)))) pv) =
      .ok .nx (enJ ns k pool dr (ws.take n ++ [(x, z)] ++ ws.drop n) (some (.d (.int (j : Nat)))) (some (.d (.int z))) (some (.d (.int (n : Nat)))) pv) := by
  have ha : atI (pool.map PyData.str) ((j : Nat) : Int) = some (.str x) := atI_at (by omega) (by rw [Int.toNat_natCast, List.getElem?_map, hx]; rfl)
  have g2 := ge2
  have hs : ws.length < sizeLine := by have := sizeLine_ge; omega
  have ht : mTup (mCons (mOp2 dIx (mVar 2) (mVar 5)) (mCons (mVar 6) (mNil))) (enJ ns k pool dr ws (some (.d (.int (j : Nat)))) (some (.d (.int z))) (some (.d (.int (n : Nat)))) pv) = .ok (.d (pD (x, z))) (enJ ns k pool dr ws (some (.d (.int (j : Nat)))) (some (.d (.int z))) (some (.d (.int (n : Nat)))) pv) := by
    generalize ((j : Nat) : Int) = J at *
    simp [ha, g2, pD]
  have hr : (ws.map pD).length < sizeLine ∧ (0 : Int) ≤ ((n : Nat) : Int) ∧ ((n : Nat) : Int) < 2 ^ 63 := ⟨by rw [List.length_map]; exact hs, by omega, by omega⟩
  have hm : (ws.map pD).take n ++ [pD (x, z)] ++ (ws.map pD).drop n = (ws.take n ++ [(x, z)] ++ ws.drop n).map pD := by simp [List.map_take, List.map_drop]
  unfold mInsert
  show mbind (mfrz (mVar 7)) _ _ = _
  rw [s_bind, s_frz, s_var]
  dsimp only [List.getElem?_cons_succ, List.getElem?_cons_zero]
  rw [s_bind, s_keep, ht]
  dsimp only [s_look_d, List.getElem?_cons_succ, List.getElem?_cons_zero]
  rw [if_pos hr, Int.toNat_natCast, hm]
  rfl
/-- what is known of the words that are made -/
structure Made (pool : List Str) (ws : Ws) (i : Nat) : Prop where
  up : Asc ws
  ok : ∀ p ∈ ws, okPair p = true
  few : ws.length ≤ i
  out : ∀ p ∈ ws, p.1 ∈ pool.take i
theorem Made.next {pool : List Str} {ws : Ws} {i : Nat} (M : Made pool ws i) (nd : pool.Nodup) {x : Str} (hx : pool[i]? = some x) (hn : isName (.str x) = true) {z : Int} (h0 : 0 < z) (h1 : z < 1000003) :
    Made pool (ws.take (ws.filter fun p => ltB p.1 x).length ++ [(x, z)] ++ ws.drop (ws.filter fun p => ltB p.1 x).length) (i + 1) := by
  have hlt := (List.getElem?_eq_some_iff.mp hx).1
  have hxi : x = pool[i] := ((List.getElem?_eq_some_iff.mp hx).2).symm
  have nx : ∀ p ∈ ws, p.1 ≠ x := fun p m e => by
    have q := M.out p m
    rw [e] at q
    obtain ⟨j, hj, ej⟩ := List.getElem_of_mem q
    rw [List.length_take] at hj
    rw [List.getElem_take] at ej
    have := (List.getElem_inj nd (i := j) (j := i) (h₀ := by omega) (h₁ := hlt)).mp (by rw [ej, hxi])
    omega
  rw [ins_at x z ws M.up nx]
  have mi := mem_ins x z h0 ws M.up
  have e1 : pool.take (i + 1) = pool.take i ++ [x] := by rw [List.take_add_one, hx]; rfl
  refine ⟨asc_ins x z h0 ws M.up, fun p m => ?_, ?_, fun p m => ?_⟩
  · rcases (mi p).mp m with ⟨_, q⟩ | ⟨rfl, _⟩
    · exact M.ok p q
    · exact okPair_of hn h0 h1
  · have := congrArg List.length (ins_at x z ws M.up nx)
    have hf := List.length_filter_le (fun p : Str × Int => ltB p.1 x) ws
    simp at this
    have := M.few
    omega
  · rw [e1]
    rcases (mi p).mp m with ⟨_, q⟩ | ⟨rfl, _⟩
    · exact List.mem_append_left _ (M.out p q)
    · exact List.mem_append_right _ (List.mem_singleton.mpr rfl)
theorem words_turns (ns : List Int) (k : Int) (pool : List Str) (nd : pool.Nodup) (hn : ∀ x ∈ pool, isName (.str x) = true) (hl : pool.length ≤ 5) (dr : List Int) (hd : ∀ j : Nat, j < pool.length → ∃ a b, dr[2 * j]? = some a ∧ dr[2 * j + 1]? = some b ∧ (0 ≤ a ∧ a < 3) ∧ 0 ≤ b ∧ b < 1000002) :
    ∃ ws j v at_ pv, forGo (.nm 5) none bodyJ (rngD 0 pool.length) (enJ ns k pool dr [] none none none none) = .ok .nx (enJ ns k pool dr ws j v at_ pv) ∧ Made pool ws pool.length := by
  obtain ⟨e', h1, h2⟩ := for_inv (tg := .nm 5) (body := bodyJ) (ds := rngD 0 pool.length) (e := enJ ns k pool dr [] none none none none)
    (fun i e => ∃ ws j v at_ pv, e = enJ ns k pool dr ws j v at_ pv ∧ Made pool ws i) (fun i d e hi ⟨ws, j, v, at_, pv, he, M⟩ => by
      obtain ⟨li, rfl⟩ := rng_get hi
      subst he
      rw [Int.zero_add]
      have hx : pool[i]? = some pool[i] := List.getElem?_eq_getElem li
      obtain ⟨a, b, ha, hb, h3, h4⟩ := hd i li
      obtain ⟨z, q1, z0, z1⟩ := value_ok ns k pool dr ws i a b ha hb h3 h4 v at_ pv
      obtain ⟨pv', q2⟩ := count_ok ns k pool dr ws i pool[i] hx (some (.d (.int z))) pv
      have q0 : mSet 7 (mC (.int 0)) (enJ ns k pool dr ws (some (.d (.int (i : Nat)))) (some (.d (.int z))) at_ pv) = .ok .nx (enJ ns k pool dr ws (some (.d (.int (i : Nat)))) (some (.d (.int z))) (some (.d (.int 0))) pv) := rfl
      have hf := List.length_filter_le (fun p : Str × Int => ltB p.1 pool[i]) ws
      have hw := M.few
      have q3 := insert_ok ns k pool dr ws i pool[i] hx (ws.filter fun p => ltB p.1 pool[i]).length (by omega) z pv' (by omega)
      have M2 := fun z0 => M.next nd hx (hn _ (List.getElem_mem li)) z0 z1
      generalize (ws.filter fun p => ltB p.1 pool[i]).length = n at *
      by_cases c : 0 < z
      · have t : mB (mOp2 dGt (mVar 6) (mC (.int 0))) (enJ ns k pool dr ws (some (.d (.int (i : Nat)))) (some (.d (.int z))) (some (.d (.int (n : Nat)))) pv') = .ok true (enJ ns k pool dr ws (some (.d (.int (i : Nat)))) (some (.d (.int z))) (some (.d (.int (n : Nat)))) pv') := by simp [c]
        refine ⟨_, enJ ns k pool dr (ws.take n ++ [(pool[i], z)] ++ ws.drop n) (some (.d (.int (i : Nat)))) (some (.d (.int z))) (some (.d (.int (n : Nat)))) pv', rfl, .inl ?_, _, _, _, _, _, rfl, M2 c⟩
        refine (s_seq _ _).trans ?_
        refine Eq.trans (by rw [show ([some (.d (scrD ns)), some (.d (.int k)), some (.d (.list (pool.map .str))), some (.own (.lst (dr.map .int))), some (.own (.lst (ws.map pD))), j, v, at_, pv] : En).set 5 (some (.d (.int (i : Nat)))) = enJ ns k pool dr ws (some (.d (.int (i : Nat)))) v at_ pv from rfl, q1]) ?_
        dsimp only
        rw [s_seq, q0]
        dsimp only
        rw [s_seq, q2]
        dsimp only
        rw [s_ifS, t]
        exact q3
      · have t : mB (mOp2 dGt (mVar 6) (mC (.int 0))) (enJ ns k pool dr ws (some (.d (.int (i : Nat)))) (some (.d (.int z))) (some (.d (.int (n : Nat)))) pv') = .ok false (enJ ns k pool dr ws (some (.d (.int (i : Nat)))) (some (.d (.int z))) (some (.d (.int (n : Nat)))) pv') := by simp [c]
        refine ⟨_, enJ ns k pool dr ws (some (.d (.int (i : Nat)))) (some (.d (.int z))) (some (.d (.int (n : Nat)))) pv', rfl, .inl ?_, _, _, _, _, _, rfl, ⟨M.up, M.ok, by omega, fun p m => by
          have := M.out p m
          rw [List.take_add_one]
          exact List.mem_append_left _ this⟩⟩
        refine (s_seq _ _).trans ?_
        refine Eq.trans (by rw [show ([some (.d (scrD ns)), some (.d (.int k)), some (.d (.list (pool.map .str))), some (.own (.lst (dr.map .int))), some (.own (.lst (ws.map pD))), j, v, at_, pv] : En).set 5 (some (.d (.int (i : Nat)))) = enJ ns k pool dr ws (some (.d (.int (i : Nat)))) v at_ pv from rfl, q1]) ?_
        dsimp only
        rw [s_seq, q0]
        dsimp only
        rw [s_seq, q2]
        dsimp only
        rw [s_ifS, t]
        rfl) ⟨[], none, none, none, none, rfl, ⟨.nil, fun p m => (List.not_mem_nil m).elim, Nat.le_refl _, fun p m => (List.not_mem_nil m).elim⟩⟩
  obtain ⟨ws, j, v, at_, pv, he, M⟩ := h2
  rw [show (rngD 0 pool.length).length = pool.length by unfold rngD; simp] at M
  subst he
  exact ⟨ws, j, v, at_, pv, h1, M⟩
end K03

namespace K03
open PySem PySem.Spec PyProof.Rows L2
abbrev bs10 : List Int := [3, 1000002, 3, 1000002, 3, 1000002, 3, 1000002, 3, 1000002]
theorem law_words_ok (ns : List Int) (k : Int) (hk : 0 ≤ k) (pool : List Str) (nd : pool.Nodup) (hn : ∀ x ∈ pool, isName (.str x) = true) (hl : pool.length ≤ 5) :
    ∃ ws, F__law_words [scrD ns, .int k, .list (pool.map .str)] = .ok (.d (wsD ws)) [] ∧ Made pool ws pool.length := by
  obtain ⟨dr, h, hdl, hb⟩ := draws_ok ns k hk bs10 (bnds_of (by decide) (by simp))
  have hd : ∀ j : Nat, j < pool.length → ∃ a b, dr[2 * j]? = some a ∧ dr[2 * j + 1]? = some b ∧ (0 ≤ a ∧ a < 3) ∧ 0 ≤ b ∧ b < 1000002 := fun j hj => by
    have h10 : dr.length = 10 := hdl
    have e1 : dr[2 * j]? = some (dr[2 * j]'(by omega)) := List.getElem?_eq_getElem (by omega)
    have e2 : dr[2 * j + 1]? = some (dr[2 * j + 1]'(by omega)) := List.getElem?_eq_getElem (by omega)
    have c1 : bs10[2 * j]? = some 3 := by
      have : j = 0 ∨ j = 1 ∨ j = 2 ∨ j = 3 ∨ j = 4 := by omega
      rcases this with rfl | rfl | rfl | rfl | rfl <;> rfl
    have c2 : bs10[2 * j + 1]? = some 1000002 := by
      have : j = 0 ∨ j = 1 ∨ j = 2 ∨ j = 3 ∨ j = 4 := by omega
      rcases this with rfl | rfl | rfl | rfl | rfl <;> rfl
    exact ⟨_, _, e1, e2, hb _ _ _ e1 c1, hb _ _ _ e2 c2⟩
  obtain ⟨ws, j, v, at_, pv, h1, M⟩ := words_turns ns k pool nd hn hl dr hd
  refine ⟨ws, run_ok rfl (e := enJ ns k pool dr ws j v at_ pv) ?_, M⟩
  have h0 : mSet 3 (mCall F__law_draws (mCons (mVar 0) (mCons (mVar 1) (mCons (mOp2 dMulL (mLst (mCons (mC (.int 3)) (mCons (mC (.int 1000002)) (mNil)))) (mC (.int 5))) (mNil))))) [some (.d (scrD ns)), some (.d (.int k)), some (.d (.list (pool.map .str))), none, none, none, none, none, none] = .ok .nx [some (.d (scrD ns)), some (.d (.int k)), some (.d (.list (pool.map .str))), some (.own (.lst (dr.map .int))), none, none, none, none, none] := by
    have g2 := ge2
    have g10 : 2 * 5 ≤ sizeLine := by have := sizeLine_ge; omega
    have e : repD [PyData.int 3, PyData.int 1000002] 5 = bs10.map .int := rfl
    simp only [List.map_cons, List.map_nil] at h e
    simp [g2, g10, e, h, flatO_ints]
  have h00 : mSet 4 (mLst mNil) [some (.d (scrD ns)), some (.d (.int k)), some (.d (.list (pool.map .str))), some (.own (.lst (dr.map .int))), none, none, none, none, none] = .ok .nx (enJ ns k pool dr [] none none none none) := by simp
  have hm : mForR1 (.nm 5) (mCons (mCallD (d1 dLen) (mCons (mVar 2) (mNil))) (mNil)) bodyJ (enJ ns k pool dr [] none none none none) = .ok .nx (enJ ns k pool dr ws j v at_ pv) := by
    have hc : (mCons (mCallD (d1 dLen) (mCons (mVar 2) (mNil))) (mNil)) (enJ ns k pool dr [] none none none none) = .ok [.d (.int (pool.length : Int))] (enJ ns k pool dr [] none none none none) := by simp
    have := forR1_run (tg := .nm 5) (body := bodyJ) hc (by omega) (by omega)
    rw [Int.toNat_natCast] at this
    exact this.trans h1
  have hdef : m__law_words = mSeq (mSet 3 (mCall F__law_draws (mCons (mVar 0) (mCons (mVar 1) (mCons (mOp2 dMulL (mLst (mCons (mC (.int 3)) (mCons (mC (.int 1000002)) (mNil)))) (mC (.int 5))) (mNil)))))) (mSeq (mSet 4 (mLst (mNil))) (mSeq (mForR1 (.nm 5) (mCons (mCallD (d1 dLen) (mCons (mVar 2) (mNil))) (mNil)) bodyJ) (mRet (mCallD (d1 dTuple) (mCons (mVar 4) (mNil)))))) := rfl
  rw [hdef, s_seq]
  refine Eq.trans (by rw [show List.map (fun d => some (SV.d d)) [scrD ns, PyData.int k, PyData.list (pool.map .str)] ++ List.replicate (9 - 3) none = [some (.d (scrD ns)), some (.d (.int k)), some (.d (.list (pool.map .str))), none, none, none, none, none, none] from rfl, h0]) ?_
  dsimp only
  rw [s_seq, h00]
  dsimp only
  rw [s_seq, hm]
  rfl
theorem Made.good {pool : List Str} {ws : Ws} {i : Nat} (M : Made pool ws i) (h : i ≤ 5) : Good ws := good_of M.up M.ok (by have := M.few; omega)
end K03

namespace K03
open PySem PySem.Spec PyProof.Rows L2
/-! ### the names of the pool -/
def sS (l : List Nat) : Str := ⟨l.toArray⟩
theorem sS_cps (l : List Nat) : (sS l).cps.toList = l := by simp [sS]
theorem sS_len (l : List Nat) : (sS l).length = l.length := by
  show (sS l).cps.size = _
  simp [sS]
theorem sS_app (a b : List Nat) : sS a ++ sS b = sS (a ++ b) := str_ext (by
  show ((sS a).cps ++ (sS b).cps).toList = _
  simp [sS])
theorem sS_inj {a b : List Nat} (h : sS a = sS b) : a = b := by
  have := congrArg (fun s : Str => s.cps.toList) h
  simpa [sS] using this
theorem sS_nil : (("" : Str)) = sS [] := by decide
/-- i digits to the base 26, as letters -/
def digs : Nat → Int → List Nat
  | 0, _ => []
  | i + 1, n => (97 + (n % 26).toNat) :: digs i (n / 26)
theorem digs_len : ∀ (i : Nat) (n : Int), (digs i n).length = i
  | 0, _ => rfl
  | i + 1, n => by rw [digs, List.length_cons, digs_len]
def downN : Nat → Int → Int
  | 0, n => n
  | i + 1, n => downN i (n / 26)
theorem down_succ : ∀ (i : Nat) (n : Int), downN (i + 1) n = downN i n / 26
  | 0, _ => rfl
  | i + 1, n => down_succ i (n / 26)
theorem digs_succ : ∀ (i : Nat) (n : Int), digs (i + 1) n = digs i n ++ [97 + (downN i n % 26).toNat]
  | 0, _ => rfl
  | i + 1, n => by
    show (97 + (n % 26).toNat) :: digs (i + 1) (n / 26) = _
    rw [digs_succ i (n / 26)]
    rfl
theorem digs_low : ∀ (i : Nat) (n : Int), ∀ c ∈ digs i n, 97 ≤ c ∧ c ≤ 122
  | 0, _, c, h => by cases h
  | i + 1, n, c, h => by
    rcases List.mem_cons.mp h with rfl | h
    · omega
    · exact digs_low i _ c h
theorem digs_inj : ∀ (i : Nat) (a b : Int), digs i a = digs i b → a % 26 ^ i = b % 26 ^ i
  | 0, a, b, _ => by simp
  | i + 1, a, b, h => by
    injection h with h1 h2
    have e1 : a % 26 = b % 26 := by omega
    have e2 := digs_inj i (a / 26) (b / 26) h2
    have f : ∀ n : Int, n % 26 ^ (i + 1) = 26 * ((n / 26) % 26 ^ i) + n % 26 := fun n => by
      rw [show (26 : Int) ^ (i + 1) = 26 * 26 ^ i by rw [Int.pow_succ]; exact Int.mul_comm _ _]
      have d : n / 26 / 26 ^ i = n / (26 * 26 ^ i) := Int.ediv_ediv_of_nonneg (by omega)
      rw [Int.emod_def n (26 * 26 ^ i), Int.emod_def (n / 26) (26 ^ i), Int.emod_def n 26, d, Int.mul_sub, Int.mul_assoc]
      omega
    rw [f a, f b, e1, e2]
end K03

namespace K03
open PySem PySem.Spec PyProof.Rows L2
abbrev alpha : Str := "abcdefghijklmnopqrstuvwxyz"
theorem alpha_cps : alpha.cps.toList = (List.range 26).map (97 + ·) := by decide
theorem alpha_ix (m : Int) (h0 : 0 ≤ m) (h1 : m < 26) : ixD (.str alpha) (.int m) = some (.str (sS [97 + m.toNat])) := by
  have hl : alpha.length ≤ sizeLine := by
    have : alpha.length = 26 := by decide
    have := sizeLine_ge
    omega
  show (if alpha.length ≤ sizeLine then (atI alpha.cps.toList m).map fun c => PyData.str ⟨#[c]⟩ else none) = _
  rw [if_pos hl, alpha_cps]
  have hm : m.toNat < 26 := by omega
  have e : atI ((List.range 26).map (97 + ·)) m = some (97 + m.toNat) := by
    have h : ((List.range 26).map (97 + ·))[m.toNat]? = some (97 + m.toNat) := by
      rw [List.getElem?_map, List.getElem?_range hm]
      rfl
    have := atI_nat h
    rwa [Int.toNat_of_nonneg h0] at this
  rw [e]
  rfl
theorem add_strs (a b : List Nat) (h : a.length + b.length ≤ 1000000) (en : En) : dAdd (.str (sS a)) (.str (sS b)) en = .ok (.d (.str (sS (a ++ b)))) en := by
  show (if (sS a).length + (sS b).length ≤ sizeLine then mpure (SV.d (PyData.str (sS a ++ sS b))) else (mstuck : M SV)) en = _
  rw [sS_len, sS_len, if_pos (by have := sizeLine_ge; omega), sS_app]
  rfl
abbrev enP (ns : List Int) (k : Int) (dr : List Int) (L step : Int) (pool : List Str) (j num word place : Option SV) : En := [some (.d (scrD ns)), some (.d (.int k)), some (.d (.int 7)), some (.own (.lst (dr.map .int))), some (.d (.int L)), some (.d (.int step)), some (.own (.lst (pool.map .str))), j, num, word, place]
abbrev bodyL : M Ct := mSeq (mSet 9 (mOp2 dAdd (mVar 9) (mOp2 dIx (mC (.str "abcdefghijklmnopqrstuvwxyz")) (mOp2 dMod (mCallD (d1 dInt) (mCons (mVar 8) (mNil))) (mC (.int 26)))))) (mSet 8 (mOp2 dDiv (mVar 8) (mC (.int 26))))
theorem letter_ok (ns : List Int) (k : Int) (dr : List Int) (L step : Int) (pool : List Str) (j place : Option SV) (n : Int) (w : List Nat) (hw : w.length ≤ 100) :
    bodyL (enP ns k dr L step pool j (some (.d (.int n))) (some (.d (.str (sS w)))) place) = .ok .nx (enP ns k dr L step pool j (some (.d (.int (n / 26)))) (some (.d (.str (sS (w ++ [97 + (n % 26).toNat]))))) place) := by
  have h := alpha_ix (n % 26) (by omega) (by omega)
  have a := fun en => add_strs w [97 + (n % 26).toNat] (by simp; omega) en
  simp [h, a]
theorem word_loop (ns : List Int) (k : Int) (dr : List Int) (L : Nat) (hL : L ≤ 100) (step : Int) (pool : List Str) (j place : Option SV) (n : Int) :
    ∃ pl, mForR1 (.nm 10) (mCons (mVar 4) (mNil)) bodyL (enP ns k dr (L : Nat) step pool j (some (.d (.int n))) (some (.d (.str (sS [])))) place) = .ok .nx (enP ns k dr (L : Nat) step pool j (some (.d (.int (downN L n)))) (some (.d (.str (sS (digs L n))))) pl) := by
  obtain ⟨e', h1, pl, h2⟩ := for_inv (tg := .nm 10) (body := bodyL) (ds := rngD 0 L) (e := enP ns k dr (L : Nat) step pool j (some (.d (.int n))) (some (.d (.str (sS [])))) place)
    (fun i e => ∃ pl, e = enP ns k dr (L : Nat) step pool j (some (.d (.int (downN i n)))) (some (.d (.str (sS (digs i n))))) pl) (fun i d e hi ⟨pl, he⟩ => by
      obtain ⟨li, rfl⟩ := rng_get hi
      subst he
      refine ⟨_, _, rfl, .inl (letter_ok ns k dr _ step pool j (some (.d (.int (0 + (i : Nat))))) (downN i n) (digs i n) (by rw [digs_len]; omega)), some (.d (.int (0 + (i : Nat)))), ?_⟩
      rw [down_succ, digs_succ]) ⟨place, rfl⟩
  have hlen : (rngD 0 L).length = L := by simp [rngD]
  rw [hlen] at h2
  subst h2
  refine ⟨pl, ?_⟩
  have hc : (mCons (mVar 4) (mNil)) (enP ns k dr (L : Nat) step pool j (some (.d (.int n))) (some (.d (.str (sS [])))) place) = .ok [.d (.int (L : Int))] (enP ns k dr (L : Nat) step pool j (some (.d (.int n))) (some (.d (.str (sS [])))) place) := by simp
  have := forR1_run (tg := .nm 10) (body := bodyL) hc (by omega) (by omega)
  rw [Int.toNat_natCast] at this
  exact this.trans h1
end K03

namespace K03
open PySem PySem.Spec PyProof.Rows L2
def kw (w : Str) : Bool := nn.any fun d => PyData.eqv d (.str w)
theorem in_kw (w : Str) (en : En) : dIn (.str w) (.list nn) en = .ok (.d (.bool (kw w))) en := rfl
def xOf (w : List Nat) : List Nat := if kw (sS w) then w ++ [120] else w
def nameOf (L : Nat) (n : Int) (J : Int) : List Nat := xOf (digs L n) ++ (if J % 2 = 0 then [] else [122])
theorem z_times (J : Int) (en : En) : dMulL (.str "z") (.int (J % 2)) en = .ok (.d (.str (sS (if J % 2 = 0 then [] else [122])))) en := by
  show dMulA (.str "z") (.int (J % 2)) en = _
  show (if J % 2 = 0 then mpure (SV.d (.str Str.empty)) else if J % 2 = 1 then mpure (SV.d (.str "z")) else (mstuck : M SV)) en = _
  by_cases h : J % 2 = 0
  · rw [if_pos h, if_pos h]; rfl
  · have h1 : J % 2 = 1 := by omega
    rw [if_neg h, if_pos h1, if_neg h]
    have : ("z" : Str) = sS [122] := by decide
    rw [this]
    rfl
noncomputable abbrev bodyP : M Ct := mSeq (mSet 8 (mOp2 dAdd (mOp2 dIx (mVar 3) (mC (.int 1))) (mOp2 dMulL (mOp2 dDiv (mVar 7) (mC (.int 2))) (mVar 5)))) (mSeq (mSet 9 (mC (.str ""))) (mSeq (mForR1 (.nm 10) (mCons (mVar 4) (mNil)) bodyL) (mSeq (mIfS (mB (mOp2 dIn (mVar 9) (mLst (mCons (mC (.str "if")) (mCons (mC (.str "fork")) (mCons (mC (.str "each")) (mCons (mC (.str "fold")) (mCons (mC (.str "start")) (mCons (mC (.str "await")) (mCons (mC (.str "max")) (mCons (mC (.str "min")) (mNil)))))))))))) (mSet 9 (mOp2 dAdd (mVar 9) (mC (.str "x")))) (mNx)) (mAppend 6 (mOp2 dAdd (mVar 9) (mOp2 dMulL (mC (.str "z")) (mOp2 dMod (mCallD (d1 dInt) (mCons (mVar 7) (mNil))) (mC (.int 2)))))))))
theorem xOf_len (w : List Nat) : (xOf w).length ≤ w.length + 1 := by
  unfold xOf
  split <;> simp
theorem name_turn (ns : List Int) (k : Int) (a b c : Int) (L : Nat) (hL : L ≤ 100) (step : Int) (hst : -18446744073709551616 < step ∧ step < 18446744073709551616) (pool : List Str) (hp : pool.length ≤ 1000) (J : Int) (num word place : Option SV) :
    ∃ num' word' place', bodyP (enP ns k [a, b, c] (L : Nat) step pool (some (.d (.int J))) num word place) = .ok .nx (enP ns k [a, b, c] (L : Nat) step (pool ++ [sS (nameOf L (b + J / 2 * step) J)]) (some (.d (.int J))) num' word' place') := by
  have hb : atI [PyData.int a, PyData.int b, PyData.int c] 1 = some (.int b) := rfl
  have h0 : mSet 8 (mOp2 dAdd (mOp2 dIx (mVar 3) (mC (.int 1))) (mOp2 dMulL (mOp2 dDiv (mVar 7) (mC (.int 2))) (mVar 5))) (enP ns k [a, b, c] (L : Nat) step pool (some (.d (.int J))) num word place) = .ok .nx (enP ns k [a, b, c] (L : Nat) step pool (some (.d (.int J))) (some (.d (.int (b + J / 2 * step)))) word place) := by
    simp [hb, hst.1, hst.2]
  generalize b + J / 2 * step = n at *
  have h1 : mSet 9 (mC (.str "")) (enP ns k [a, b, c] (L : Nat) step pool (some (.d (.int J))) (some (.d (.int n))) word place) = .ok .nx (enP ns k [a, b, c] (L : Nat) step pool (some (.d (.int J))) (some (.d (.int n))) (some (.d (.str (sS [])))) place) := by
    rw [sS_nil]
    rfl
  obtain ⟨pl, h2⟩ := word_loop ns k [a, b, c] L hL step pool (some (.d (.int J))) place n
  have hdl : (digs L n).length ≤ 100 := by rw [digs_len]; exact hL
  unfold nameOf
  generalize digs L n = w at *
  generalize downN L n = n2 at *
  have g8 : 8 ≤ sizeLine := by have := ge9; omega
  have hx : ("x" : Str) = sS [120] := by decide
  have h3 : (mIfS (mB (mOp2 dIn (mVar 9) (mLst (mCons (mC (.str "if")) (mCons (mC (.str "fork")) (mCons (mC (.str "each")) (mCons (mC (.str "fold")) (mCons (mC (.str "start")) (mCons (mC (.str "await")) (mCons (mC (.str "max")) (mCons (mC (.str "min")) (mNil)))))))))))) (mSet 9 (mOp2 dAdd (mVar 9) (mC (.str "x")))) (mNx)) (enP ns k [a, b, c] (L : Nat) step pool (some (.d (.int J))) (some (.d (.int n2))) (some (.d (.str (sS w)))) pl) = .ok .nx (enP ns k [a, b, c] (L : Nat) step pool (some (.d (.int J))) (some (.d (.int n2))) (some (.d (.str (sS (xOf w))))) pl) := by
    have hi := in_kw (sS w)
    have ha := add_strs w [120] (by simp; omega)
    unfold xOf
    rw [hx]
    cases hk : kw (sS w) with
    | true => rw [hk] at hi; simp [hi, ha, g8]
    | false => rw [hk] at hi; simp [hi, g8]
  have h4 : (mAppend 6 (mOp2 dAdd (mVar 9) (mOp2 dMulL (mC (.str "z")) (mOp2 dMod (mCallD (d1 dInt) (mCons (mVar 7) (mNil))) (mC (.int 2)))))) (enP ns k [a, b, c] (L : Nat) step pool (some (.d (.int J))) (some (.d (.int n2))) (some (.d (.str (sS (xOf w))))) pl) = .ok .nx (enP ns k [a, b, c] (L : Nat) step (pool ++ [sS (xOf w ++ (if J % 2 = 0 then [] else [122]))]) (some (.d (.int J))) (some (.d (.int n2))) (some (.d (.str (sS (xOf w))))) pl) := by
    have hz := z_times J
    have hxl := xOf_len w
    have ha := add_strs (xOf w) (if J % 2 = 0 then [] else [122]) (by split <;> simp <;> omega)
    have hs : pool.length < sizeLine := by have := sizeLine_ge; omega
    simp [hz, ha, hs]
  refine ⟨some (.d (.int n2)), some (.d (.str (sS (xOf w)))), pl, ?_⟩
  refine (s_seq _ _).trans ?_
  rw [h0]
  dsimp only
  rw [s_seq, h1]
  dsimp only
  rw [s_seq, h2]
  dsimp only
  rw [s_seq, h3]
  exact h4
end K03

namespace K03
open PySem PySem.Spec PyProof.Rows L2
def poolOf (L : Nat) (b step : Int) (m : Nat) : List Str := (List.range m).map fun (j : Nat) => sS (nameOf L (b + ((j : Nat) : Int) / 2 * step) ((j : Nat) : Int))
theorem pool_succ (L : Nat) (b step : Int) (m : Nat) : poolOf L b step (m + 1) = poolOf L b step m ++ [sS (nameOf L (b + (m : Int) / 2 * step) (m : Int))] := by
  unfold poolOf
  rw [List.range_succ, List.map_append]
  rfl
theorem pool_turns (ns : List Int) (k : Int) (a b c : Int) (L : Nat) (hL : L ≤ 100) (step : Int) (hst : -18446744073709551616 < step ∧ step < 18446744073709551616) :
    ∃ j num word place, mForR1 (.nm 7) (mCons (mVar 2) (mNil)) bodyP (enP ns k [a, b, c] (L : Nat) step [] none none none none) = .ok .nx (enP ns k [a, b, c] (L : Nat) step (poolOf L b step 7) j num word place) := by
  obtain ⟨e', h1, j, num, word, place, h2⟩ := for_inv (tg := .nm 7) (body := bodyP) (ds := rngD 0 7) (e := enP ns k [a, b, c] (L : Nat) step [] none none none none)
    (fun i e => ∃ j num word place, e = enP ns k [a, b, c] (L : Nat) step (poolOf L b step i) j num word place) (fun i d e hi ⟨j, num, word, place, he⟩ => by
      obtain ⟨li, rfl⟩ := rng_get hi
      subst he
      rw [Int.zero_add]
      obtain ⟨n', w', p', q⟩ := name_turn ns k a b c L hL step hst (poolOf L b step i) (by simp [poolOf]; omega) (i : Int) num word place
      refine ⟨_, _, rfl, .inl q, some (.d (.int (i : Int))), n', w', p', ?_⟩
      rw [pool_succ]) ⟨none, none, none, none, rfl⟩
  rw [show (rngD 0 7).length = 7 by simp [rngD]] at h2
  subst h2
  refine ⟨j, num, word, place, ?_⟩
  have hc : (mCons (mVar 2) (mNil)) (enP ns k [a, b, c] (L : Nat) step [] none none none none) = .ok [.d (.int 7)] (enP ns k [a, b, c] (L : Nat) step [] none none none none) := by simp
  exact (forR1_run (tg := .nm 7) (body := bodyP) hc (by omega) (by omega)).trans h1
theorem p26 : (26 : Int) ^ (8 : Int).toNat = 208827064576 := by decide
/-- length and step of the names -/
structure Steps (L : Nat) (b step : Int) : Prop where
  l1 : 1 ≤ L
  l7 : L ≤ 7
  b0 : 0 ≤ b
  s1 : 1 ≤ step
  s9 : step ≤ 9
  one : L = 1 → step = 1
theorem pool_ok (ns : List Int) (k : Int) (hk : 0 ≤ k) : ∃ L b step, F__law_pool [scrD ns, .int k, .int 7] = .ok (.own (.lst ((poolOf L b step 7).map .str))) [] ∧ Steps L b step := by
  obtain ⟨ds, h, hl, hb⟩ := draws_ok ns k hk [7, 208827064576, 9] (bnds_of (by decide) (by simp))
  match ds, hl with
  | [a, b, c], _ =>
    have ha := hb 0 a 7 rfl rfl
    have hbb := hb 1 b 208827064576 rfl rfl
    have hc := hb 2 c 9 rfl rfl
    obtain ⟨L, hL⟩ : ∃ L : Nat, (L : Int) = 1 + a := ⟨(1 + a).toNat, Int.toNat_of_nonneg (by omega)⟩
    refine ⟨L, b, 1 + c * (if decide ((L : Int) > 1) = true then 1 else 0), ?_, ⟨by omega, by omega, hbb.1, by split <;> omega, by split <;> omega, fun e => by
      subst e
      simp⟩⟩
    generalize hs : 1 + c * (if decide ((L : Int) > 1) = true then 1 else 0) = step
    have hst : -18446744073709551616 < step ∧ step < 18446744073709551616 := by
      rw [← hs]
      split <;> constructor <;> omega
    obtain ⟨j, num, word, place, h1⟩ := pool_turns ns k a b c L (by omega) step hst
    refine run_bor rfl (i := 6) (o := .lst ((poolOf L b step 7).map .str)) (e := enP ns k [a, b, c] (L : Nat) step (poolOf L b step 7) j num word place) ?_ rfl
    have i0 : atI [PyData.int a, PyData.int b, PyData.int c] 0 = some (.int a) := rfl
    have i2 : atI [PyData.int a, PyData.int b, PyData.int c] 2 = some (.int c) := rfl
    have g3 : 3 ≤ sizeLine := by have := ge9; omega
    have e0 : mSet 3 (mCall F__law_draws (mCons (mVar 0) (mCons (mVar 1) (mCons (mLst (mCons (mC (.int 7)) (mCons (mOp2 dPow (mC (.int 26)) (mC (.int 8))) (mCons (mC (.int 9)) (mNil))))) (mNil))))) [some (.d (scrD ns)), some (.d (.int k)), some (.d (.int 7)), none, none, none, none, none, none, none, none] = .ok .nx [some (.d (scrD ns)), some (.d (.int k)), some (.d (.int 7)), some (.own (.lst ([a, b, c].map .int))), none, none, none, none, none, none, none] := by
      simp only [List.map_cons, List.map_nil] at h
      have hf : flatO (.lst [PyData.int a, PyData.int b, PyData.int c]) = true := rfl
      simp [g3, h, hf]
    have e1 : mSet 4 (mOp2 dAdd (mC (.int 1)) (mOp2 dIx (mVar 3) (mC (.int 0)))) [some (.d (scrD ns)), some (.d (.int k)), some (.d (.int 7)), some (.own (.lst ([a, b, c].map .int))), none, none, none, none, none, none, none] = .ok .nx [some (.d (scrD ns)), some (.d (.int k)), some (.d (.int 7)), some (.own (.lst ([a, b, c].map .int))), some (.d (.int (L : Nat))), none, none, none, none, none, none] := by
      rw [hL]
      simp [i0]
    have e2 : mSet 5 (mOp2 dAdd (mC (.int 1)) (mOp2 dMulL (mOp2 dIx (mVar 3) (mC (.int 2))) (mCallD (d1 dInt) (mCons (mOp2 dGt (mVar 4) (mC (.int 1))) (mNil))))) [some (.d (scrD ns)), some (.d (.int k)), some (.d (.int 7)), some (.own (.lst ([a, b, c].map .int))), some (.d (.int (L : Nat))), none, none, none, none, none, none] = .ok .nx [some (.d (scrD ns)), some (.d (.int k)), some (.d (.int 7)), some (.own (.lst ([a, b, c].map .int))), some (.d (.int (L : Nat))), some (.d (.int step)), none, none, none, none, none] := by
      have hm : -18446744073709551616 < c ∧ c < 18446744073709551616 := ⟨by omega, by omega⟩
      rw [← hs]
      generalize ((L : Nat) : Int) = LL
      simp [i2, hm.1, hm.2]
    have e3 : mSet 6 (mLst mNil) [some (.d (scrD ns)), some (.d (.int k)), some (.d (.int 7)), some (.own (.lst ([a, b, c].map .int))), some (.d (.int (L : Nat))), some (.d (.int step)), none, none, none, none, none] = .ok .nx (enP ns k [a, b, c] (L : Nat) step [] none none none none) := by simp
    have hdef : m__law_pool = mSeq (mSet 3 (mCall F__law_draws (mCons (mVar 0) (mCons (mVar 1) (mCons (mLst (mCons (mC (.int 7)) (mCons (mOp2 dPow (mC (.int 26)) (mC (.int 8))) (mCons (mC (.int 9)) (mNil))))) (mNil)))))) (mSeq (mSet 4 (mOp2 dAdd (mC (.int 1)) (mOp2 dIx (mVar 3) (mC (.int 0))))) (mSeq (mSet 5 (mOp2 dAdd (mC (.int 1)) (mOp2 dMulL (mOp2 dIx (mVar 3) (mC (.int 2))) (mCallD (d1 dInt) (mCons (mOp2 dGt (mVar 4) (mC (.int 1))) (mNil)))))) (mSeq (mSet 6 (mLst (mNil))) (mSeq (mForR1 (.nm 7) (mCons (mVar 2) (mNil)) bodyP) (mRet (mVar 6)))))) := rfl
    rw [hdef, s_seq]
    refine Eq.trans (by rw [show List.map (fun d => some (SV.d d)) [scrD ns, PyData.int k, PyData.int 7] ++ List.replicate (11 - 3) none = [some (.d (scrD ns)), some (.d (.int k)), some (.d (.int 7)), none, none, none, none, none, none, none, none] from rfl, e0]) ?_
    dsimp only
    rw [s_seq, e1]
    dsimp only
    rw [s_seq, e2]
    dsimp only
    rw [s_seq, e3]
    dsimp only
    rw [s_seq, h1]
    rfl
end K03

namespace K03
open PySem PySem.Spec PyProof.Rows L2
/-! ### the pool's names are names, and distinct -/
def kwl : List (List Nat) := [[105, 102], [102, 111, 114, 107], [101, 97, 99, 104], [102, 111, 108, 100], [115, 116, 97, 114, 116], [97, 119, 97, 105, 116], [109, 97, 120], [109, 105, 110]]
theorem nn_kwl : nn = kwl.map fun l => PyData.str (sS l) := by
  have h : ([("if" : Str), "fork", "each", "fold", "start", "await", "max", "min"] : List Str) = kwl.map sS := by decide
  have := congrArg (List.map PyData.str) h
  rw [List.map_map] at this
  exact this
theorem kw_iff (l : List Nat) : kw (sS l) = true ↔ l ∈ kwl := by
  unfold kw
  rw [nn_kwl, List.any_map, List.any_eq_true]
  constructor
  · rintro ⟨m, mm, e⟩
    have e2 : PyData.eqv (.str (sS m)) (.str (sS l)) = true := e
    have e3 : sS m = sS l := by simpa [PyData.eqv] using e2
    rw [← sS_inj e3]
    exact mm
  · intro m
    exact ⟨l, m, by show PyData.eqv (.str (sS l)) (.str (sS l)) = true; simp [PyData.eqv]⟩
theorem kwl_len : ∀ l ∈ kwl, 2 ≤ l.length ∧ l.length ≤ 5 := by decide
theorem kwl_z : ∀ l ∈ kwl, l.getLast? ≠ some 122 := by decide
theorem kwl_x : ∀ l ∈ kwl, ¬ (l ++ [120]) ∈ kwl := by decide
theorem kw_xOf (w : List Nat) : kw (sS (xOf w)) = false := by
  unfold xOf
  cases h : kw (sS w) with
  | false => simp [h]
  | true =>
    rw [if_pos rfl]
    cases g : kw (sS (w ++ [120])) with
    | false => rfl
    | true => exact (kwl_x w ((kw_iff w).mp h) ((kw_iff _).mp g)).elim
theorem kw_odd (w : List Nat) : kw (sS (w ++ [122])) = false := by
  cases g : kw (sS (w ++ [122])) with
  | false => rfl
  | true => exact (kwl_z _ ((kw_iff _).mp g) (by simp)).elim
theorem xOf_len2 (w : List Nat) (h : w.length ≤ 7) : (xOf w).length ≤ 7 ∧ w.length ≤ (xOf w).length := by
  unfold xOf
  split
  · rename_i hk
    have := kwl_len w ((kw_iff w).mp hk)
    simp
    omega
  · exact ⟨h, Nat.le_refl _⟩
theorem xOf_low (w : List Nat) (h : ∀ c ∈ w, 97 ≤ c ∧ c ≤ 122) : ∀ c ∈ xOf w, 97 ≤ c ∧ c ≤ 122 := fun c m => by
  unfold xOf at m
  split at m
  · rcases List.mem_append.mp m with m | m
    · exact h c m
    · have := List.mem_singleton.mp m
      omega
  · exact h c m
theorem isName_of (l : List Nat) (h1 : 1 ≤ l.length) (h8 : l.length ≤ 8) (h : ∀ c ∈ l, 97 ≤ c ∧ c ≤ 122) (hk : kw (sS l) = false) : isName (.str (sS l)) = true := by
  show ((decide (1 ≤ (sS l).length) && decide ((sS l).length ≤ 8) && (sS l).cps.toList.all fun c => decide (97 ≤ c) && decide (c ≤ 122)) && !(nn.any fun d => PyData.eqv d (.str (sS l)))) = true
  rw [sS_len, sS_cps]
  have ha : (l.all fun c => decide (97 ≤ c) && decide (c ≤ 122)) = true := List.all_eq_true.mpr fun c m => by
    have := h c m
    simp [this.1, this.2]
  rw [ha]
  have hk2 : (nn.any fun d => PyData.eqv d (.str (sS l))) = false := hk
  rw [hk2]
  simp [h1, h8]
theorem name_ok {L : Nat} {b step : Int} (S : Steps L b step) (n J : Int) : isName (.str (sS (nameOf L n J))) = true := by
  have hl := digs_len L n
  have h7 : (digs L n).length ≤ 7 := by rw [hl]; exact S.l7
  obtain ⟨x7, x1⟩ := xOf_len2 _ h7
  have x1' : 1 ≤ (xOf (digs L n)).length := by have := S.l1; omega
  have low := xOf_low _ (digs_low L n)
  unfold nameOf
  by_cases e : J % 2 = 0
  · rw [if_pos e, List.append_nil]
    exact isName_of _ x1' (by omega) low (kw_xOf _)
  · rw [if_neg e]
    refine isName_of _ (by simp) (by simp; omega) (fun c m => ?_) (kw_odd _)
    rcases List.mem_append.mp m with m | m
    · exact low c m
    · have := List.mem_singleton.mp m
      omega
theorem xOf_inj {w u : List Nat} (hl : w.length = u.length) (h : xOf w = xOf u) : w = u := by
  unfold xOf at h
  split at h <;> split at h
  · exact List.append_inj_left' h rfl
  · have := congrArg List.length h; simp at this; omega
  · have := congrArg List.length h; simp at this; omega
  · exact h
theorem xOf_odd {w u : List Nat} (hl : w.length = u.length) (h : xOf w = xOf u ++ [122]) : False := by
  unfold xOf at h
  split at h <;> split at h
  · have := congrArg List.length h; simp at this; omega
  · have := (List.append_inj' h rfl).2
    simp at this
  · have := congrArg List.length h; simp at this; omega
  · have := congrArg List.length h; simp at this; omega
theorem far {M step p q b : Int} (hM : 26 ≤ M) (h1 : 1 ≤ step) (h : step = 1 ∨ (step ≤ 9 ∧ 676 ≤ M)) (hp : p = 0 ∨ p = 1 ∨ p = 2 ∨ p = 3) (hq : q = 0 ∨ q = 1 ∨ q = 2 ∨ q = 3) (e : (b + p * step) % M = (b + q * step) % M) : p = q := by
  have d : M ∣ (b + p * step) - (b + q * step) := Int.dvd_of_emod_eq_zero (Int.emod_eq_emod_iff_emod_sub_eq_zero.mp e)
  obtain ⟨t, ht⟩ := d
  have small : (b + p * step) - (b + q * step) < M ∧ -M < (b + p * step) - (b + q * step) := by
    rcases hp with rfl | rfl | rfl | rfl <;> rcases hq with rfl | rfl | rfl | rfl <;> constructor <;> rcases h with h | h <;> omega
  have t0 : t = 0 := by
    rcases Int.lt_trichotomy t 0 with g | g | g
    · have : M * t ≤ M * (-1) := Int.mul_le_mul_of_nonneg_left (by omega) (by omega)
      omega
    · exact g
    · have : M * 1 ≤ M * t := Int.mul_le_mul_of_nonneg_left (by omega) (by omega)
      omega
  rw [t0, Int.mul_zero] at ht
  rcases hp with rfl | rfl | rfl | rfl <;> rcases hq with rfl | rfl | rfl | rfl <;> first | rfl | omega
theorem same_num {L : Nat} {b step : Int} (S : Steps L b step) {p q : Int} (hp : 0 ≤ p ∧ p ≤ 3) (hq : 0 ≤ q ∧ q ≤ 3) (h : digs L (b + p * step) = digs L (b + q * step)) : p = q := by
  have e := digs_inj L _ _ h
  have M : (26 : Int) ≤ 26 ^ L ∧ (L = 1 ∨ (676 : Int) ≤ 26 ^ L) := by
    have l1 := S.l1
    have l7 := S.l7
    have : L = 1 ∨ L = 2 ∨ L = 3 ∨ L = 4 ∨ L = 5 ∨ L = 6 ∨ L = 7 := by omega
    rcases this with rfl | rfl | rfl | rfl | rfl | rfl | rfl <;> decide
  refine far M.1 S.s1 ?_ (by omega) (by omega) e
  rcases M.2 with g | g
  · exact .inl (S.one g)
  · exact .inr ⟨S.s9, g⟩
theorem pool_names {L : Nat} {b step : Int} (S : Steps L b step) : ∀ x ∈ poolOf L b step 7, isName (.str x) = true := fun x m => by
  obtain ⟨j, _, rfl⟩ := List.mem_map.mp m
  exact name_ok S _ _
theorem name_inj {L : Nat} {b step : Int} (S : Steps L b step) {i j : Nat} (hi : i < 7) (hj : j < 7) (h : sS (nameOf L (b + (i : Int) / 2 * step) (i : Int)) = sS (nameOf L (b + (j : Int) / 2 * step) (j : Int))) : i = j := by
  have h2 := sS_inj h
  unfold nameOf at h2
  have hl : (digs L (b + (i : Int) / 2 * step)).length = (digs L (b + (j : Int) / 2 * step)).length := by rw [digs_len, digs_len]
  by_cases ei : (i : Int) % 2 = 0 <;> by_cases ej : (j : Int) % 2 = 0
  · rw [if_pos ei, if_pos ej, List.append_nil, List.append_nil] at h2
    have := same_num S (p := (i : Int) / 2) (q := (j : Int) / 2) (by omega) (by omega) (xOf_inj hl h2)
    omega
  · rw [if_pos ei, if_neg ej, List.append_nil] at h2
    exact (xOf_odd hl h2).elim
  · rw [if_neg ei, if_pos ej, List.append_nil] at h2
    exact (xOf_odd hl.symm h2.symm).elim
  · rw [if_neg ei, if_neg ej] at h2
    have := same_num S (p := (i : Int) / 2) (q := (j : Int) / 2) (by omega) (by omega) (xOf_inj hl (List.append_cancel_right h2))
    omega
theorem pool_nd {L : Nat} {b step : Int} (S : Steps L b step) : (poolOf L b step 7).Nodup := by
  unfold poolOf
  refine List.pairwise_map.mpr ?_
  refine List.Pairwise.imp_of_mem ?_ (List.nodup_range (n := 7))
  intro i j hi hj n e
  exact n (name_inj S (List.mem_range.mp hi) (List.mem_range.mp hj) e)
end K03

namespace K03
open PySem PySem.Spec PyProof.Rows L2
/-! ### what is no words is refused -/
theorem words_with_bad (d : D) (x : Str) (v : Int) (h : F_is_words [d] = .ok (.d (.bool false)) []) : ∃ e, F_words_with [d, .str x, .int v] = .exc ⟨"InvalidWords", [("value", d)]⟩ e := by
  refine ⟨[], run_exc rfl (e := frzAll [some (.d d), some (.d (.str x)), some (.d (.int v)), none]) ?_⟩
  have e := table_bad d h
  simp [m_words_with, e]
abbrev xcW (d : D) : Xc := ⟨"InvalidWords", [("value", d)]⟩
abbrev enR (d : D) (x : Str) (j e : Option SV) : En := [some (.d d), some (.d (.str x)), j, e]
theorem frz_enR (d : D) (x : Str) (j : Int) : frzAll (enR d x (some (.d (.int j))) none) = enR d x (some (.d (.int j))) none := rfl
/-- one try: refused -/
noncomputable abbrev tryB : M Ct := mSeq (mIfS (mB (mOp2 dEq (mVar 2) (mC (.int 0)))) (mExpr (mCall F_word_in (mCons (mVar 0) (mCons (mVar 1) (mNil))))) (mExpr (mCall F_words_with (mCons (mVar 0) (mCons (mVar 1) (mCons (mC (.int 1)) (mNil))))))) (mRet (mC (.bool false)))
theorem try_exc (d : D) (x : Str) (j : Int) (h : F_is_words [d] = .ok (.d (.bool false)) []) : tryB (enR d x (some (.d (.int j))) none) = .exc (xcW d) (enR d x (some (.d (.int j))) none) := by
  obtain ⟨e1, h1⟩ := word_in_bad d x h
  obtain ⟨e2, h2⟩ := words_with_bad d x 1 h
  by_cases c : j = 0
  · simp [mExpr, c, h1]
    rfl
  · simp [mExpr, c, h2]
    rfl
/-- what the suite asks of it -/
def Shown (d : D) : Prop := (∀ ds, d ≠ .tuple ds) ∨ (∃ l r, d = .tuple (.list l :: r)) ∨ (∃ a r, d = .tuple (a :: r) ∧ isiD .tList a = some false ∧ lvl 12 d = true)
noncomputable abbrev suiteB (xc : Xc) : M Ct := mIfS (mAndT (mB (mIsi .tTuple (mVar 0))) (mAndT (mNotT (mB (mIsi .tList (mOp2 dIx (mVar 0) (mC (.int 0)))))) (mNotT (mB (mCall (F__law_equal 12) (mCons (mXf "InvalidWords" 3 "value" xc) (mCons (mVar 0) (mNil)))))))) (mRet (mC (.bool false))) (mNx)
theorem suite_ok (d : D) (hd : ND d) (x : Str) (j : Int) (h : Shown d) : suiteB (xcW d) (enR d x (some (.d (.int j))) (some (.bor 0))) = .ok .nx (enR d x (some (.d (.int j))) (some (.bor 0))) := by
  rcases h with h | ⟨l, r, rfl⟩ | ⟨a, r, rfl, ha, hl⟩
  · cases d with
    | dict k => exact absurd rfl (hd k)
    | tuple ds => exact absurd rfl (h ds)
    | _ => simp [isiD]
  · have h0 : atI (PyData.list l :: r) 0 = some (.list l) := atI_at (by omega) rfl
    simp [isiD, h0]
  · have h0 : atI (a :: r) 0 = some a := atI_at (by omega) rfl
    have he := equal_refl 12 _ hl
    have hx : mXf "InvalidWords" 3 "value" (xcW (.tuple (a :: r))) (enR (.tuple (a :: r)) x (some (.d (.int j))) (some (.bor 0))) = .ok (.d (.tuple (a :: r))) (enR (.tuple (a :: r)) x (some (.d (.int j))) (some (.bor 0))) := rfl
    have ht : isiD .tTuple (.tuple (a :: r)) = some true := rfl
    simp [ht, h0, ha, hx, he, flat]
theorem try_ok (d : D) (hd : ND d) (x : Str) (j : Int) (h : F_is_words [d] = .ok (.d (.bool false)) []) (hs : Shown d) : mTry [("InvalidWords", true)] 3 tryB suiteB (enR d x (some (.d (.int j))) none) = .ok .nx (enR d x (some (.d (.int j))) none) := by
  have h1 := try_exc d x j h
  have h2 := suite_ok d hd x j hs
  unfold mTry
  rw [h1]
  have nb : noBor (enR d x (some (.d (.int j))) none) = true := rfl
  have h3 : suiteB (xcW d) ((enR d x (some (.d (.int j))) none).set 3 (some (.bor 0))) = .ok .nx (enR d x (some (.d (.int j))) (some (.bor 0))) := h2
  show (if noBor (enR d x (some (.d (.int j))) none) = true then _ else _) = _
  refine (if_pos nb).trans ?_
  rw [h3]
  rfl
theorem refused_ok (d : D) (hd : ND d) (x : Str) (h : F_is_words [d] = .ok (.d (.bool false)) []) (hs : Shown d) : F__law_is_refused [d, .str x] = .ok (.d (.bool true)) [] := by
  obtain ⟨e', h1, j, h2⟩ := for_inv (tg := .nm 2) (body := mTry [("InvalidWords", true)] 3 tryB suiteB) (ds := rngD 0 2) (e := enR d x none none)
    (fun i e => ∃ j, e = enR d x j none) (fun i dd e hi ⟨j, he⟩ => by
      obtain ⟨li, rfl⟩ := rng_get hi
      subst he
      exact ⟨_, _, rfl, .inl (try_ok d hd x _ h hs), _, rfl⟩) ⟨none, rfl⟩
  subst h2
  refine run_ok rfl (e := enR d x j none) ?_
  have hc : (mCons (mC (.int 2)) (mNil)) (enR d x none none) = .ok [.d (.int 2)] (enR d x none none) := rfl
  have hf := (forR1_run (tg := .nm 2) (body := mTry [("InvalidWords", true)] 3 tryB suiteB) hc (by omega) (by omega)).trans h1
  have hdef : m__law_is_refused = mSeq (mForR1 (.nm 2) (mCons (mC (.int 2)) (mNil)) (mTry [("InvalidWords", true)] 3 tryB suiteB)) (mRet (mC (.bool true))) := rfl
  rw [hdef, s_seq]
  refine Eq.trans (by rw [show List.map (fun d => some (SV.d d)) [d, PyData.str x] ++ List.replicate (4 - 2) none = enR d x none none from rfl, hf]) ?_
  rfl
end K03

namespace L2
open PySem PySem.Spec PyProof.Rows
theorem s_slH {en : En} {ma mh : M SV} {ds : List D} {j : Int} (h1 : ma en = .ok (.d (.tuple ds)) en) (h2 : mh en = .ok (.d (.int j)) en) : mSl2 ma none (some mh) en = .ok (.d (.tuple (cutD ds none (some j)))) en := by
  unfold mSl2
  rw [s_bind, s_frz, h1]
  dsimp only
  rw [s_bind, s_frz, h2]
  rfl
theorem s_slL {en : En} {ma ml : M SV} {ds : List D} {j : Int} (h1 : ma en = .ok (.d (.tuple ds)) en) (h2 : ml en = .ok (.d (.int j)) en) : mSl2 ma (some ml) none en = .ok (.d (.tuple (cutD ds (some j) none))) en := by
  unfold mSl2
  rw [s_bind, s_frz, h1]
  dsimp only
  rw [s_bind, s_frz, h2]
  rfl
theorem mem_cut {ds : List D} {lo hi : Option Int} {d : D} (h : d ∈ cutD ds lo hi) : d ∈ ds := List.mem_of_mem_drop (List.mem_of_mem_take h)
theorem len_cut (ds : List D) (lo hi : Option Int) : (cutD ds lo hi).length ≤ ds.length := by
  unfold cutD
  rw [List.length_take, List.length_drop]
  omega
@[simp] theorem s_add_t {en : En} (xs ys : List D) : dAdd (.tuple xs) (.tuple ys) en = if xs.length + ys.length ≤ sizeLine then Rs.ok (SV.d (.tuple (xs ++ ys))) en else Rs.stuck := by
  show (if xs.length + ys.length ≤ sizeLine then (mpure (SV.d (PyData.tuple (xs ++ ys))) : M SV) else mstuck) en = _
  split <;> rfl
end L2
namespace K03
open PySem PySem.Spec PyProof.Rows L2
structure El (d : D) : Prop where
  ent : EntOk d
  lv : lvl 11 d = true
  tl : isiD .tList d = some false
structure Bad (d : D) : Prop where
  nd : ND d
  no : F_is_words [d] = .ok (.d (.bool false)) []
  sh : Shown d
theorem bad_of (ds : List D) (h : ∀ d ∈ ds, El d) (hl : ds.length ≤ 1000) (hb : ∃ d ∈ ds, isEntry d = false) : Bad (.tuple ds) := by
  obtain ⟨b, mb, hb⟩ := hb
  refine ⟨nd_tuple _, is_words_bad ds (fun d m => (h d m).ent) (by have := sizeLine_ge; omega) ?_, ?_⟩
  · cases e : ds.all isEntry with
    | false => rfl
    | true =>
      have := List.all_eq_true.mp e b mb
      rw [hb] at this
      cases this
  · cases ds with
    | nil => cases mb
    | cons a r =>
      refine .inr (.inr ⟨a, r, rfl, (h a List.mem_cons_self).tl, ?_⟩)
      show ((a :: r).all (lvl 11) && decide ((a :: r).length ≤ 1000000)) = true
      rw [Bool.and_eq_true]
      exact ⟨List.all_eq_true.mpr fun d m => (h d m).lv, decide_eq_true (by omega)⟩
theorem el_pair (z : Str) (b : D) (hz : z.length ≤ sizeLine) (hb : ND b) (hv : lvl 10 b = true) : El (.tuple [.str z, b]) := by
  refine ⟨⟨nd_tuple _, fun a c e => ?_⟩, ?_, rfl⟩
  · cases e
    exact ⟨sm_str hz, hb⟩
  · show ([PyData.str z, b].all (lvl 10) && decide ([PyData.str z, b].length ≤ 1000000)) = true
    simp [lvl, hv]
theorem small8 {z : Str} (h : z.length ≤ 9) : z.length ≤ sizeLine := by have := sizeLine_ge; omega
theorem el_ws {ws : Ws} (G : Good ws) : ∀ d ∈ ws.map pD, El d := fun d m => by
  obtain ⟨p, mp, rfl⟩ := List.mem_map.mp m
  have h := G.ok p mp
  unfold okPair at h
  simp only [Bool.and_eq_true] at h
  exact el_pair p.1 (.int p.2) (sm_name h.1 |>.2 _ rfl) (nd_int _) rfl
theorem el_three (z : Str) : El (.tuple [.str z, .int 1, .int 1]) := ⟨⟨nd_tuple _, fun a c e => by cases e⟩, rfl, rfl⟩
abbrev enN (ns : List Int) (ws : Ws) (x : Str) (d0 d1 d2 a : Int) (s6 : Option SV) : En := [some (.d (scrD ns)), some (.d (.int 6)), some (.d (wsD ws)), some (.d (.str x)), some (.own (.lst [.int d0, .int d1, .int d2])), some (.d (.int a)), s6, none]
theorem comp_x (ns : List Int) (ws : Ws) (x : Str) (d0 d1 d2 a : Int) (s6 : Option SV) (hl : ws.length ≤ 1000) :
    mComp (.nm 7) [7] (mB (mOp2 dNe (mOp2 dIx (mVar 7) (mC (.int 0))) (mVar 3))) (mVar 7) (ws.map pD) (enN ns ws x d0 d1 d2 a s6) = .ok (.own (.lst ((ws.filter fun p => decide (p.1 ≠ x)).map pD))) (enN ns ws x d0 d1 d2 a s6) := by
  have ec := compGo_filter (tg := .nm 7) (mc := mB (mOp2 dNe (mOp2 dIx (mVar 7) (mC (.int 0))) (mVar 3))) (me := mVar 7) (en0 := wipeEn (enN ns ws x d0 d1 d2 a s6) [7]) (p := fun d => match ixD d (.int 0) with | some (.str k) => decide (k ≠ x) | _ => false) (g := id) (ws.map pD) [] (fun d m => by
    obtain ⟨p, mp, rfl⟩ := List.mem_map.mp m
    refine ⟨_, rfl, ?_, fun _ => ?_⟩
    · simp [wipeEn, pD_ix]
    · simp [wipeEn]) (by have := sizeLine_ge; simp; omega)
  rw [comp_ok rfl ec, List.nil_append, List.map_id, List.filter_map]
  rfl
end K03

namespace K03
open PySem PySem.Spec PyProof.Rows L2
@[simp] theorem at5_0 (a b c d e : D) : atI [a, b, c, d, e] 0 = some a := rfl
@[simp] theorem at5_1 (a b c d e : D) : atI [a, b, c, d, e] 1 = some b := rfl
@[simp] theorem at5_2 (a b c d e : D) : atI [a, b, c, d, e] 2 = some c := rfl
@[simp] theorem at5_3 (a b c d e : D) : atI [a, b, c, d, e] 3 = some d := rfl
@[simp] theorem at5_4 (a b c d e : D) : atI [a, b, c, d, e] 4 = some e := rfl
@[simp] theorem at4_0 (a b c d : D) : atI [a, b, c, d] 0 = some a := rfl
@[simp] theorem at4_1 (a b c d : D) : atI [a, b, c, d] 1 = some b := rfl
@[simp] theorem at4_2 (a b c d : D) : atI [a, b, c, d] 2 = some c := rfl
@[simp] theorem at4_3 (a b c d : D) : atI [a, b, c, d] 3 = some d := rfl
@[simp] theorem at3_0 (a b c : D) : atI [a, b, c] 0 = some a := rfl
@[simp] theorem at3_1 (a b c : D) : atI [a, b, c] 1 = some b := rfl
@[simp] theorem at3_2 (a b c : D) : atI [a, b, c] 2 = some c := rfl
theorem g1 : 1 ≤ sizeLine := by have := ge9; omega
theorem g3 : 3 ≤ sizeLine := by have := ge9; omega
theorem g4 : 4 ≤ sizeLine := by have := ge9; omega
theorem g5 : 5 ≤ sizeLine := by have := ge9; omega
noncomputable abbrev if5 : M Ct := mIfS (mB (mOp2 dLt (mOp2 dIx (mVar 4) (mC (.int 0))) (mC (.int 5)))) (mSeq (mSet 6 (mOp2 dIx (mLst (mCons (mTup (mCons (mVar 3) (mCons (mC (.int 0)) (mNil)))) (mCons (mTup (mCons (mVar 3) (mCons (mOp2 dAdd (mC (.int 1000003)) (mOp2 dIx (mVar 4) (mC (.int 2)))) (mNil)))) (mCons (mTup (mCons (mVar 3) (mCons (mC (.bool true)) (mNil)))) (mCons (mTup (mCons (mVar 3) (mCons (mOp2 dSub (mOp1 dNeg (mC (.int 1))) (mOp2 dIx (mVar 4) (mC (.int 2)))) (mNil)))) (mCons (mTup (mCons (mVar 3) (mCons (mC (.int 1)) (mCons (mC (.int 1)) (mNil))))) (mNil))))))) (mOp2 dIx (mVar 4) (mC (.int 0))))) (mRet (mOp2 dAdd (mCallD (d1 dTuple) (mCons (mLc (.nm 7) [7] (mVar 2) (mB (mOp2 dNe (mOp2 dIx (mVar 7) (mC (.int 0))) (mVar 3))) (mVar 7)) (mNil))) (mTup (mCons (mVar 6) (mNil)))))) (mNx)
noncomputable abbrev if10 : M Ct := mIfS (mB (mOp2 dLt (mOp2 dIx (mVar 4) (mC (.int 0))) (mC (.int 10)))) (mSeq (mSet 6 (mOp2 dIx (mLst (mCons (mTup (mCons (mC (.str "A")) (mCons (mC (.int 1)) (mNil)))) (mCons (mTup (mCons (mC (.str "min")) (mCons (mC (.int 1)) (mNil)))) (mCons (mTup (mCons (mC (.str "abcdefghi")) (mCons (mC (.int 1)) (mNil)))) (mCons (mTup (mCons (mC (.str "a1")) (mCons (mC (.int 1)) (mNil)))) (mCons (mTup (mCons (mC (.str "")) (mCons (mC (.int 1)) (mNil)))) (mNil))))))) (mOp2 dSub (mOp2 dIx (mVar 4) (mC (.int 0))) (mC (.int 5))))) (mRet (mOp2 dAdd (mOp2 dAdd (mSl2 (mVar 2) none (some (mVar 5))) (mTup (mCons (mVar 6) (mNil)))) (mSl2 (mVar 2) (some (mVar 5)) none)))) (mNx)
theorem neg1 : dNeg (.int 1) = mpure (.d (.int (-1))) := rfl
theorem if5_ok (ns : List Int) (ws : Ws) (x : Str) (d0 d1 d2 a : Int) (h0 : 0 ≤ d0 ∧ d0 < 5) (h2 : 0 ≤ d2) (hl : ws.length ≤ 100) :
    ∃ pr e, if5 (enN ns ws x d0 d1 d2 a none) = .ok (.rt (.d (.tuple ((ws.filter fun p => decide (p.1 ≠ x)).map pD ++ [pr])))) e ∧ (isEntry pr = false) ∧ (pr = .tuple [.str x, .int 1, .int 1] ∨ ∃ b, pr = .tuple [.str x, b] ∧ ND b ∧ lvl 10 b = true) := by
  have hc := fun s6 => comp_x ns ws x d0 d1 d2 a s6 (by omega)
  have hlen : (List.filter (fun p => !decide (p.fst = x)) ws).length + 1 ≤ sizeLine := by
    have := List.length_filter_le (fun p : Str × Int => !decide (p.fst = x)) ws
    have := sizeLine_ge
    omega
  have c : d0 = 0 ∨ d0 = 1 ∨ d0 = 2 ∨ d0 = 3 ∨ d0 = 4 := by omega
  have f0 : isEntry (.tuple [.str x, .int 0]) = false := by simp [isEntry, pos]
  have f1 : isEntry (.tuple [.str x, .int (1000003 + d2)]) = false := by
    have : ¬ 1000003 + d2 < 1000003 := by omega
    simp [isEntry, isVal, this]
  have f2 : isEntry (.tuple [.str x, .bool true]) = false := by simp [isEntry, isVal]
  have e3 : isVal (.int (-1 - d2)) = false := by
    have : decide (0 ≤ -1 - d2) = false := decide_eq_false (by omega)
    show (decide (0 ≤ -1 - d2) && _) = false
    rw [this]
    rfl
  have f3 : isEntry (.tuple [.str x, .int (-1 - d2)]) = false := by simp [isEntry, e3]
  have f4 : isEntry (.tuple [.str x, .int 1, .int 1]) = false := rfl
  dsimp only [enN, wsD] at hc
  rcases c with rfl | rfl | rfl | rfl | rfl
  · exact ⟨.tuple [.str x, .int 0], [some (.d (scrD ns)), some (.d (.int 6)), some (.d (wsD ws)), some (.d (.str x)), some (.own (.lst [.int 0, .int d1, .int d2])), some (.d (.int a)), some (.d (.tuple [.str x, .int 0])), none], by simp [ge2, g3, g5, g1, wsD, neg1, hc, dTuple, hlen], f0, .inr ⟨_, rfl, nd_int _, rfl⟩⟩
  · exact ⟨.tuple [.str x, .int (1000003 + d2)], [some (.d (scrD ns)), some (.d (.int 6)), some (.d (wsD ws)), some (.d (.str x)), some (.own (.lst [.int 1, .int d1, .int d2])), some (.d (.int a)), some (.d (.tuple [.str x, .int (1000003 + d2)])), none], by simp [ge2, g3, g5, g1, wsD, neg1, hc, dTuple, hlen], f1, .inr ⟨_, rfl, nd_int _, rfl⟩⟩
  · exact ⟨.tuple [.str x, .bool true], [some (.d (scrD ns)), some (.d (.int 6)), some (.d (wsD ws)), some (.d (.str x)), some (.own (.lst [.int 2, .int d1, .int d2])), some (.d (.int a)), some (.d (.tuple [.str x, .bool true])), none], by simp [ge2, g3, g5, g1, wsD, neg1, hc, dTuple, hlen], f2, .inr ⟨_, rfl, nd_bool _, rfl⟩⟩
  · exact ⟨.tuple [.str x, .int (-1 - d2)], [some (.d (scrD ns)), some (.d (.int 6)), some (.d (wsD ws)), some (.d (.str x)), some (.own (.lst [.int 3, .int d1, .int d2])), some (.d (.int a)), some (.d (.tuple [.str x, .int (-1 - d2)])), none], by simp [ge2, g3, g5, g1, wsD, neg1, hc, dTuple, hlen], f3, .inr ⟨_, rfl, nd_int _, rfl⟩⟩
  · exact ⟨.tuple [.str x, .int 1, .int 1], [some (.d (scrD ns)), some (.d (.int 6)), some (.d (wsD ws)), some (.d (.str x)), some (.own (.lst [.int 4, .int d1, .int d2])), some (.d (.int a)), some (.d (.tuple [.str x, .int 1, .int 1])), none], by simp [ge2, g3, g5, g1, wsD, neg1, hc, dTuple, hlen], f4, .inl rfl⟩
theorem if10_ok (ns : List Int) (ws : Ws) (x : Str) (d0 d1 d2 a : Int) (h0 : 5 ≤ d0 ∧ d0 < 10) (hl : ws.length ≤ 100) :
    ∃ (z : Str) (e : En), if10 (enN ns ws x d0 d1 d2 a none) = .ok (.rt (.d (.tuple (cutD (ws.map pD) none (some a) ++ [.tuple [.str z, .int 1]] ++ cutD (ws.map pD) (some a) none)))) e ∧ isName (.str z) = false ∧ z.length ≤ 9 := by
  have hH := fun s6 => s_slH (en := enN ns ws x d0 d1 d2 a s6) (ma := mVar 2) (mh := mVar 5) (ds := ws.map pD) (j := a) rfl rfl
  have hL := fun s6 => s_slL (en := enN ns ws x d0 d1 d2 a s6) (ma := mVar 2) (ml := mVar 5) (ds := ws.map pD) (j := a) rfl rfl
  have lc1 := len_cut (ws.map pD) none (some a)
  have lc2 := len_cut (ws.map pD) (some a) none
  rw [List.length_map] at lc1 lc2
  have l1 : (cutD (ws.map pD) none (some a)).length + 1 ≤ sizeLine := by have := sizeLine_ge; omega
  have l2 : (cutD (ws.map pD) none (some a)).length + 1 + (cutD (ws.map pD) (some a) none).length ≤ sizeLine := by have := sizeLine_ge; omega
  have c : d0 = 5 ∨ d0 = 6 ∨ d0 = 7 ∨ d0 = 8 ∨ d0 = 9 := by omega
  dsimp only [enN, wsD] at hH hL
  rcases c with rfl | rfl | rfl | rfl | rfl
  · exact ⟨"A", [some (.d (scrD ns)), some (.d (.int 6)), some (.d (wsD ws)), some (.d (.str x)), some (.own (.lst [.int 5, .int d1, .int d2])), some (.d (.int a)), some (.d (.tuple [.str "A", .int 1])), none], by simp [ge2, g3, g5, g1, wsD, neg1, hH, hL, l1, l2], by decide, by decide⟩
  · exact ⟨"min", [some (.d (scrD ns)), some (.d (.int 6)), some (.d (wsD ws)), some (.d (.str x)), some (.own (.lst [.int 6, .int d1, .int d2])), some (.d (.int a)), some (.d (.tuple [.str "min", .int 1])), none], by simp [ge2, g3, g5, g1, wsD, neg1, hH, hL, l1, l2], by decide, by decide⟩
  · exact ⟨"abcdefghi", [some (.d (scrD ns)), some (.d (.int 6)), some (.d (wsD ws)), some (.d (.str x)), some (.own (.lst [.int 7, .int d1, .int d2])), some (.d (.int a)), some (.d (.tuple [.str "abcdefghi", .int 1])), none], by simp [ge2, g3, g5, g1, wsD, neg1, hH, hL, l1, l2], by decide, by decide⟩
  · exact ⟨"a1", [some (.d (scrD ns)), some (.d (.int 6)), some (.d (wsD ws)), some (.d (.str x)), some (.own (.lst [.int 8, .int d1, .int d2])), some (.d (.int a)), some (.d (.tuple [.str "a1", .int 1])), none], by simp [ge2, g3, g5, g1, wsD, neg1, hH, hL, l1, l2], by decide, by decide⟩
  · exact ⟨"", [some (.d (scrD ns)), some (.d (.int 6)), some (.d (wsD ws)), some (.d (.str x)), some (.own (.lst [.int 9, .int d1, .int d2])), some (.d (.int a)), some (.d (.tuple [.str "", .int 1])), none], by simp [ge2, g3, g5, g1, wsD, neg1, hH, hL, l1, l2], by decide, by decide⟩
end K03

namespace K03
open PySem PySem.Spec PyProof.Rows L2
noncomputable abbrev if12 : M Ct := mIfS (mB (mOp2 dLt (mOp2 dIx (mVar 4) (mC (.int 0))) (mC (.int 12)))) (mRet (mIf (mB (mOp2 dEq (mOp2 dIx (mVar 4) (mC (.int 0))) (mC (.int 10)))) (mTup (mCons (mTup (mCons (mC (.str "b")) (mCons (mC (.int 1)) (mNil)))) (mCons (mTup (mCons (mC (.str "a")) (mCons (mOp2 dAdd (mC (.int 1)) (mOp2 dIx (mVar 4) (mC (.int 2)))) (mNil)))) (mNil)))) (mTup (mCons (mTup (mCons (mC (.str "a")) (mCons (mC (.int 1)) (mNil)))) (mCons (mTup (mCons (mC (.str "a")) (mCons (mOp2 dAdd (mC (.int 1)) (mOp2 dIx (mVar 4) (mC (.int 2)))) (mNil)))) (mNil)))))) (mNx)
noncomputable abbrev last4 : M Ct := mRet (mOp2 dIx (mLst (mCons (mCallD (d1 dList) (mCons (mVar 2) (mNil))) (mCons (mC .none) (mCons (mTup (mCons (mVar 3) (mNil))) (mCons (mTup (mCons (mLst (mCons (mVar 3) (mCons (mC (.int 1)) (mNil)))) (mNil))) (mNil)))))) (mOp2 dSub (mOp2 dIx (mVar 4) (mC (.int 0))) (mC (.int 12))))
theorem bad_two (y z : Str) (d2 : Int) (h2 : 0 ≤ d2 ∧ d2 < 1000) (hy : isName (.str y) = true) (hz : isName (.str z) = true) (hn : leS y z = false ∨ y = z) : Bad (wsD [(y, 1), (z, 1 + d2)]) := by
  have ok : ∀ p ∈ [(y, (1 : Int)), (z, 1 + d2)], okPair p = true := fun p m => by
    simp only [List.mem_cons, List.not_mem_nil, or_false] at m
    rcases m with rfl | rfl
    · exact okPair_of hy (by omega) (by omega)
    · exact okPair_of hz (by omega) (by omega)
  have e := is_words_ws _ ok (by simp)
  have ne : ¬ ([(y, (1 : Int)), (z, 1 + d2)].map (·.1) = sortSet ([(y, (1 : Int)), (z, 1 + d2)].map (·.1))) := fun c => by
    have p := sortSet_pw ([(y, (1 : Int)), (z, 1 + d2)].map (·.1))
    have q := sortSet_nodup ([(y, (1 : Int)), (z, 1 + d2)].map (·.1))
    rw [← c] at p q
    rcases hn with hn | hn
    · have := (List.pairwise_cons.mp p).1 z (by simp)
      rw [hn] at this
      cases this
    · have := (List.nodup_cons.mp q).1
      simp [hn] at this
  refine ⟨nd_tuple _, by rw [e, decide_eq_false ne], .inr (.inr ⟨pD (y, 1), [pD (z, 1 + d2)], rfl, rfl, ?_⟩)⟩
  show ([pD (y, 1), pD (z, 1 + d2)].all (lvl 11) && decide ([pD (y, 1), pD (z, 1 + d2)].length ≤ 1000000)) = true
  simp [lvl, pD]
theorem g5n (ns : List Int) (ws : Ws) (x : Str) (d0 d1 d2 a : Int) (h : 5 ≤ d0) : if5 (enN ns ws x d0 d1 d2 a none) = .ok .nx (enN ns ws x d0 d1 d2 a none) := by
  have : ¬ d0 < 5 := by omega
  simp [this]
theorem g10n (ns : List Int) (ws : Ws) (x : Str) (d0 d1 d2 a : Int) (h : 10 ≤ d0) : if10 (enN ns ws x d0 d1 d2 a none) = .ok .nx (enN ns ws x d0 d1 d2 a none) := by
  have : ¬ d0 < 10 := by omega
  simp [this]
theorem g12n (ns : List Int) (ws : Ws) (x : Str) (d0 d1 d2 a : Int) (h : 12 ≤ d0) : if12 (enN ns ws x d0 d1 d2 a none) = .ok .nx (enN ns ws x d0 d1 d2 a none) := by
  have : ¬ d0 < 12 := by omega
  simp [this]
theorem if12_ok (ns : List Int) (ws : Ws) (x : Str) (d0 d1 d2 a : Int) (h0 : d0 = 10 ∨ d0 = 11) (h2 : 0 ≤ d2 ∧ d2 < 1000) : ∃ d e, if12 (enN ns ws x d0 d1 d2 a none) = .ok (.rt (.d d)) e ∧ Bad d := by
  rcases h0 with rfl | rfl
  · exact ⟨_, enN ns ws x 10 d1 d2 a none, by simp [ge2]; rfl, bad_two "b" "a" d2 h2 (by decide) (by decide) (.inl (by decide))⟩
  · exact ⟨_, enN ns ws x 11 d1 d2 a none, by simp [ge2]; rfl, bad_two "a" "a" d2 h2 (by decide) (by decide) (.inr rfl)⟩
theorem last_ok (ns : List Int) (ws : Ws) (x : Str) (d0 d1 d2 a : Int) (h0 : 12 ≤ d0 ∧ d0 < 16) (hx : isName (.str x) = true) : ∃ d e, last4 (enN ns ws x d0 d1 d2 a none) = .ok (.rt (.d d)) e ∧ Bad d := by
  have c : d0 = 12 ∨ d0 = 13 ∨ d0 = 14 ∨ d0 = 15 := by omega
  have dl : dList (.tuple (ws.map pD)) = mpure (.own (.lst (ws.map pD))) := rfl
  have hs := (sm_name hx).2 _ rfl
  rcases c with rfl | rfl | rfl | rfl
  · exact ⟨.list (ws.map pD), enN ns ws x 12 d1 d2 a none, by simp [g1, ge2, g4, wsD, dl], ⟨nd_list _, is_words_not _ (nd_list _) (fun _ e => by cases e), .inl fun _ e => by cases e⟩⟩
  · exact ⟨.none, enN ns ws x 13 d1 d2 a none, by simp [g1, ge2, g4, wsD, dl], ⟨nd_none, is_words_not _ nd_none (fun _ e => by cases e), .inl fun _ e => by cases e⟩⟩
  · refine ⟨.tuple [.str x], enN ns ws x 14 d1 d2 a none, by simp [g1, ge2, g4, wsD, dl], bad_of _ (fun d m => ?_) (by simp) ⟨.str x, by simp, rfl⟩⟩
    rw [List.mem_singleton.mp m]
    exact ⟨⟨nd_str _, fun _ _ e => by cases e⟩, rfl, rfl⟩
  · refine ⟨.tuple [.list [.str x, .int 1]], enN ns ws x 15 d1 d2 a none, by simp [g1, ge2, g4, wsD, dl], ⟨nd_tuple _, is_words_bad _ (fun d m => ?_) (by simp; exact g1) rfl, .inr (.inl ⟨_, _, rfl⟩)⟩⟩
    rw [List.mem_singleton.mp m]
    exact ⟨nd_list _, fun _ _ e => by cases e⟩
theorem no_words_ok (ns : List Int) {ws : Ws} (G : Good ws) (hl : ws.length ≤ 5) (x : Str) (hx : isName (.str x) = true) : ∃ d, F__law_no_words [scrD ns, .int 6, wsD ws, .str x] = .ok (.d d) [] ∧ Bad d := by
  obtain ⟨ds, h, hdl, hb⟩ := draws_ok ns 6 (by omega) [16, 5, 1000] (bnds_of (by decide) (by simp))
  match ds, hdl with
  | [d0, d1, d2], _ =>
    have h0 := hb 0 d0 16 rfl rfl
    have h2 := hb 2 d2 1000 rfl rfl
    have e0 : mSet 4 (mCall F__law_draws (mCons (mVar 0) (mCons (mVar 1) (mCons (mLst (mCons (mC (.int 16)) (mCons (mC (.int 5)) (mCons (mC (.int 1000)) (mNil))))) (mNil))))) [some (.d (scrD ns)), some (.d (.int 6)), some (.d (wsD ws)), some (.d (.str x)), none, none, none, none] = .ok .nx [some (.d (scrD ns)), some (.d (.int 6)), some (.d (wsD ws)), some (.d (.str x)), some (.own (.lst [.int d0, .int d1, .int d2])), none, none, none] := by
      simp only [List.map_cons, List.map_nil] at h
      have hf : flatO (.lst [PyData.int d0, PyData.int d1, PyData.int d2]) = true := rfl
      simp [g3, h, hf]
    have e1 : mSet 5 (mOp2 dMod (mCallD (L2.d1 dInt) (mCons (mOp2 dIx (mVar 4) (mC (.int 1))) (mNil))) (mOp2 dAdd (mC (.int 1)) (mCallD (L2.d1 dLen) (mCons (mVar 2) (mNil))))) [some (.d (scrD ns)), some (.d (.int 6)), some (.d (wsD ws)), some (.d (.str x)), some (.own (.lst [.int d0, .int d1, .int d2])), none, none, none] = .ok .nx (enN ns ws x d0 d1 d2 (d1 % (1 + (ws.length : Int))) none) := by
      have hp : (0 : Int) < 1 + (ws.length : Int) := by omega
      have hlen : dLen (wsD ws) = mpure (.d (.int (ws.length : Int))) := by
        show dLen (.tuple (ws.map pD)) = _
        rw [s_len_t, List.length_map]
      generalize (ws.length : Int) = n at *
      simp [hlen, hp]
    generalize d1 % (1 + (ws.length : Int)) = a at e1
    have main : ∃ d e, (mSeq if5 (mSeq if10 (mSeq if12 last4))) (enN ns ws x d0 d1 d2 a none) = .ok (.rt (.d d)) e ∧ Bad d := by
      by_cases c5 : d0 < 5
      · obtain ⟨pr, e, q, f, k⟩ := if5_ok ns ws x d0 d1 d2 a ⟨h0.1, c5⟩ h2.1 (by omega)
        refine ⟨_, e, by rw [s_seq, q], bad_of _ (fun d m => ?_) ?_ ⟨pr, by simp, f⟩⟩
        · rcases List.mem_append.mp m with m | m
          · obtain ⟨p, mp, rfl⟩ := List.mem_map.mp m
            exact el_ws G _ (List.mem_map.mpr ⟨p, (List.mem_filter.mp mp).1, rfl⟩)
          · rw [List.mem_singleton.mp m]
            rcases k with rfl | ⟨b, rfl, nb, lb⟩
            · exact el_three x
            · exact el_pair x b ((sm_name hx).2 _ rfl) nb lb
        · have := List.length_filter_le (fun p : Str × Int => decide (p.1 ≠ x)) ws
          simp only [List.length_append, List.length_map, List.length_cons, List.length_nil]
          omega
      · rw [s_seq, g5n ns ws x d0 d1 d2 a (by omega)]
        dsimp only
        by_cases c10 : d0 < 10
        · obtain ⟨z, e, q, f, zl⟩ := if10_ok ns ws x d0 d1 d2 a ⟨by omega, c10⟩ (by omega)
          refine ⟨_, e, by rw [s_seq, q], bad_of _ (fun d m => ?_) ?_ ⟨.tuple [.str z, .int 1], by simp, by show (isName (.str z) && _) = false; rw [f]; rfl⟩⟩
          · rcases List.mem_append.mp m with m | m
            · rcases List.mem_append.mp m with m | m
              · exact el_ws G _ (mem_cut m)
              · rw [List.mem_singleton.mp m]
                exact el_pair z _ (small8 zl) (nd_int _) rfl
            · exact el_ws G _ (mem_cut m)
          · have l1 := len_cut (ws.map pD) none (some a)
            have l2 := len_cut (ws.map pD) (some a) none
            rw [List.length_map] at l1 l2
            simp only [List.length_append, List.length_cons, List.length_nil]
            omega
        · rw [s_seq, g10n ns ws x d0 d1 d2 a (by omega)]
          dsimp only
          by_cases c12 : d0 < 12
          · obtain ⟨d, e, q, B⟩ := if12_ok ns ws x d0 d1 d2 a (by omega) h2
            exact ⟨d, e, by rw [s_seq, q], B⟩
          · rw [s_seq, g12n ns ws x d0 d1 d2 a (by omega)]
            dsimp only
            exact last_ok ns ws x d0 d1 d2 a ⟨by omega, h0.2⟩ hx
    obtain ⟨d, e, q, B⟩ := main
    refine ⟨d, run_ok rfl (e := e) ?_, B⟩
    have hdef : m__law_no_words = mSeq (mSet 4 (mCall F__law_draws (mCons (mVar 0) (mCons (mVar 1) (mCons (mLst (mCons (mC (.int 16)) (mCons (mC (.int 5)) (mCons (mC (.int 1000)) (mNil))))) (mNil)))))) (mSeq (mSet 5 (mOp2 dMod (mCallD (L2.d1 dInt) (mCons (mOp2 dIx (mVar 4) (mC (.int 1))) (mNil))) (mOp2 dAdd (mC (.int 1)) (mCallD (L2.d1 dLen) (mCons (mVar 2) (mNil)))))) (mSeq if5 (mSeq if10 (mSeq if12 last4)))) := rfl
    rw [hdef, s_seq]
    refine Eq.trans (by rw [show List.map (fun d => some (SV.d d)) [scrD ns, PyData.int 6, wsD ws, PyData.str x] ++ List.replicate (8 - 4) none = [some (.d (scrD ns)), some (.d (.int 6)), some (.d (wsD ws)), some (.d (.str x)), none, none, none, none] from rfl, e0]) ?_
    dsimp only
    rw [s_seq, e1]
    exact q
end K03

namespace K03
open PySem PySem.Spec PyProof.Rows L2
theorem lvl_ws (r : Ws) (h : r.length ≤ 1000000) : lvl 12 (wsD r) = true := by
  show ((r.map pD).all (lvl 11) && decide ((r.map pD).length ≤ 1000000)) = true
  rw [Bool.and_eq_true]
  refine ⟨List.all_eq_true.mpr fun d m => ?_, decide_eq_true (by rw [List.length_map]; exact h)⟩
  obtain ⟨p, _, rfl⟩ := List.mem_map.mp m
  simp [lvl, pD]
theorem equal_int (i : Int) : F__law_equal 12 [.int i, .int i] = .ok (.d (.bool true)) [] := equal_refl 12 _ rfl
def dueOf (x : Str) (ws : Ws) (z : Int) : Int := ws.foldl (fun d p => if p.1 = x then p.2 else d) z
theorem due_none (x : Str) : ∀ (ws : Ws) (z : Int), (∀ p ∈ ws, p.1 ≠ x) → dueOf x ws z = z
  | [], _, _ => rfl
  | p :: r, z, h => by
    show dueOf x r (if p.1 = x then p.2 else z) = z
    rw [if_neg (h p List.mem_cons_self)]
    exact due_none x r z fun q m => h q (List.mem_cons_of_mem _ m)
theorem due_val (x : Str) : ∀ (ws : Ws), (ws.map (·.1)).Nodup → dueOf x ws 0 = valW ws x
  | [], _ => rfl
  | p :: r, h => by
    have h2 := List.nodup_cons.mp (by simpa using h : (p.1 :: r.map (·.1)).Nodup)
    show dueOf x r (if p.1 = x then p.2 else 0) = _
    unfold valW
    rw [List.find?_cons]
    by_cases c : p.1 = x
    · rw [if_pos c]
      simp only [c, decide_true]
      refine due_none x r _ fun q m e => h2.1 ?_
      rw [c, ← e]
      exact List.mem_map.mpr ⟨q, m, rfl⟩
    · rw [if_neg c]
      simp only [c, decide_false]
      exact due_val x r h2.2
abbrev enG (ns : List Int) (P : List Str) (ws : Ws) (dr : List D) (nm : Str) (v : Int) (s6 s7 s8 s9 s10 s11 s12 s13 : Option SV) : En := [some (.d (scrD ns)), some (.own (.lst (P.map .str))), some (.d (wsD ws)), some (.own (.lst dr)), some (.d (.str nm)), some (.d (.int v)), s6, s7, s8, s9, s10, s11, s12, s13, none]
abbrev dueB : M Ct := mIfS (mB (mOp2 dEq (mOp2 dIx (mVar 8) (mC (.int 0))) (mVar 6))) (mSet 7 (mOp2 dIx (mVar 8) (mC (.int 1)))) (mNx)
theorem pD_ix1 (p : Str × Int) : ixD (pD p) (.int 1) = some (.int p.2) := rfl
section
variable (ns : List Int) (P : List Str) (ws : Ws) (dr : List D) (nm : Str) (v : Int)
theorem due_ok (x : Str) (s8 s9 s10 s11 s12 s13 : Option SV) : ∃ s8', mFor (.nm 8) [7] (mVar 2) dueB (enG ns P ws dr nm v (some (.d (.str x))) (some (.d (.int 0))) s8 s9 s10 s11 s12 s13) = .ok .nx (enG ns P ws dr nm v (some (.d (.str x))) (some (.d (.int (dueOf x ws 0)))) s8' s9 s10 s11 s12 s13) := by
  obtain ⟨e', h1, s8', h2⟩ := for_inv (tg := .nm 8) (body := dueB) (ds := ws.map pD) (e := enG ns P ws dr nm v (some (.d (.str x))) (some (.d (.int 0))) s8 s9 s10 s11 s12 s13)
    (fun i e => ∃ s8, e = enG ns P ws dr nm v (some (.d (.str x))) (some (.d (.int (dueOf x (ws.take i) 0)))) s8 s9 s10 s11 s12 s13) (fun i d e hi ⟨s8, he⟩ => by
      rw [List.getElem?_map] at hi
      cases hp : ws[i]? with
      | none => rw [hp] at hi; cases hi
      | some p =>
        rw [hp] at hi
        cases hi
        subst he
        have e3 : dueOf x (ws.take (i + 1)) 0 = if p.1 = x then p.2 else dueOf x (ws.take i) 0 := by
          unfold dueOf
          rw [List.take_add_one, hp, List.foldl_append]
          rfl
        rw [e3]
        by_cases c : p.1 = x
        · exact ⟨_, _, rfl, .inl (by simp [pD_ix, pD_ix1, c]; rfl), some (.d (pD p)), by rw [if_pos c]⟩
        · exact ⟨_, _, rfl, .inl (by simp [pD_ix, c]; rfl), some (.d (pD p)), by rw [if_neg c]⟩) ⟨s8, rfl⟩
  rw [List.length_map, List.take_length] at h2
  subst h2
  refine ⟨s8', ?_⟩
  have hw : (mVar 2) (enG ns P ws dr nm v (some (.d (.str x))) (some (.d (.int 0))) s8 s9 s10 s11 s12 s13) = .ok (.d (.tuple (ws.map pD))) (enG ns P ws dr nm v (some (.d (.str x))) (some (.d (.int 0))) s8 s9 s10 s11 s12 s13) := rfl
  rw [s_for, s_frz, hw]
  exact h1
noncomputable abbrev newB : M Ct := mSeq (mSet 10 (mCall F_words_with (mCons (mVar 2) (mCons (mVar 6) (mCons (mVar 9) (mNil)))))) (mIfS (mOrT (mNotT (mB (mCall (F__law_equal 12) (mCons (mVar 10) (mCons (mCall F__law_with (mCons (mVar 2) (mCons (mVar 6) (mCons (mVar 9) (mNil))))) (mNil)))))) (mB (mOp2 dNis (mCall F_is_words (mCons (mVar 10) (mNil))) (mC (.bool true))))) (mRet (mC (.bool false))) (mNx))
theorem new_ok {ws : Ws} (G : Good ws) (hl : ws.length ≤ 5) (x : Str) (hx : isName (.str x) = true) (w : Int) (h0 : 0 ≤ w) (h1 : w < 1000003) (s7 s8 s10 s11 s12 s13 : Option SV) :
    ∃ s10', newB (enG ns P ws dr nm v (some (.d (.str x))) s7 s8 (some (.d (.int w))) s10 s11 s12 s13) = .ok .nx (enG ns P ws dr nm v (some (.d (.str x))) s7 s8 (some (.d (.int w))) s10' s11 s12 s13) := by
  have e1 := words_with_ok G x w
  rw [with_same G x w h0] at e1
  have e2 := law_with_ok ws x w (by omega)
  have G2 := good_law G (by omega) x w hx h0 h1
  have e3 := G2.is
  have e4 := equal_refl 12 _ (lvl_ws (lawW ws x w) (by have := G2.few; omega))
  have f := flat_wsD (lawW ws x w)
  generalize lawW ws x w = r at *
  exact ⟨some (.d (wsD r)), by simp [e1, e2, e3, e4, f, flat]⟩
end
end K03

namespace K03
open PySem PySem.Spec PyProof.Rows L2
section
variable (ns : List Int) (P : List Str) (dr : List D) (nm : Str) (v : Int)
noncomputable abbrev otherB : M Ct := mSeq (mSet 7 (mC (.int 0))) (mSeq (mFor (.nm 8) [7] (mVar 2) dueB) (mSeq (mIfS (mNotT (mB (mCall (F__law_equal 12) (mCons (mCall F_word_in (mCons (mVar 2) (mCons (mVar 6) (mNil)))) (mCons (mVar 7) (mNil)))))) (mRet (mC (.bool false))) (mNx)) (mFor (.nm 9) [10] (mLst (mCons (mVar 5) (mCons (mC (.int 0)) (mNil)))) newB)))
theorem other_ok {ws : Ws} (G : Good ws) (hl : ws.length ≤ 5) (x : Str) (hx : isName (.str x) = true) (h0 : 0 ≤ v) (h1 : v < 1000003) (s7 s8 s9 s10 : Option SV) :
    ∃ s7' s8' s9' s10', otherB (enG ns P ws dr nm v (some (.d (.str x))) s7 s8 s9 s10 none none none) = .ok .nx (enG ns P ws dr nm v (some (.d (.str x))) s7' s8' s9' s10' none none none) := by
  obtain ⟨s8', q2⟩ := due_ok ns P ws dr nm v x s8 s9 s10 none none none
  rw [due_val x ws G.nd] at q2
  have q1 : mSet 7 (mC (.int 0)) (enG ns P ws dr nm v (some (.d (.str x))) s7 s8 s9 s10 none none none) = .ok .nx (enG ns P ws dr nm v (some (.d (.str x))) (some (.d (.int 0))) s8 s9 s10 none none none) := rfl
  have q3 : (mIfS (mNotT (mB (mCall (F__law_equal 12) (mCons (mCall F_word_in (mCons (mVar 2) (mCons (mVar 6) (mNil)))) (mCons (mVar 7) (mNil)))))) (mRet (mC (.bool false))) (mNx)) (enG ns P ws dr nm v (some (.d (.str x))) (some (.d (.int (valW ws x)))) s8' s9 s10 none none none) = .ok .nx (enG ns P ws dr nm v (some (.d (.str x))) (some (.d (.int (valW ws x)))) s8' s9 s10 none none none) := by
    have e1 := word_in_ok G x
    have e2 := equal_int (valW ws x)
    simp [e1, e2, flat]
  have q4 : ∃ s9' s10', mFor (.nm 9) [10] (mLst (mCons (mVar 5) (mCons (mC (.int 0)) (mNil)))) newB (enG ns P ws dr nm v (some (.d (.str x))) (some (.d (.int (valW ws x)))) s8' s9 s10 none none none) = .ok .nx (enG ns P ws dr nm v (some (.d (.str x))) (some (.d (.int (valW ws x)))) s8' s9' s10' none none none) := by
    have hm : (mLst (mCons (mVar 5) (mCons (mC (.int 0)) (mNil)))) (enG ns P ws dr nm v (some (.d (.str x))) (some (.d (.int (valW ws x)))) s8' s9 s10 none none none) = .ok (.own (.lst [.int v, .int 0])) (enG ns P ws dr nm v (some (.d (.str x))) (some (.d (.int (valW ws x)))) s8' s9 s10 none none none) := by simp [ge2]
    obtain ⟨e', q, s9', s10', he⟩ := for_inv (tg := .nm 9) (body := newB) (ds := [PyData.int v, .int 0]) (e := enG ns P ws dr nm v (some (.d (.str x))) (some (.d (.int (valW ws x)))) s8' s9 s10 none none none)
      (fun i e => ∃ s9 s10, e = enG ns P ws dr nm v (some (.d (.str x))) (some (.d (.int (valW ws x)))) s8' s9 s10 none none none) (fun i d e hi ⟨s9, s10, he⟩ => by
        subst he
        have hd : d = .int v ∨ d = .int 0 := by
          have := List.mem_of_getElem? hi
          simpa using this
        rcases hd with rfl | rfl
        · obtain ⟨a1, n1⟩ := new_ok ns P dr nm v G hl x hx v h0 h1 (some (.d (.int (valW ws x)))) s8' s10 none none none
          exact ⟨_, _, rfl, .inl n1, _, _, rfl⟩
        · obtain ⟨a2, n2⟩ := new_ok ns P dr nm v G hl x hx 0 (by omega) (by omega) (some (.d (.int (valW ws x)))) s8' s10 none none none
          exact ⟨_, _, rfl, .inl n2, _, _, rfl⟩) ⟨_, _, rfl⟩
    subst he
    refine ⟨s9', s10', ?_⟩
    refine (s_for _ _ _ _).trans ?_
    rw [s_frz, hm]
    exact q
  obtain ⟨s9', a2, q4⟩ := q4
  refine ⟨some (.d (.int (valW ws x))), s8', s9', a2, ?_⟩
  refine (s_seq _ _).trans ?_
  rw [q1]
  dsimp only
  rw [s_seq, q2]
  dsimp only
  rw [s_seq, q3]
  exact q4
theorem others_ok {ws : Ws} (G : Good ws) (hl : ws.length ≤ 5) (hP : ∀ x ∈ P, isName (.str x) = true) (h0 : 0 ≤ v) (h1 : v < 1000003) :
    ∃ s6 s7 s8 s9 s10, mFor (.nm 6) [7, 8, 9, 10] (mVar 1) otherB (enG ns P ws dr nm v none none none none none none none none) = .ok .nx (enG ns P ws dr nm v s6 s7 s8 s9 s10 none none none) := by
  obtain ⟨e', q, s6, s7, s8, s9, s10, he⟩ := forGo_inv (tg := .nm 6) (c := some (1, P.map .str)) (body := otherB) (ds0 := P.map .str)
    (fun i e => ∃ s6 s7 s8 s9 s10, e = enG ns P ws dr nm v s6 s7 s8 s9 s10 none none none) (fun i e ⟨_, _, _, _, _, he⟩ => chk_at (by rw [he]; rfl)) (fun i d e hi ⟨s6, s7, s8, s9, s10, he⟩ => by
      rw [List.getElem?_map] at hi
      cases hp : P[i]? with
      | none => rw [hp] at hi; cases hi
      | some x =>
        rw [hp] at hi
        cases hi
        subst he
        obtain ⟨t7, t8, t9, t10, q⟩ := other_ok ns P dr nm v G hl x (hP x (List.mem_of_getElem? hp)) h0 h1 s7 s8 s9 s10
        exact ⟨_, _, rfl, .inl q, some (.d (.str x)), t7, t8, t9, t10, rfl⟩) (P.map .str) 0 rfl (enG ns P ws dr nm v none none none none none none none none) ⟨_, _, _, _, _, rfl⟩
  subst he
  refine ⟨s6, s7, s8, s9, s10, ?_⟩
  rw [s_for]
  exact q
noncomputable abbrev pairB : M Ct := mIfS (mNotT (mB (mCall (F__law_equal 12) (mCons (mCall F_operated (mCons (mVar 13) (mCons (mOp2 dIx (mVar 8) (mC (.int 0))) (mCons (mOp2 dIx (mVar 8) (mC (.int 1))) (mNil))))) (mCons (mCall F__law_operated (mCons (mVar 13) (mCons (mOp2 dIx (mVar 8) (mC (.int 0))) (mCons (mOp2 dIx (mVar 8) (mC (.int 1))) (mNil))))) (mNil)))))) (mRet (mC (.bool false))) (mNx)
abbrev ops7 : List Str := ["+", "-", "*", "max", "min", "<", "="]
theorem pair_ok (ws : Ws) (op : Str) (ho : op ∈ ops7) (a b : Int) (ha : 0 ≤ a ∧ a < 1000003) (hb : 0 ≤ b ∧ b < 1000003) (s6 s7 s9 s10 s11 s12 : Option SV) :
    pairB (enG ns P ws dr nm v s6 s7 (some (.d (.tuple [.int a, .int b]))) s9 s10 s11 s12 (some (.d (.str op)))) = .ok .nx (enG ns P ws dr nm v s6 s7 (some (.d (.tuple [.int a, .int b]))) s9 s10 s11 s12 (some (.d (.str op)))) := by
  obtain ⟨r, e1, e2⟩ := operated_same ho ha hb
  have e3 := equal_int r
  simp [e1, e2, e3, flat]
noncomputable abbrev opB : M Ct := mFor (.nm 8) [] (mLst (mCons (mTup (mCons (mVar 11) (mCons (mVar 12) (mNil)))) (mCons (mTup (mCons (mVar 12) (mCons (mVar 11) (mNil)))) (mCons (mTup (mCons (mVar 11) (mCons (mVar 11) (mNil)))) (mNil))))) pairB
theorem op_ok (ws : Ws) (op : Str) (ho : op ∈ ops7) (a b : Int) (ha : 0 ≤ a ∧ a < 1000003) (hb : 0 ≤ b ∧ b < 1000003) (s6 s7 s8 s9 s10 : Option SV) :
    ∃ s8', opB (enG ns P ws dr nm v s6 s7 s8 s9 s10 (some (.d (.int a))) (some (.d (.int b))) (some (.d (.str op)))) = .ok .nx (enG ns P ws dr nm v s6 s7 s8' s9 s10 (some (.d (.int a))) (some (.d (.int b))) (some (.d (.str op)))) := by
  have hm : (mLst (mCons (mTup (mCons (mVar 11) (mCons (mVar 12) (mNil)))) (mCons (mTup (mCons (mVar 12) (mCons (mVar 11) (mNil)))) (mCons (mTup (mCons (mVar 11) (mCons (mVar 11) (mNil)))) (mNil))))) (enG ns P ws dr nm v s6 s7 s8 s9 s10 (some (.d (.int a))) (some (.d (.int b))) (some (.d (.str op)))) = .ok (.own (.lst [.tuple [.int a, .int b], .tuple [.int b, .int a], .tuple [.int a, .int a]])) (enG ns P ws dr nm v s6 s7 s8 s9 s10 (some (.d (.int a))) (some (.d (.int b))) (some (.d (.str op)))) := by simp [ge2, g3]
  obtain ⟨e', q, s8', he⟩ := for_inv (tg := .nm 8) (body := pairB) (ds := [PyData.tuple [.int a, .int b], .tuple [.int b, .int a], .tuple [.int a, .int a]]) (e := enG ns P ws dr nm v s6 s7 s8 s9 s10 (some (.d (.int a))) (some (.d (.int b))) (some (.d (.str op))))
    (fun i e => ∃ s8, e = enG ns P ws dr nm v s6 s7 s8 s9 s10 (some (.d (.int a))) (some (.d (.int b))) (some (.d (.str op)))) (fun i d e hi ⟨s8, he⟩ => by
      subst he
      have hd : d = .tuple [.int a, .int b] ∨ d = .tuple [.int b, .int a] ∨ d = .tuple [.int a, .int a] := by
        have := List.mem_of_getElem? hi
        simpa using this
      rcases hd with rfl | rfl | rfl
      · exact ⟨_, _, rfl, .inl (pair_ok ns P dr nm v ws op ho a b ha hb s6 s7 s9 s10 _ _), _, rfl⟩
      · exact ⟨_, _, rfl, .inl (pair_ok ns P dr nm v ws op ho b a hb ha s6 s7 s9 s10 _ _), _, rfl⟩
      · exact ⟨_, _, rfl, .inl (pair_ok ns P dr nm v ws op ho a a ha ha s6 s7 s9 s10 _ _), _, rfl⟩) ⟨_, rfl⟩
  subst he
  refine ⟨s8', ?_⟩
  refine (s_for _ _ _ _).trans ?_
  rw [s_frz, hm]
  exact q
theorem ops_ok (ws : Ws) (a b : Int) (ha : 0 ≤ a ∧ a < 1000003) (hb : 0 ≤ b ∧ b < 1000003) (s6 s7 s8 s9 s10 : Option SV) :
    ∃ s8' s13, mFor (.nm 13) [8] (mLst (mCons (mC (.str "+")) (mCons (mC (.str "-")) (mCons (mC (.str "*")) (mCons (mC (.str "max")) (mCons (mC (.str "min")) (mCons (mC (.str "<")) (mCons (mC (.str "=")) (mNil))))))))) opB (enG ns P ws dr nm v s6 s7 s8 s9 s10 (some (.d (.int a))) (some (.d (.int b))) none) = .ok .nx (enG ns P ws dr nm v s6 s7 s8' s9 s10 (some (.d (.int a))) (some (.d (.int b))) s13) := by
  have g7 : 7 ≤ sizeLine := by have := ge9; omega
  have hm : (mLst (mCons (mC (.str "+")) (mCons (mC (.str "-")) (mCons (mC (.str "*")) (mCons (mC (.str "max")) (mCons (mC (.str "min")) (mCons (mC (.str "<")) (mCons (mC (.str "=")) (mNil))))))))) (enG ns P ws dr nm v s6 s7 s8 s9 s10 (some (.d (.int a))) (some (.d (.int b))) none) = .ok (.own (.lst (ops7.map .str))) (enG ns P ws dr nm v s6 s7 s8 s9 s10 (some (.d (.int a))) (some (.d (.int b))) none) := by simp [g7]
  obtain ⟨e', q, s8', s13, he⟩ := for_inv (tg := .nm 13) (body := opB) (ds := ops7.map PyData.str) (e := enG ns P ws dr nm v s6 s7 s8 s9 s10 (some (.d (.int a))) (some (.d (.int b))) none)
    (fun i e => ∃ s8 s13, e = enG ns P ws dr nm v s6 s7 s8 s9 s10 (some (.d (.int a))) (some (.d (.int b))) s13) (fun i d e hi ⟨s8, s13, he⟩ => by
      subst he
      obtain ⟨op, ho, rfl⟩ := List.mem_map.mp (List.mem_of_getElem? hi)
      obtain ⟨t, q⟩ := op_ok ns P dr nm v ws op ho a b ha hb s6 s7 s8 s9 s10
      exact ⟨_, _, rfl, .inl q, t, _, rfl⟩) ⟨_, _, rfl⟩
  subst he
  refine ⟨s8', s13, ?_⟩
  rw [s_for, s_frz, hm]
  exact q
end
end K03

namespace K03
open PySem PySem.Spec PyProof.Rows L2
section
noncomputable abbrev retL : M Ct := mRet (mBV (mAndT (mB (mOp2 dIs (mCall F_is_words (mCons (mVar 14) (mNil))) (mC (.bool false)))) (mAndT (mB (mOp2 dIs (mCall F_is_words (mCons (mOp2 dAdd (mVar 2) (mTup (mCons (mTup (mCons (mC (.str "z")) (mCons (mC (.int 0)) (mNil)))) (mNil)))) (mNil))) (mC (.bool false)))) (mB (mCall F__law_is_refused (mCons (mVar 14) (mCons (mVar 4) (mNil))))))))
theorem zero_bad {ws : Ws} (G : Good ws) : F_is_words [.tuple (ws.map pD ++ [.tuple [.str "z", .int 0]])] = .ok (.d (.bool false)) [] := by
  refine is_words_bad _ (fun d m => ?_) ?_ ?_
  · rcases List.mem_append.mp m with m | m
    · exact (el_ws G d m).ent
    · rw [List.mem_singleton.mp m]
      exact (el_pair "z" (.int 0) (by have := sizeLine_ge; exact Nat.le_trans (by decide : ("z" : Str).length ≤ 9) (by omega)) (nd_int _) rfl).ent
  · have := G.few
    have := sizeLine_ge
    simp only [List.length_append, List.length_map, List.length_cons, List.length_nil]
    omega
  · have e : isEntry (.tuple [.str "z", .int 0]) = false := by
      simp [isEntry, pos]
    rw [List.all_append]
    simp [e]
theorem last_law {ws : Ws} (G : Good ws) (nm : Str) (d : D) (B : Bad d) (s0 s1 s3 s5 s6 s7 s8 s9 s10 s11 s12 s13 : Option SV) :
    retL [s0, s1, some (.d (wsD ws)), s3, some (.d (.str nm)), s5, s6, s7, s8, s9, s10, s11, s12, s13, some (.d d)] = .ok (.rt (.d (.bool true))) [s0, s1, some (.d (wsD ws)), s3, some (.d (.str nm)), s5, s6, s7, s8, s9, s10, s11, s12, s13, some (.d d)] := by
  have a1 := B.no
  have a2 := zero_bad G
  have a3 := refused_ok d B.nd nm B.no B.sh
  have g1 : 1 ≤ sizeLine := by have := ge2; omega
  have g2 := ge2
  have gl : ws.length + 1 ≤ sizeLine := by have := G.few; have := sizeLine_ge; omega
  simp [a1, a2, a3, g1, g2, gl, flat, wsD]
theorem set14 (ns : List Int) {P : List Str} {ws : Ws} (G : Good ws) (hl : ws.length ≤ 5) (dr : List D) (nm : Str) (hn : isName (.str nm) = true) (v : Int) (s6 s7 s8 s9 s10 s11 s12 s13 : Option SV) :
    ∃ d s0 s1 s3 s5 s6' s7' s8' s9' s10' s11' s12' s13', Bad d ∧ mSet 14 (mCall F__law_no_words (mCons (mVar 0) (mCons (mC (.int 6)) (mCons (mVar 2) (mCons (mVar 4) (mNil)))))) (enG ns P ws dr nm v s6 s7 s8 s9 s10 s11 s12 s13) = .ok .nx [s0, s1, some (.d (wsD ws)), s3, some (.d (.str nm)), s5, s6', s7', s8', s9', s10', s11', s12', s13', some (.d d)] := by
  obtain ⟨d, q, B⟩ := no_words_ok ns G hl nm hn
  have ha : (mCons (mVar 0) (mCons (mC (.int 6)) (mCons (mVar 2) (mCons (mVar 4) (mNil))))) (enG ns P ws dr nm v s6 s7 s8 s9 s10 s11 s12 s13) = .ok [.d (scrD ns), .d (.int 6), .d (wsD ws), .d (.str nm)] (enG ns P ws dr nm v s6 s7 s8 s9 s10 s11 s12 s13) := by simp
  have hk : looksA (enG ns P ws dr nm v s6 s7 s8 s9 s10 s11 s12 s13) [.d (scrD ns), .d (.int 6), .d (wsD ws), .d (.str nm)] = some [scrD ns, .int 6, wsD ws, .str nm] := by simp
  cases f : flat d with
  | true =>
    refine ⟨d, some (.d (scrD ns)), some (.own (.lst (P.map .str))), some (.own (.lst dr)), some (.d (.int v)), s6, s7, s8, s9, s10, s11, s12, s13, B, ?_⟩
    rw [s_set, s_call, ha]
    dsimp only
    rw [hk]
    dsimp only
    rw [q]
    dsimp only
    rw [if_pos f]
    rfl
  | false =>
    refine ⟨d, frzSV (some (.d (scrD ns))), frzSV (some (.own (.lst (P.map .str)))), frzSV (some (.own (.lst dr))), frzSV (some (.d (.int v))), frzSV s6, frzSV s7, frzSV s8, frzSV s9, frzSV s10, frzSV s11, frzSV s12, frzSV s13, B, ?_⟩
    rw [s_set, s_call, ha]
    dsimp only
    rw [hk]
    dsimp only
    rw [q]
    dsimp only
    rw [if_neg (by rw [f]; decide)]
    rfl
end
end K03

namespace K03
open PySem PySem.Spec PyProof.Rows L2
section
theorem flats_strs : ∀ P : List Str, flats (P.map .str) = true
  | [] => rfl
  | _ :: r => flats_strs r
theorem flatO_strs (P : List Str) : flatO (.lst (P.map .str)) = true := flats_strs P
noncomputable abbrev ifL : M Ct := mIfS (mOrT (mNotT (mB (mCall (F__law_equal 12) (mCons (mC (.int 1000003)) (mCons (mC (.int 1000003)) (mNil)))))) (mOrT (mB (mOp2 dNis (mCall F_is_words (mCons (mVar 2) (mNil))) (mC (.bool true)))) (mB (mOp2 dNis (mCall F_is_words (mCons (mTup (mNil)) (mNil))) (mC (.bool true)))))) (mRet (mC (.bool false))) (mNx)
theorem law_steps (ns : List Int) : ∃ e, m_law [some (.d (scrD ns)), none, none, none, none, none, none, none, none, none, none, none, none, none, none] = .ok (.rt (.d (.bool true))) e := by
  obtain ⟨L, b, step, hp, S⟩ := pool_ok ns 0 (by omega)
  have pn := pool_names S
  have pd := pool_nd S
  have pl : (poolOf L b step 7).length = 7 := by unfold poolOf; simp
  generalize poolOf L b step 7 = P at *
  obtain ⟨ws, hw, M⟩ := law_words_ok ns 1 (by omega) (P.take 5) (pd.sublist (List.take_sublist _ _)) (fun x m => pn x (List.mem_of_mem_take m)) (by rw [List.length_take]; omega)
  have lt5 : (P.take 5).length = 5 := by rw [List.length_take]; omega
  have G : Good ws := M.good (by omega)
  have wl : ws.length ≤ 5 := by have := M.few; omega
  obtain ⟨ds, hd, hdl, hdb⟩ := draws_ok ns 2 (by omega) [7] (bnds_of (by decide) (by simp))
  match ds, hdl with
  | [a], _ =>
    have ha := hdb 0 a 7 rfl rfl
    obtain ⟨i, hi⟩ : ∃ nm, P[a.toNat]? = some nm := ⟨_, List.getElem?_eq_getElem (by omega)⟩
    obtain ⟨r3, h3, b3⟩ := big_ok ns 3 (by omega)
    obtain ⟨r4, h4, b4⟩ := big_ok ns 4 (by omega)
    obtain ⟨r5, h5, b5⟩ := big_ok ns 5 (by omega)
    have q1 : mSet 1 (mCall F__law_pool (mCons (mVar 0) (mCons (mC (.int 0)) (mCons (mC (.int 7)) (mNil))))) [some (.d (scrD ns)), none, none, none, none, none, none, none, none, none, none, none, none, none, none] = .ok .nx [some (.d (scrD ns)), some (.own (.lst (P.map .str))), none, none, none, none, none, none, none, none, none, none, none, none, none] := by
      simp [hp, flatO_strs]
    have hc : L2.cutD (P.map .str) none (some 5) = (P.take 5).map .str := by
      unfold L2.cutD
      rw [List.length_map, pl, show HT.sIx 7 0 none = 0 from rfl, show HT.sIx 7 7 (some 5) = 5 from rfl, List.drop_zero, List.map_take]
    have qs : mSl2 (mVar 1) none (some (mC (.int 5))) [some (.d (scrD ns)), some (.own (.lst (P.map .str))), none, none, none, none, none, none, none, none, none, none, none, none, none] = .ok (.own (.lst ((P.take 5).map .str))) [some (.d (scrD ns)), some (.own (.lst (P.map .str))), none, none, none, none, none, none, none, none, none, none, none, none, none] := by
      rw [← hc]
      rfl
    have fw := flat_wsD ws
    have q2 : mSet 2 (mCall F__law_words (mCons (mVar 0) (mCons (mC (.int 1)) (mCons (mSl2 (mVar 1) none (some (mC (.int 5)))) (mNil))))) [some (.d (scrD ns)), some (.own (.lst (P.map .str))), none, none, none, none, none, none, none, none, none, none, none, none, none] = .ok .nx [some (.d (scrD ns)), some (.own (.lst (P.map .str))), some (.d (wsD ws)), none, none, none, none, none, none, none, none, none, none, none, none] := by
      rw [List.map_take] at qs hw
      simp [qs, hw, fw]
    have q3 : ifL [some (.d (scrD ns)), some (.own (.lst (P.map .str))), some (.d (wsD ws)), none, none, none, none, none, none, none, none, none, none, none, none] = .ok .nx [some (.d (scrD ns)), some (.own (.lst (P.map .str))), some (.d (wsD ws)), none, none, none, none, none, none, none, none, none, none, none, none] := by
      have e1 := equal_int 1000003
      have e2 := G.is
      have e3 : F_is_words [.tuple []] = .ok (.d (.bool true)) [] := Good.is (ws := []) (good_of List.Pairwise.nil (fun _ m => nomatch m) (by decide))
      simp [e1, e2, e3, flat]
    have q4 : mSet 3 (mCall F__law_draws (mCons (mVar 0) (mCons (mC (.int 2)) (mCons (mLst (mCons (mC (.int 7)) (mNil))) (mNil))))) [some (.d (scrD ns)), some (.own (.lst (P.map .str))), some (.d (wsD ws)), none, none, none, none, none, none, none, none, none, none, none, none] = .ok .nx [some (.d (scrD ns)), some (.own (.lst (P.map .str))), some (.d (wsD ws)), some (.own (.lst [.int a])), none, none, none, none, none, none, none, none, none, none, none] := by
      have hf : flatO (.lst [PyData.int a]) = true := rfl
      simp only [List.map_cons, List.map_nil] at hd
      simp [g1, hd, hf]
    have q5 : mSet 4 (mOp2 dIx (mVar 1) (mOp2 dIx (mVar 3) (mC (.int 0)))) [some (.d (scrD ns)), some (.own (.lst (P.map .str))), some (.d (wsD ws)), some (.own (.lst [.int a])), none, none, none, none, none, none, none, none, none, none, none] = .ok .nx [some (.d (scrD ns)), some (.own (.lst (P.map .str))), some (.d (wsD ws)), some (.own (.lst [.int a])), some (.d (.str i)), none, none, none, none, none, none, none, none, none, none] := by
      have h0 : atI [PyData.int a] 0 = some (.int a) := rfl
      have h1 : atI (P.map PyData.str) a = some (.str i) := atI_at ha.1 (by rw [List.getElem?_map, hi]; rfl)
      simp [h0, h1]
    have q6 : mSet 5 (mCall F__law_big (mCons (mVar 0) (mCons (mC (.int 3)) (mNil)))) [some (.d (scrD ns)), some (.own (.lst (P.map .str))), some (.d (wsD ws)), some (.own (.lst [.int a])), some (.d (.str i)), none, none, none, none, none, none, none, none, none, none] = .ok .nx (enG ns P ws [.int a] i r3 none none none none none none none none) := by
      simp [h3, flat]
    obtain ⟨s6, s7, s8, s9, s10, q7⟩ := others_ok ns P [.int a] i r3 G wl pn b3.1 b3.2
    have q8 : mSet 11 (mCall F__law_big (mCons (mVar 0) (mCons (mC (.int 4)) (mNil)))) (enG ns P ws [.int a] i r3 s6 s7 s8 s9 s10 none none none) = .ok .nx (enG ns P ws [.int a] i r3 s6 s7 s8 s9 s10 (some (.d (.int r4))) none none) := by
      simp [h4, flat]
    have q9 : mSet 12 (mCall F__law_big (mCons (mVar 0) (mCons (mC (.int 5)) (mNil)))) (enG ns P ws [.int a] i r3 s6 s7 s8 s9 s10 (some (.d (.int r4))) none none) = .ok .nx (enG ns P ws [.int a] i r3 s6 s7 s8 s9 s10 (some (.d (.int r4))) (some (.d (.int r5))) none) := by
      simp [h5, flat]
    obtain ⟨s8', s13, q10⟩ := ops_ok ns P [.int a] i r3 ws r4 r5 b4 b5 s6 s7 s8 s9 s10
    obtain ⟨d, t0, t1, t3, t5, t6, t7, t8, t9, t10, t11, t12, t13, B, q11⟩ := set14 ns (P := P) G wl [.int a] i (pn i (List.mem_of_getElem? hi)) r3 s6 s7 s8' s9 s10 (some (.d (.int r4))) (some (.d (.int r5))) s13
    have q12 := last_law G i d B t0 t1 t3 t5 t6 t7 t8 t9 t10 t11 t12 t13
    refine Exists.intro [t0, t1, some (.d (wsD ws)), t3, some (.d (.str i)), t5, t6, t7, t8, t9, t10, t11, t12, t13, some (.d d)] ?_
    have hdef : m_law = mSeq (mSet 1 (mCall F__law_pool (mCons (mVar 0) (mCons (mC (.int 0)) (mCons (mC (.int 7)) (mNil)))))) (mSeq (mSet 2 (mCall F__law_words (mCons (mVar 0) (mCons (mC (.int 1)) (mCons (mSl2 (mVar 1) none (some (mC (.int 5)))) (mNil)))))) (mSeq ifL (mSeq (mSet 3 (mCall F__law_draws (mCons (mVar 0) (mCons (mC (.int 2)) (mCons (mLst (mCons (mC (.int 7)) (mNil))) (mNil)))))) (mSeq (mSet 4 (mOp2 dIx (mVar 1) (mOp2 dIx (mVar 3) (mC (.int 0))))) (mSeq (mSet 5 (mCall F__law_big (mCons (mVar 0) (mCons (mC (.int 3)) (mNil))))) (mSeq (mFor (.nm 6) [7, 8, 9, 10] (mVar 1) otherB) (mSeq (mSet 11 (mCall F__law_big (mCons (mVar 0) (mCons (mC (.int 4)) (mNil))))) (mSeq (mSet 12 (mCall F__law_big (mCons (mVar 0) (mCons (mC (.int 5)) (mNil))))) (mSeq (mFor (.nm 13) [8] (mLst (mCons (mC (.str "+")) (mCons (mC (.str "-")) (mCons (mC (.str "*")) (mCons (mC (.str "max")) (mCons (mC (.str "min")) (mCons (mC (.str "<")) (mCons (mC (.str "=")) (mNil))))))))) opB) (mSeq (mSet 14 (mCall F__law_no_words (mCons (mVar 0) (mCons (mC (.int 6)) (mCons (mVar 2) (mCons (mVar 4) (mNil))))))) retL)))))))))) := rfl
    rw [hdef, s_seq, q1]
    dsimp only
    rw [s_seq, q2]
    dsimp only
    rw [s_seq, q3]
    dsimp only
    rw [s_seq, q4]
    dsimp only
    rw [s_seq, q5]
    dsimp only
    rw [s_seq, q6]
    dsimp only
    rw [s_seq, q7]
    dsimp only
    rw [s_seq, q8]
    dsimp only
    rw [s_seq, q9]
    dsimp only
    rw [s_seq, q10]
    dsimp only
    rw [s_seq, q11]
    exact q12
theorem math : ∀ ns : List Int, ns.length ≤ 63 → ∃ en, F_law [scrD ns] = .ok (.d (.bool true)) en := fun ns _ => by
  obtain ⟨e, h⟩ := law_steps ns
  exact ⟨_, run_ok rfl (e := e) h⟩
end
end K03

open PySem PySem.W PyProof.Rows
set_option maxHeartbeats 0 in
theorem PySem.Challenge.cw_forkspan_k03_words_and_operations_holds : PySem.Challenge.rw_forkspan_k03_words_and_operations.Holds := by
  w_on; o_law; k_head; (case hw => w_witness2)
  k_fill
  refine L2.walk_of (l := PySem.Challenge.rw_forkspan_k03_words_and_operations) (n := 63) (k := 14) (x := "script") (CX := fun w => L2N.CX PySem.Challenge.rw_forkspan_k03_words_and_operations.prog w) (sp := fun w => L2.spLaw _) rfl (by decide) rfl ⟨rfl, by decide, by decide⟩ (fun w h Y => PySem.W.kIn_of Y) ?F (fun _ _ a ns hl _ hS => ⟨a, ns, rfl, hl, hS, fun _ => rfl⟩) (fun _ _ _ _ _ h => L2.cx_no h)
  case F =>
    intro w mg fa h KX G hmg
    refine' K03.all_mk K03.math KX G hmg ?p_is_integer ?l_is_integer ?c_is_integer ?k_is_integer ?p_is_word ?l_is_word ?c_is_word ?k_is_word ?p_is_name ?l_is_name ?c_is_name ?k_is_name ?p_is_value ?l_is_value ?c_is_value ?k_is_value ?p_is_entry ?l_is_entry ?c_is_entry ?k_is_entry ?p_is_words ?l_is_words ?c_is_words ?k_is_words ?p_table_of ?l_table_of ?c_table_of ?k_table_of ?p_words_from ?l_words_from ?c_words_from ?k_words_from ?p_word_in ?l_word_in ?c_word_in ?k_word_in ?p_words_with ?l_words_with ?c_words_with ?k_words_with ?p_operated ?l_operated ?c_operated ?k_operated ?p__law_draws ?l__law_draws ?c__law_draws ?k__law_draws ?p__law_equal ?l__law_equal ?c__law_equal ?k__law_equal ?p__law_pool ?l__law_pool ?c__law_pool ?k__law_pool ?p__law_words ?l__law_words ?c__law_words ?k__law_words ?p__law_operated ?l__law_operated ?c__law_operated ?k__law_operated ?p__law_big ?l__law_big ?c__law_big ?k__law_big ?p__law_with ?l__law_with ?c__law_with ?k__law_with ?p__law_no_words ?l__law_no_words ?c__law_no_words ?k__law_no_words ?p__law_is_refused ?l__law_is_refused ?c__law_is_refused ?k__law_is_refused ?p_law ?l_law ?c_law ?k_law ?z_all ?z_bool ?z_int ?z_isinstance ?z_len ?z_list ?z_max ?z_min ?z_range ?z_set ?z_sorted ?z_str ?z_tuple ?q_LONGEST_WORD ?q_NO_NAMES ?r_NO_NAMES ?q_PRIME ?pC_InvalidWords ?xC_InvalidWords ?vC_InvalidWords ?sa_InvalidWords ?ga_InvalidWords ?gg_InvalidWords ?nf_InvalidWords_value ?iC_InvalidWords ?tI_InvalidWords ?lI_InvalidWords ?cI_InvalidWords ?kI_InvalidWords ?kC_InvalidWords ?eC_InvalidWords ?tC_InvalidWords ?hC_InvalidWords ?jC_InvalidWords ?sC_InvalidWords
    (case p_is_integer => k_is)
    (case l_is_integer => k_is)
    (case c_is_integer => k_is)
    (case k_is_integer => k_is)
    (case p_is_word => k_is)
    (case l_is_word => k_is)
    (case c_is_word => k_is)
    (case k_is_word => k_is)
    (case p_is_name => k_is)
    (case l_is_name => k_is)
    (case c_is_name => k_is)
    (case k_is_name => k_is)
    (case p_is_value => k_is)
    (case l_is_value => k_is)
    (case c_is_value => k_is)
    (case k_is_value => k_is)
    (case p_is_entry => k_is)
    (case l_is_entry => k_is)
    (case c_is_entry => k_is)
    (case k_is_entry => k_is)
    (case p_is_words => k_is)
    (case l_is_words => k_is)
    (case c_is_words => k_is)
    (case k_is_words => k_is)
    (case p_table_of => k_is)
    (case l_table_of => k_is)
    (case c_table_of => k_is)
    (case k_table_of => k_is)
    (case p_words_from => k_is)
    (case l_words_from => k_is)
    (case c_words_from => k_is)
    (case k_words_from => k_is)
    (case p_word_in => k_is)
    (case l_word_in => k_is)
    (case c_word_in => k_is)
    (case k_word_in => k_is)
    (case p_words_with => k_is)
    (case l_words_with => k_is)
    (case c_words_with => k_is)
    (case k_words_with => k_is)
    (case p_operated => k_is)
    (case l_operated => k_is)
    (case c_operated => k_is)
    (case k_operated => k_is)
    (case p__law_draws => k_is)
    (case l__law_draws => k_is)
    (case c__law_draws => k_is)
    (case k__law_draws => k_is)
    (case p__law_equal => k_is)
    (case l__law_equal => k_is)
    (case c__law_equal => k_is)
    (case k__law_equal => k_is)
    (case p__law_pool => k_is)
    (case l__law_pool => k_is)
    (case c__law_pool => k_is)
    (case k__law_pool => k_is)
    (case p__law_words => k_is)
    (case l__law_words => k_is)
    (case c__law_words => k_is)
    (case k__law_words => k_is)
    (case p__law_operated => k_is)
    (case l__law_operated => k_is)
    (case c__law_operated => k_is)
    (case k__law_operated => k_is)
    (case p__law_big => k_is)
    (case l__law_big => k_is)
    (case c__law_big => k_is)
    (case k__law_big => k_is)
    (case p__law_with => k_is)
    (case l__law_with => k_is)
    (case c__law_with => k_is)
    (case k__law_with => k_is)
    (case p__law_no_words => k_is)
    (case l__law_no_words => k_is)
    (case c__law_no_words => k_is)
    (case k__law_no_words => k_is)
    (case p__law_is_refused => k_is)
    (case l__law_is_refused => k_is)
    (case c__law_is_refused => k_is)
    (case k__law_is_refused => k_is)
    (case p_law => k_is)
    (case l_law => k_is)
    (case c_law => k_is)
    (case k_law => k_is)
    (case z_all => k_is)
    (case z_bool => k_is)
    (case z_int => k_is)
    (case z_isinstance => k_is)
    (case z_len => k_is)
    (case z_list => k_is)
    (case z_max => k_is)
    (case z_min => k_is)
    (case z_range => k_is)
    (case z_set => k_is)
    (case z_sorted => k_is)
    (case z_str => k_is)
    (case z_tuple => k_is)
    (case q_LONGEST_WORD => k_is)
    (case q_NO_NAMES => k_is)
    (case r_NO_NAMES => k_is)
    (case q_PRIME => k_is)
    (case pC_InvalidWords => k_is)
    (case xC_InvalidWords => k_is)
    (case vC_InvalidWords => first | rfl | k_is)
    (case sa_InvalidWords => k_is)
    (case ga_InvalidWords => k_is)
    (case gg_InvalidWords => k_is)
    (case nf_InvalidWords_value => k_is)
    (case iC_InvalidWords => k_is)
    (case tI_InvalidWords => k_is)
    (case lI_InvalidWords => k_is)
    (case cI_InvalidWords => k_is)
    (case kI_InvalidWords => k_is)
    (case kC_InvalidWords => k_is)
    (case eC_InvalidWords => k_is)
    (case tC_InvalidWords => k_is)
    (case hC_InvalidWords => k_is)
    (case jC_InvalidWords => k_is)
    (case sC_InvalidWords => first | rfl | k_is)

