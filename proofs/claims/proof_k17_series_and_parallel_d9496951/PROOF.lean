import PyProof.Rows.All
import Wide.All
import OpenK.AllK
import Wide.FinOn
import PySem.Challenge.RW_forkspan_k17_series_and_parallel
import HandS.ForMost
import HandS.ForExc
import HandS.Flow
import HandS.IsInst
import HandS.ExcInit
import HandS.ExcField
import HandS.ExcCtx
import HandS.HotCalls
import HandS.ExcInitHot
import HandS.Style
import HandS.TupAny
import HandS.Wide
import HandS.Steps
import HandS.Deep
import HandS.Conv
import HandS.Iter
import HandS.DictComp
import HandS.More
import HandS.MakeKwOnly
import HandS.List
import HandS.SortInts
import HandS.Dict
import HandS.Set
import HandS.Strs
import PyProof.Rows.SetFrom
import PyProof.Rows.SortShellAny
import KE.GoesEnum
import HandS.SetFor
import PyProof.ListRange
import HandS.Sort
import KE.DataMinMax
import HandS.SortKw
import HandS.RevRange
set_option Elab.async false
set_option linter.all false
set_option maxRecDepth 100000
set_option maxHeartbeats 8000000
namespace L2
open PySem PySem.Spec PyProof.Rows

abbrev D := PyData
abbrev Kf := PySem.W.Frag
/-! ### the heap without what is owned -/
def hid (H : Hp) (L : List Addr) : Hp := fun a => if a ∈ L then none else H a
theorem hid_in {H : Hp} {L : List Addr} {a : Addr} (h : a ∈ L) : hid H L a = none := if_pos h
theorem hid_out {H : Hp} {L : List Addr} {a : Addr} (h : a ∉ L) : hid H L a = H a := if_neg h
theorem hid_nil {H : Hp} : hid H [] = H := by
  funext a
  exact hid_out (by simp)
theorem hid_some {H : Hp} {L : List Addr} {a : Addr} {o : HO} (h : hid H L a = some o) : a ∉ L ∧ H a = some o := by
  by_cases e : a ∈ L
  · rw [hid_in e] at h; cases h
  · rw [hid_out e] at h; exact ⟨e, h⟩
theorem hid_same {H : Hp} {L : List Addr} : Same (hid H L) H := fun _ _ h => (hid_some h).2
theorem hid_less {H : Hp} {L L' : List Addr} (h : ∀ a ∈ L', a ∈ L) : Same (hid H L) (hid H L') := fun a o e => by
  obtain ⟨n, e⟩ := hid_some e
  rw [hid_out fun z => n (h a z)]
  exact e
theorem hid_mono {H H' : Hp} {L : List Addr} (s : Same H H') : Same (hid H L) (hid H' L) := fun a o e => by
  obtain ⟨n, e⟩ := hid_some e
  rw [hid_out n]
  exact s a o e
/-- what is owned may change -/
theorem hid_upd {H : Hp} {L : List Addr} {a : Addr} {o : HO} (h : a ∈ L) : hid (upd H a o) L = hid H L := by
  funext b
  by_cases e : b ∈ L
  · rw [hid_in e, hid_in e]
  · rw [hid_out e, hid_out e, upd_ne (fun z => e (by rw [z]; exact h))]
/-- a new object is laid -/
theorem hid_new {H : Hp} {L : List Addr} {a : Addr} {o : HO} (n : H a = none) : Same (hid H L) (hid (upd H a o) (a :: L)) := fun b u e => by
  obtain ⟨m, e⟩ := hid_some e
  have hb : b ≠ a := ne_of_none e n
  rw [hid_out (by simp [hb, m]), upd_ne hb]
  exact e
theorem same_new {H : Hp} {a : Addr} {o : HO} (n : H a = none) : Same H (upd H a o) := fun b u e => by
  rw [upd_ne (ne_of_none e n)]
  exact e

/-! ### data -/
/- as Dp, every list tracked; the script -/
def scrD (ns : List Int) : D := .dict [(.none, .list (ns.map .int))]
/-- the key as data -/
def kD : Key → D
  | .inl i => .int i
  | .inr s => .str s
/-- what hangs on no heap -/
inductive AtV : V → D → Prop
  | non : AtV .non .none
  | bl (b : Bool) : AtV (.bl b) (.bool b)
  | int (i : Int) : AtV (.int i) (.int i)
  | str (x : Str) : AtV (.str x) (.str x)
/-- a dict whose values hang on no heap -/
abbrev KA : List (Key × V) → List (Key × D) → Prop := Paired fun p q => p.1 = q.1 ∧ AtV p.2 q.2
mutual
inductive Dq (K : Kf) (H : Hp) : V → D → Prop
  | non : Dq K H .non .none
  | bl (b : Bool) : Dq K H (.bl b) (.bool b)
  | int (i : Int) : Dq K H (.int i) (.int i)
  | str (x : Str) : Dq K H (.str x) (.str x)
  | lst {a : Addr} {xs : List V} {ds : List D} : H a = some (.lst xs) → DqAll K H xs ds → Dq K H (.ref a) (.list ds)
  | tup {a : Addr} {xs : List V} {ds : List D} : SqT K H a xs → DqAll K H xs ds → Dq K H (.ref a) (.tuple ds)
  | scr {a : Addr} {ns : List Int} : SqL K H a (ns.map V.int) → Dq K H (.ref a) (.dict [(.none, .list (ns.map .int))])
  | dct {a : Addr} {kvs : List (Key × V)} {kds : List (Key × D)} : H a = some (.dK kvs) → KA kvs kds → Dq K H (.ref a) (.dict (kds.map fun p => (kD p.1, p.2)))
inductive DqAll (K : Kf) (H : Hp) : List V → List D → Prop
  | nil : DqAll K H [] []
  | cons {v : V} {vs : List V} {d : D} {ds : List D} : Dq K H v d → DqAll K H vs ds → DqAll K H (v :: vs) (d :: ds)
end
/- data without the script -/
mutual
def plain : D → Bool
  | .none => true
  | .bool _ => true
  | .int _ => true
  | .str _ => true
  | .list ds => plains ds
  | .tuple ds => plains ds
  | .dict _ => false
def plains : List D → Bool
  | [] => true
  | d :: ds => plain d && plains ds
end
mutual
theorem Dq.dp {K : Kf} {H : Hp} : ∀ (d : D) {v : V}, plain d = true → Dq K H v d → Dp K H v d
  | .none, _, _, h => by cases h; exact .non
  | .bool b, _, _, h => by cases h; exact .bl b
  | .int i, _, _, h => by cases h; exact .int i
  | .str x, _, _, h => by cases h; exact .str x
  | .list ds, _, p, h => by
    cases h with
    | lst hs ha => exact .lst (.of hs) (DqAll.dp ds (by simpa [plain] using p) ha)
  | .tuple ds, _, p, h => by
    cases h with
    | tup hs ha => exact .tup hs (DqAll.dp ds (by simpa [plain] using p) ha)
  | .dict _, _, p, _ => by simp [plain] at p
theorem DqAll.dp {K : Kf} {H : Hp} : ∀ (ds : List D) {vs : List V}, plains ds = true → DqAll K H vs ds → DpAll K H vs ds
  | [], _, _, h => by cases h; exact .nil
  | d :: ds, _, p, h => by
    simp only [plains, Bool.and_eq_true] at p
    cases h with
    | cons h1 h2 => exact .cons (Dq.dp d p.1 h1) (DqAll.dp ds p.2 h2)
end
theorem rd_mono {H H' : Hp} {a : Addr} {u : HO} (s : Same H H') (h : Rd H a u) : Rd H' a u := by
  rcases h with h | ⟨o, h⟩
  · exact .inl (s _ _ h)
  · exact .inr ⟨o, s _ _ h⟩
mutual
theorem Dq.mono {K : Kf} {H H' : Hp} (s : Same H H') : ∀ (d : D) {v : V}, Dq K H v d → Dq K H' v d
  | .none, _, h => by cases h; exact .non
  | .bool b, _, h => by cases h; exact .bl b
  | .int i, _, h => by cases h; exact .int i
  | .str x, _, h => by cases h; exact .str x
  | .list ds, _, h => by
    cases h with
    | lst hs ha => exact .lst (s _ _ hs) (DqAll.mono s ds ha)
  | .tuple ds, _, h => by
    cases h with
    | tup hs ha =>
      refine .tup ?_ (DqAll.mono s ds ha)
      rcases hs with (h | ⟨o, h⟩) | h
      · exact .inl (.inl (s _ _ h))
      · exact .inl (.inr ⟨o, s _ _ h⟩)
      · exact .inr h
  | .dict _, _, h => by
    cases h with
    | scr hs => exact .scr (s.seq hs)
    | dct ho hk => exact .dct (s _ _ ho) hk
theorem DqAll.mono {K : Kf} {H H' : Hp} (s : Same H H') : ∀ (ds : List D) {vs : List V}, DqAll K H vs ds → DqAll K H' vs ds
  | [], _, h => by cases h; exact .nil
  | d :: ds, _, h => by
    cases h with
    | cons h1 h2 => exact .cons (Dq.mono s d h1) (DqAll.mono s ds h2)
end
theorem sqT_mono {K : Kf} {H H' : Hp} {a : Addr} {xs : List V} (s : Same H H') (hs : SqT K H a xs) : SqT K H' a xs := by
  rcases hs with (h | ⟨o, h⟩) | h
  · exact .inl (.inl (s _ _ h))
  · exact .inl (.inr ⟨o, s _ _ h⟩)
  · exact .inr h
/- no list within -/
mutual
def flat : D → Bool
  | .none => true
  | .bool _ => true
  | .int _ => true
  | .str _ => true
  | .list _ => false
  | .tuple ds => flats ds
  | .dict _ => false
def flats : List D → Bool
  | [] => true
  | d :: ds => flat d && flats ds
end
/-- lists (dicts) stand at the owned places -/
def Owns (H : Hp) (L : List Addr) : Prop := ∀ a ∈ L, (∃ xs, H a = some (.lst xs)) ∨ ∃ kvs, H a = some (.dK kvs)
mutual
theorem Dq.flat_hid {K : Kf} {H : Hp} {L : List Addr} (w : Owns H L) : ∀ (d : D) {v : V}, flat d = true → Dq K H v d → Dq K (hid H L) v d
  | .none, _, _, h => by cases h; exact .non
  | .bool b, _, _, h => by cases h; exact .bl b
  | .int i, _, _, h => by cases h; exact .int i
  | .str x, _, _, h => by cases h; exact .str x
  | .list ds, _, f, h => by simp [flat] at f
  | .tuple ds, _, f, h => by
    cases h with
    | @tup a xs _ hs ha =>
      refine .tup ?_ (DqAll.flat_hid w ds (by simpa [flat] using f) ha)
      have key : ∀ o, H a = some o → (∀ xs, o ≠ .lst xs) → (∀ kvs, o ≠ .dK kvs) → hid H L a = some o := fun o e n1 n2 => by
        rw [hid_out fun z => ?_]
        · exact e
        · rcases w a z with ⟨xs, q⟩ | ⟨kvs, q⟩
          · rw [e] at q; exact n1 _ (Option.some.inj q)
          · rw [e] at q; exact n2 _ (Option.some.inj q)
      rcases hs with (h | ⟨o, h⟩) | h
      · exact .inl (.inl (key _ h (fun _ z => by cases z) fun _ z => by cases z))
      · exact .inl (.inr ⟨o, key _ h (fun _ z => by cases z) fun _ z => by cases z⟩)
      · exact .inr h
  | .dict _, _, f, _ => by simp [flat] at f
theorem DqAll.flat_hid {K : Kf} {H : Hp} {L : List Addr} (w : Owns H L) : ∀ (ds : List D) {vs : List V}, flats ds = true → DqAll K H vs ds → DqAll K (hid H L) vs ds
  | [], _, _, h => by cases h; exact .nil
  | d :: ds, _, f, h => by
    simp only [flats, Bool.and_eq_true] at f
    cases h with
    | cons h1 h2 => exact .cons (Dq.flat_hid w d f.1 h1) (DqAll.flat_hid w ds f.2 h2)
end
theorem DqAll.length {K : Kf} {H : Hp} : ∀ {vs : List V} {ds : List D}, DqAll K H vs ds → vs.length = ds.length
  | _, _, .nil => rfl
  | _, _, .cons _ h => congrArg (· + 1) h.length
theorem DqAll.get {K : Kf} {H : Hp} : ∀ {vs : List V} {ds : List D} {i : Nat} {d : D}, DqAll K H vs ds → ds[i]? = some d → ∃ v, vs[i]? = some v ∧ Dq K H v d
  | _, _, _, _, .nil, e => by simp at e
  | _, _, 0, _, .cons h _, e => by simp at e; subst e; exact ⟨_, rfl, h⟩
  | _, _, i + 1, _, .cons _ t, e => by
    obtain ⟨v, h1, h2⟩ := DqAll.get (i := i) t (by simpa using e)
    exact ⟨v, by simpa using h1, h2⟩
theorem DqAll.getv {K : Kf} {H : Hp} : ∀ {vs : List V} {ds : List D} {i : Nat} {v : V}, DqAll K H vs ds → vs[i]? = some v → ∃ d, ds[i]? = some d ∧ Dq K H v d
  | _, _, _, _, .nil, e => by simp at e
  | _, _, 0, _, .cons h _, e => by simp at e; subst e; exact ⟨_, rfl, h⟩
  | _, _, i + 1, _, .cons _ t, e => by
    obtain ⟨v, h1, h2⟩ := DqAll.getv (i := i) t (by simpa using e)
    exact ⟨v, by simpa using h1, h2⟩
theorem DqAll.append {K : Kf} {H : Hp} : ∀ {vs ws : List V} {ds es : List D}, DqAll K H vs ds → DqAll K H ws es → DqAll K H (vs ++ ws) (ds ++ es)
  | _, _, _, _, .nil, h => h
  | _, _, _, _, .cons h t, h2 => .cons h (DqAll.append t h2)
theorem DqAll.take {K : Kf} {H : Hp} : ∀ {vs : List V} {ds : List D} (n : Nat), DqAll K H vs ds → DqAll K H (vs.take n) (ds.take n)
  | _, _, 0, _ => .nil
  | _, _, _ + 1, .nil => .nil
  | _, _, n + 1, .cons h t => .cons h (DqAll.take n t)
theorem DqAll.drop {K : Kf} {H : Hp} : ∀ {vs : List V} {ds : List D} (n : Nat), DqAll K H vs ds → DqAll K H (vs.drop n) (ds.drop n)
  | _, _, 0, h => h
  | _, _, _ + 1, .nil => .nil
  | _, _, n + 1, .cons _ t => DqAll.drop n t
theorem DqAll.dropLast {K : Kf} {H : Hp} : ∀ {vs : List V} {ds : List D}, DqAll K H vs ds → DqAll K H vs.dropLast ds.dropLast
  | _, _, .nil => .nil
  | _, _, .cons _ .nil => .nil
  | _, _, .cons h (.cons h2 t) => .cons h (DqAll.dropLast (.cons h2 t))
theorem DqAll.reverse {K : Kf} {H : Hp} : ∀ {vs : List V} {ds : List D}, DqAll K H vs ds → DqAll K H vs.reverse ds.reverse
  | _, _, .nil => .nil
  | _, _, .cons h t => by
    rw [List.reverse_cons, List.reverse_cons]
    exact (DqAll.reverse t).append (.cons h .nil)
theorem DqAll.set {K : Kf} {H : Hp} {v : V} {d : D} (h : Dq K H v d) : ∀ {vs : List V} {ds : List D} (i : Nat), DqAll K H vs ds → DqAll K H (vs.set i v) (ds.set i d)
  | _, _, _, .nil => .nil
  | _, _, 0, .cons _ t => .cons h t
  | _, _, i + 1, .cons q t => .cons q (DqAll.set h i t)

/-! ### what stands in a slot, what an expression gives -/
/-- an owned object -/
inductive OB where
  | lst (ds : List D)
  | dct (kvs : List (Key × D))
inductive SV where
  /-- data, seen by all -/
  | d (d : D)
  /-- an object that nobody else sees -/
  | own (o : OB)
  /-- the owned object of slot i -/
  | bor (i : Nat)
abbrev En := List (Option SV)
def KD (K : Kf) (H : Hp) : List (Key × V) → List (Key × D) → Prop := Paired fun p q => p.1 = q.1 ∧ Dq K H p.2 q.2
theorem AtV.dq {K : Kf} {H : Hp} {v : V} {d : D} (h : AtV v d) : Dq K H v d := by
  cases h <;> constructor
theorem KA.kd {K : Kf} {H : Hp} : ∀ {kvs : List (Key × V)} {kds : List (Key × D)}, KA kvs kds → KD K H kvs kds
  | _, _, .nil => .nil
  | _, _, .cons h t => .cons ⟨h.1, h.2.dq⟩ (KA.kd t)
def isAt : D → Bool
  | .none => true
  | .bool _ => true
  | .int _ => true
  | .str _ => true
  | _ => false
theorem Dq.atv {K : Kf} {H : Hp} {v : V} {d : D} (h : Dq K H v d) (f : isAt d = true) : AtV v d := by
  cases h <;> first | (cases f; done) | constructor
theorem KD.ka {K : Kf} {H : Hp} : ∀ {kvs : List (Key × V)} {kds : List (Key × D)}, KD K H kvs kds → (kds.all fun p => isAt p.2) = true → KA kvs kds
  | _, _, .nil, _ => .nil
  | _, _, .cons h t, f => by
    simp only [List.all_cons, Bool.and_eq_true] at f
    exact .cons ⟨h.1, h.2.atv f.1⟩ (KD.ka t f.2)
def ObR (K : Kf) (H : Hp) : HO → OB → Prop
  | .lst xs, .lst ds => DqAll K H xs ds
  | .dK kvs, .dct kds => KD K H kvs kds
  | _, _ => False
theorem KD.mono {K : Kf} {H H' : Hp} (s : Same H H') {a : List (Key × V)} {b : List (Key × D)} (h : KD K H a b) : KD K H' a b :=
  Paired.mapP h fun _ _ ⟨e, q⟩ => ⟨e, Dq.mono s _ q⟩
theorem ObR.mono {K : Kf} {H H' : Hp} (s : Same H H') {o : HO} {b : OB} (h : ObR K H o b) : ObR K H' o b := by
  cases o with
  | lst xs => cases b with
    | lst ds => exact DqAll.mono s _ h
    | dct _ => exact h.elim
  | dK kvs => cases b with
    | lst ds => exact h.elim
    | dct _ => exact KD.mono s h
  | _ => exact h.elim
theorem ObR.owns {K : Kf} {H : Hp} {o : HO} {b : OB} (h : ObR K H o b) : (∃ xs, o = .lst xs) ∨ ∃ kvs, o = .dK kvs := by
  cases o with
  | lst xs => exact .inl ⟨xs, rfl⟩
  | dK kvs => exact .inr ⟨kvs, rfl⟩
  | _ => exact h.elim
def SlotR (P : Option Addr) (K : Kf) (H : Hp) (L : List Addr) (so : Option (Option V)) : SV → Prop
  | .d d => ∃ v, so = some (some v) ∧ Dq K (hid H L) v d
  | .own b => ∃ a o, so = some (some (.ref a)) ∧ a ∈ L ∧ H a = some o ∧ ObR K (hid H L) o b
  | .bor _ => ∃ a, P = some a ∧ so = some (some (.ref a))
/-- an exception: the name of its class, its fields in the order in which they were put, last first -/
structure Xc where
  cls : Str
  fs : List (Str × D)
/-- what is fixed through a body: B, what callers hide, as HB has it -/
structure Gs where
  K : Kf
  mg : Str → Option Value
  H0 : Hp
  W : WX
  B : List Addr
  HB : Hp
  /-- the exception that a suite holds -/
  px : Option Addr
structure RelS (G : Gs) (L : List Addr) (σ : St) (H : Hp) (en : En) : Prop where
  own : Owns H L
  same : Same G.H0 (hid H L)
  len : σ.length = en.length
  slot : ∀ (i : Nat) (sv : SV), en[i]? = some (some sv) → SlotR G.px G.K H L σ[i]? sv
  apart : ∀ (i j : Nat) (b c : OB) (a : Addr), i ≠ j → en[i]? = some (some (SV.own b)) → en[j]? = some (some (SV.own c)) → σ[i]? = some (some (V.ref a)) → σ[j]? = some (some (V.ref a)) → False
  base : ∀ a ∈ G.B, a ∈ L ∧ H a = G.HB a ∧ ∀ (i : Nat) (c : OB), en[i]? = some (some (SV.own c)) → σ[i]? ≠ some (some (V.ref a))
/-- what an expression's value is -/
def RV (G : Gs) (L : List Addr) (σ : St) (H : Hp) (en : En) (v : V) : SV → Prop
  | .d d => Dq G.K (hid H L) v d
  | .own b => ∃ a o, v = .ref a ∧ a ∈ L ∧ a ∉ G.B ∧ H a = some o ∧ ObR G.K (hid H L) o b ∧ ∀ (i : Nat) (c : OB), en[i]? = some (some (SV.own c)) → σ[i]? ≠ some (some (V.ref a))
  | .bor i => σ[i]? = some (some v) ∧ ∃ b : OB, en[i]? = some (some (SV.own b))
def XR (K : Kf) (mg : Str → Option Value) (x : Xc) (cls : Value) (d : Option Addr) (H : Hp) : Prop :=
  ∃ (C dd : Addr) (fv : List (Str × V)), mg x.cls = some (.ref C) ∧ cls = .ref C ∧ d = some dd ∧ H dd = some (.xd fv) ∧ Paired (fun p q => p.1 = q.1 ∧ Dq K H p.2 q.2) fv x.fs
inductive Rs (α : Type) where
  | ok (a : α) (e : En)
  | exc (x : Xc) (e : En)
  | stuck
abbrev M (α : Type) := En → Rs α
def PostX (G : Gs) (σ0 : St → Prop) (H : Hp) (L : List Addr) (x : Xc) (en' : En) : Prop :=
  ∀ cls d σ H' L', σ0 σ → RelS G L' σ H' en' → Same (hid H L) (hid H' L') → XR G.K G.mg x cls d (hid H' L') → G.W cls d σ H'
def PostE (G : Gs) (σ : St) (H : Hp) (L : List Addr) (r : Rs SV) (Q : VK) : Prop :=
  match r with
  | .ok sv en' => ∀ v H' L', RelS G L' σ H' en' → Same (hid H L) (hid H' L') → RV G L' σ H' en' v sv → Q v H'
  | .exc x en' => PostX G (· = σ) H L x en'
  | .stuck => False
def tE (G : Gs) (m : M SV) : TE := fun σ H Q => ∃ en L, RelS G L σ H en ∧ PostE G σ H L (m en) Q
def PostT (G : Gs) (σ : St) (H : Hp) (L : List Addr) (r : Rs Bool) (Q : Bool → Hp → Prop) : Prop :=
  match r with
  | .ok b en' => ∀ H' L', RelS G L' σ H' en' → Same (hid H L) (hid H' L') → Q b H'
  | .exc x en' => PostX G (· = σ) H L x en'
  | .stuck => False
def tT (G : Gs) (m : M Bool) : TT := fun σ H Q => ∃ en L, RelS G L σ H en ∧ PostT G σ H L (m en) Q
/-- values of arguments: none of them owned -/
def RVs (G : Gs) (L : List Addr) (σ : St) (H : Hp) (en : En) : List V → List SV → Prop := Paired fun v sv => RV G L σ H en v sv ∧ ∀ b, sv ≠ .own b
def PostA (G : Gs) (σ : St) (H : Hp) (L : List Addr) (r : Rs (List SV)) (Q : List V → Hp → Prop) : Prop :=
  match r with
  | .ok svs en' => ∀ vs H' L', RelS G L' σ H' en' → Same (hid H L) (hid H' L') → RVs G L' σ H' en' vs svs → Q vs H'
  | .exc x en' => PostX G (· = σ) H L x en'
  | .stuck => False
def tA (G : Gs) (m : M (List SV)) : TA := fun σ H Q => ∃ en L, RelS G L σ H en ∧ PostA G σ H L (m en) Q
inductive Ct where
  | nx
  | rt (sv : SV)
  | bk
  | ct
/-- slots that are not written stay -/
def Keeps (wr : List Nat) (σ σ' : St) : Prop := ∀ j, j ∉ wr → σ'[j]? = σ[j]?
theorem Keeps.refl {wr : List Nat} {σ : St} : Keeps wr σ σ := fun _ _ => rfl
theorem Keeps.trans {w1 w2 : List Nat} {σ σ1 σ2 : St} (a : Keeps w1 σ σ1) (b : Keeps w2 σ1 σ2) : Keeps (w1 ++ w2) σ σ2 := fun j h =>
  (b j fun z => h (List.mem_append_right _ z)).trans (a j fun z => h (List.mem_append_left _ z))
theorem Keeps.mono {w1 w2 : List Nat} {σ σ1 : St} (a : Keeps w1 σ σ1) (h : ∀ j ∈ w1, j ∈ w2) : Keeps w2 σ σ1 := fun j n => a j fun z => n (h j z)
theorem Keeps.set {i : Nat} {v : Option V} {σ : St} : Keeps [i] σ (σ.set i v) := fun j h => List.getElem?_set_ne (fun z => h (by rw [z]; exact List.mem_singleton.mpr rfl))
def PostS (G : Gs) (wr : List Nat) (σ : St) (H : Hp) (L : List Addr) (r : Rs Ct) (E : Ends) : Prop :=
  match r with
  | .ok .nx en' => ∀ σ' H' L', RelS G L' σ' H' en' → Same (hid H L) (hid H' L') → Keeps wr σ σ' → E.nx σ' H'
  | .ok .bk en' => ∀ σ' H' L', RelS G L' σ' H' en' → Same (hid H L) (hid H' L') → Keeps wr σ σ' → E.bk σ' H'
  | .ok .ct en' => ∀ σ' H' L', RelS G L' σ' H' en' → Same (hid H L) (hid H' L') → Keeps wr σ σ' → E.ct σ' H'
  | .ok (.rt sv) en' => ∀ v σ' H' L', RelS G L' σ' H' en' → Same (hid H L) (hid H' L') → RV G L' σ' H' en' v sv → E.rt v H'
  | .exc x en' => PostX G (Keeps wr σ) H L x en'
  | .stuck => False
def tS (G : Gs) (wr : List Nat) (m : M Ct) : TS := fun E σ H => ∃ en L, RelS G L σ H en ∧ PostS G wr σ H L (m en) E

/-! ### weakening a reading -/
theorem PE.imp {X : Cx} {e : Expr} {t u : TE} (h : PE X e t) (k : ∀ σ H Q, u σ H Q → t σ H Q) : PE X e u := ⟨fun pins s σ H Q I q => h.run pins s σ H Q I (k _ _ _ q)⟩
theorem PT.imp {X : Cx} {e : Expr} {t u : TT} (h : PT X e t) (k : ∀ σ H Q, u σ H Q → t σ H Q) : PT X e u := ⟨fun pins s σ H Q I q => h.run pins s σ H Q I (k _ _ _ q)⟩
theorem PW.imp {X : Cx} {e : Expr} {t u : TT} (h : PW X e t) (k : ∀ σ H Q, u σ H Q → t σ H Q) : PW X e u := ⟨fun w pins s σ H Q I q => h.run w pins s σ H Q I (k _ _ _ q)⟩
theorem PA.imp {X : Cx} {e : List Expr} {t u : TA} (h : PA X e t) (k : ∀ σ H Q, u σ H Q → t σ H Q) : PA X e u := ⟨fun p pins s σ H Q I q => h.run p pins s σ H Q I (k _ _ _ q)⟩
theorem PS.imp {X : Cx} {e : Stmt} {t u : TS} (h : PS X e t) (k : ∀ E σ H, u E σ H → t E σ H) : PS X e u := ⟨fun pins s σ H E I q => h.run pins s σ H E I (k _ _ _ q)⟩
theorem PSs.imp {X : Cx} {e : List Stmt} {t u : TS} (h : PSs X e t) (k : ∀ E σ H, u E σ H → t E σ H) : PSs X e u := ⟨fun pins s σ H E I q => h.run pins s σ H E I (k _ _ _ q)⟩

/-! ### the state's relation -/
section
variable {G : Gs} {H H' : Hp} {L L' : List Addr} {σ : St} {en : En} {v : V} {sv : SV} {d : D}
theorem RelS.free (R : RelS G L σ H en) {a : Addr} (h : a ∈ L) : G.H0 a = none := R.same.free (hid_in h)
theorem RelS.fresh_out (R : RelS G L σ H en) {a : Addr} (h : H a = none) : a ∉ L := fun z => by
  rcases R.own a z with ⟨xs, q⟩ | ⟨kvs, q⟩ <;> (rw [h] at q; cases q)
theorem RelS.there (R : RelS G L σ H en) {a : Addr} (h : a ∈ L) : ∃ o, H a = some o := by
  rcases R.own a h with ⟨xs, q⟩ | ⟨kvs, q⟩
  · exact ⟨_, q⟩
  · exact ⟨_, q⟩
theorem RelS.fresh_base (R : RelS G L σ H en) {a : Addr} (h : H a = none) : a ∉ G.B := fun z => R.fresh_out h (R.base a z).1
/-- the heap grows -/
theorem RelS.grow (R : RelS G L σ H en) (s : Same H H') : RelS G L σ H' en where
  own := fun a h => by
    rcases R.own a h with ⟨xs, q⟩ | ⟨kvs, q⟩
    · exact .inl ⟨xs, s _ _ q⟩
    · exact .inr ⟨kvs, s _ _ q⟩
  same := R.same.trans (hid_mono s)
  len := R.len
  slot := fun i sv e => by
    have q := R.slot i sv e
    cases sv with
    | d dd => obtain ⟨v, e1, h⟩ := q; exact ⟨v, e1, Dq.mono (hid_mono s) _ h⟩
    | own b => obtain ⟨a, o, e1, m, ho, h⟩ := q; exact ⟨a, o, e1, m, s _ _ ho, h.mono (hid_mono s)⟩
    | bor _ => exact q
  apart := R.apart
  base := fun a m => by
    obtain ⟨h1, h2, h3⟩ := R.base a m
    obtain ⟨o, ho⟩ := R.there h1
    exact ⟨h1, (s _ _ ho).trans (ho.symm.trans h2), h3⟩
/-- more is hidden: a new object -/
theorem RelS.hide (R : RelS G L σ H en) {a : Addr} {o : HO} (n : H a = none) (w : (∃ xs, o = .lst xs) ∨ ∃ kvs, o = .dK kvs) : RelS G (a :: L) σ (upd H a o) en where
  own := fun b h => by
    rcases List.mem_cons.mp h with rfl | h
    · rcases w with ⟨xs, rfl⟩ | ⟨kvs, rfl⟩
      · exact .inl ⟨xs, upd_same⟩
      · exact .inr ⟨kvs, upd_same⟩
    · have hb : b ≠ a := fun z => R.fresh_out n (by rw [← z]; exact h)
      rw [upd_ne hb]
      exact R.own b h
  same := R.same.trans (hid_new n)
  len := R.len
  slot := fun i sv e => by
    have q := R.slot i sv e
    cases sv with
    | d dd => obtain ⟨v, e1, h⟩ := q; exact ⟨v, e1, Dq.mono (hid_new n) _ h⟩
    | own b => obtain ⟨c, u, e1, m, ho, h⟩ := q; exact ⟨c, u, e1, List.mem_cons_of_mem _ m, same_new n _ _ ho, h.mono (hid_new n)⟩
    | bor _ => exact q
  apart := R.apart
  base := fun b m => by
    obtain ⟨h1, h2, h3⟩ := R.base b m
    obtain ⟨u, hu⟩ := R.there h1
    exact ⟨List.mem_cons_of_mem _ h1, (same_new n _ _ hu).trans (hu.symm.trans h2), h3⟩
/-- less is hidden -/
theorem RelS.show (R : RelS G L σ H en) (h : ∀ a ∈ L', a ∈ L) (hb : ∀ a ∈ G.B, a ∈ L') (k : ∀ (i : Nat) (b : OB) (a : Addr), en[i]? = some (some (SV.own b)) → σ[i]? = some (some (V.ref a)) → a ∈ L → a ∈ L') : RelS G L' σ H en where
  own := fun a m => R.own a (h a m)
  same := R.same.trans (hid_less h)
  len := R.len
  slot := fun i sv e => by
    have q := R.slot i sv e
    cases sv with
    | d dd => obtain ⟨v, e1, q⟩ := q; exact ⟨v, e1, Dq.mono (hid_less h) _ q⟩
    | own b => obtain ⟨c, u, e1, m, ho, q⟩ := q; exact ⟨c, u, e1, k i b c e e1 m, ho, q.mono (hid_less h)⟩
    | bor _ => exact q
  apart := R.apart
  base := fun b m => by
    obtain ⟨h1, h2, h3⟩ := R.base b m
    exact ⟨hb b m, h2, h3⟩
end
end L2

namespace L2
open PySem PySem.Spec PyProof.Rows

/-! ### the mirror's steps -/
def mpure {α : Type} (a : α) : M α := fun en => .ok a en
def mbind {α β : Type} (m : M α) (f : α → M β) : M β := fun en => match m en with
  | .ok a en' => f a en'
  | .exc x en' => .exc x en'
  | .stuck => .stuck
def mstuck {α : Type} : M α := fun _ => .stuck
def dctD (kvs : List (Key × D)) : D := .dict (kvs.map fun p => (kD p.1, p.2))
/-- what an operand is worth -/
def look (en : En) : SV → Option D
  | .d d => some d
  | .own _ => none
  | .bor i => match en[i]? with
    | some (some (.own (.lst ds))) => some (.list ds)
    | some (some (.own (.dct kvs))) => some (dctD kvs)
    | _ => none
def looks (en : En) : List SV → Option (List D)
  | [] => some []
  | s :: r => match look en s, looks en r with
    | some d, some ds => some (d :: ds)
    | _, _ => none
/-- a new list is let be seen -/
def mfrz (m : M SV) : M SV := mbind m fun sv => match sv with
  | .own (.lst ds) => mpure (.d (.list ds))
  | .own (.dct _) => mstuck
  | sv => mpure sv
/-- .. and the list of a slot too, for good -/
def mkeep (m : M SV) : M SV := mbind (mfrz m) fun sv => match sv with
  | .bor i => fun en => match en[i]? with
    | some (some (.own (.lst ds))) => .ok (.d (.list ds)) (en.set i (some (.d (.list ds))))
    | _ => .stuck
  | sv => mpure sv

/-! ### operands -/
def Opd (K : Kf) (H : Hp) (L : List Addr) (x : V) (d : D) : Prop :=
  Dq K (hid H L) x d ∨ (∃ a xs ds, x = .ref a ∧ d = .list ds ∧ H a = some (.lst xs) ∧ DqAll K (hid H L) xs ds) ∨
    ∃ a kvs kds, x = .ref a ∧ d = dctD kds ∧ H a = some (.dK kvs) ∧ KD K (hid H L) kvs kds
abbrev OpdAll (K : Kf) (H : Hp) (L : List Addr) : List V → List D → Prop := Paired (Opd K H L)
section
variable {K : Kf} {H0 H H' : Hp} {L L' : List Addr} {σ : St} {en en' : En} {v x y : V} {sv : SV} {d : D}
theorem Opd.list (h : Opd K H L x (.list ds)) : ∃ a xs, x = .ref a ∧ H a = some (.lst xs) ∧ DqAll K (hid H L) xs ds := by
  rcases h with h | ⟨a, xs, es, rfl, e, h, q⟩ | ⟨a, _, _, _, e, _⟩
  · cases h with
    | lst hs ha => exact ⟨_, _, rfl, hid_same _ _ hs, ha⟩
  · cases e; exact ⟨a, xs, rfl, h, q⟩
  · exact nomatch e
theorem Opd.tuple (h : Opd K H L x (.tuple ds)) : ∃ a xs, x = .ref a ∧ SqT K H a xs ∧ DqAll K (hid H L) xs ds := by
  rcases h with h | ⟨a, xs, es, rfl, e, h, q⟩ | ⟨a, _, _, _, e, _⟩
  · cases h with
    | tup hs ha => exact ⟨_, _, rfl, sqT_mono hid_same hs, ha⟩
  · exact nomatch e
  · exact nomatch e
theorem Opd.int {i : Int} (h : Opd K H L x (.int i)) : x = .int i := by
  rcases h with h | ⟨a, xs, es, rfl, e, h, q⟩ | ⟨a, _, _, _, e, _⟩
  · cases h; rfl
  · exact nomatch e
  · exact nomatch e
theorem Opd.bool {i : Bool} (h : Opd K H L x (.bool i)) : x = .bl i := by
  rcases h with h | ⟨a, xs, es, rfl, e, h, q⟩ | ⟨a, _, _, _, e, _⟩
  · cases h; rfl
  · exact nomatch e
  · exact nomatch e
theorem Opd.str {i : Str} (h : Opd K H L x (.str i)) : x = .str i := by
  rcases h with h | ⟨a, xs, es, rfl, e, h, q⟩ | ⟨a, _, _, _, e, _⟩
  · cases h; rfl
  · exact nomatch e
  · exact nomatch e
theorem Opd.none (h : Opd K H L x .none) : x = .non := by
  rcases h with h | ⟨a, xs, es, rfl, e, h, q⟩ | ⟨a, _, _, _, e, _⟩
  · cases h; rfl
  · exact nomatch e
  · exact nomatch e
/-- data, seen by all or at hand -/
theorem Opd.dp (h : Opd K H L x d) (n : plain d = true) : Dp K H x d := by
  rcases h with h | ⟨a, xs, es, rfl, rfl, h, q⟩ | ⟨a, _, _, _, rfl, _⟩
  · exact Dq.dp _ n (Dq.mono hid_same _ h)
  · exact .lst (.of h) (DqAll.dp _ (by simpa [plain] using n) (DqAll.mono hid_same _ q))
  · simp [plain, dctD] at n
theorem Opd.scr {ns : List Int} (h : Opd K H L x (scrD ns)) : ∃ a, x = .ref a ∧ SqL K H a (ns.map V.int) := by
  have inj : ∀ {ms : List Int}, ms.map PyData.int = ns.map PyData.int → ms = ns := fun {ms} e => by
    have q := congrArg (List.map fun d => match d with | PyData.int i => i | _ => 0) e
    simpa [List.map_map, Function.comp_def] using q
  generalize e : scrD ns = d at h
  rcases h with h | ⟨a, xs, es, rfl, e2, h, q⟩ | ⟨a, kvs, kds, rfl, e2, h, q⟩
  · cases h with
    | @scr a ms hs =>
      unfold scrD at e
      injection e with e
      injection e with e _
      injection e with _ e
      injection e with e
      have z := inj e.symm
      subst z
      exact ⟨a, rfl, hid_same.seq hs⟩
    | @dct a kvs kds ho hk =>
      unfold scrD at e
      injection e with e
      cases kds with
      | nil => exact nomatch e
      | cons p r =>
        injection e with e _
        injection e with e _
        cases h1 : p.1 <;> (rw [h1] at e; exact nomatch e)
    | _ => exact nomatch e
  · subst e2; exact nomatch e
  · subst e2
    unfold scrD dctD at e
    injection e with e
    cases kds with
    | nil => exact nomatch e
    | cons p r =>
      injection e with e _
      injection e with e _
      cases h1 : p.1 <;> (rw [h1] at e; exact nomatch e)
/-- an operand that was evaluated before -/
theorem RV.opd {G : Gs} (R : RelS G L' σ H' en') (s : Same (hid H L) (hid H' L')) (r : RV G L σ H en v sv) (e : look en' sv = some d) : Opd G.K H' L' v d := by
  cases sv with
  | d dd =>
    simp only [look, Option.some.injEq] at e
    subst e
    exact .inl (Dq.mono s _ r)
  | own _ => simp [look] at e
  | bor i =>
    obtain ⟨e1, _⟩ := r
    simp only [look] at e
    cases q : en'[i]? with
    | none => rw [q] at e; simp at e
    | some o =>
      rw [q] at e
      cases o with
      | none => simp at e
      | some sv' =>
        cases sv' with
        | d _ => simp at e
        | bor _ => simp at e
        | own b =>
          have z := R.slot i _ q
          obtain ⟨a, o, e2, m, ho, hr⟩ := z
          rw [e1] at e2
          cases e2
          cases b with
          | lst ds =>
            simp only [Option.some.injEq] at e
            subst e
            cases o with
            | lst xs => exact .inr (.inl ⟨a, xs, ds, rfl, rfl, ho, hr⟩)
            | _ => exact hr.elim
          | dct kds =>
            simp only [Option.some.injEq] at e
            subst e
            cases o with
            | dK kvs => exact .inr (.inr ⟨a, kvs, kds, rfl, rfl, ho, hr⟩)
            | _ => exact hr.elim
theorem RVs.opd {G : Gs} (R : RelS G L' σ H' en') (s : Same (hid H L) (hid H' L')) : ∀ {vs : List V} {svs : List SV} {ds : List D}, RVs G L σ H en vs svs → looks en' svs = some ds → OpdAll G.K H' L' vs ds
  | _, _, _, .nil, e => by
    simp only [looks, Option.some.injEq] at e
    subst e
    exact .nil
  | _, s0 :: r0, _, .cons h t, e => by
    simp only [looks] at e
    split at e
    · rename_i d ds e1 e2
      simp only [Option.some.injEq] at e
      subst e
      exact .cons (RV.opd R s h.1 e1) (RVs.opd R s t e2)
    · cases e
end

/-! ### ends -/
section
variable {G : Gs} {H H1 : Hp} {L L1 : List Addr} {σ : St} {en : En} {v : V} {sv : SV} {d : D} {Q : VK}
theorem PostX.from {σ0 : St → Prop} {x : Xc} (s : Same (hid H L) (hid H1 L1)) (h : PostX G σ0 H L x en) : PostX G σ0 H1 L1 x en := fun cls d σ H' L' a b c e => h cls d σ H' L' a b (s.trans c) e
theorem PostE.from {r : Rs SV} (s : Same (hid H L) (hid H1 L1)) (h : PostE G σ H L r Q) : PostE G σ H1 L1 r Q := by
  cases r with
  | ok sv en' => exact fun v H' L' a b c => h v H' L' a (s.trans b) c
  | exc x en' => exact PostX.from s h
  | stuck => exact h
theorem PostT.from {r : Rs Bool} {Q : Bool → Hp → Prop} (s : Same (hid H L) (hid H1 L1)) (h : PostT G σ H L r Q) : PostT G σ H1 L1 r Q := by
  cases r with
  | ok sv en' => exact fun H' L' a b => h H' L' a (s.trans b)
  | exc x en' => exact PostX.from s h
  | stuck => exact h
theorem PostA.from {r : Rs (List SV)} {Q : List V → Hp → Prop} (s : Same (hid H L) (hid H1 L1)) (h : PostA G σ H L r Q) : PostA G σ H1 L1 r Q := by
  cases r with
  | ok sv en' => exact fun v H' L' a b c => h v H' L' a (s.trans b) c
  | exc x en' => exact PostX.from s h
  | stuck => exact h
theorem PostX.imp {σ0 σ1 : St → Prop} {x : Xc} (h : PostX G σ0 H L x en) (k : ∀ σ, σ1 σ → σ0 σ) : PostX G σ1 H L x en := fun cls d σ H' L' a b c e => h cls d σ H' L' (k σ a) b c e
theorem PostS.from {w1 w2 : List Nat} {σ1 : St} {r : Rs Ct} {E : Ends} (s : Same (hid H L) (hid H1 L1)) (k : Keeps w1 σ σ1) (h : PostS G (w1 ++ w2) σ H L r E) : PostS G w2 σ1 H1 L1 r E := by
  cases r with
  | ok c en' =>
    cases c with
    | nx => exact fun σ' H' L' a b c => h σ' H' L' a (s.trans b) (k.trans c)
    | bk => exact fun σ' H' L' a b c => h σ' H' L' a (s.trans b) (k.trans c)
    | ct => exact fun σ' H' L' a b c => h σ' H' L' a (s.trans b) (k.trans c)
    | rt sv => exact fun v σ' H' L' a b c => h v σ' H' L' a (s.trans b) c
  | exc x en' => exact (PostX.from s h).imp fun σ' k' => k.trans k'
  | stuck => exact h
theorem PostS.from0 {wr : List Nat} {r : Rs Ct} {E : Ends} (s : Same (hid H L) (hid H1 L1)) (h : PostS G wr σ H L r E) : PostS G wr σ H1 L1 r E := PostS.from (w1 := []) s Keeps.refl h
theorem PostS.less {w1 w2 : List Nat} {r : Rs Ct} {E : Ends} (l : ∀ j ∈ w1, j ∈ w2) (h : PostS G w2 σ H L r E) : PostS G w1 σ H L r E := by
  cases r with
  | ok c en' =>
    cases c with
    | nx => exact fun σ' H' L' a b c => h σ' H' L' a b (c.mono l)
    | bk => exact fun σ' H' L' a b c => h σ' H' L' a b (c.mono l)
    | ct => exact fun σ' H' L' a b c => h σ' H' L' a b (c.mono l)
    | rt sv => exact fun v σ' H' L' a b c => h v σ' H' L' a b c
  | exc x en' => exact PostX.imp h fun σ' k' => k'.mono l
  | stuck => exact h
theorem PostX.at {wr : List Nat} {x : Xc} (h : PostX G (Keeps wr σ) H L x en) : PostX G (· = σ) H L x en := h.imp fun σ' e => by rw [e]; exact Keeps.refl
/-- a value that stands in the heap as it is -/
theorem post_d (R : RelS G L σ H en) (h : Dq G.K (hid H L) v d) (q : PostE G σ H L (.ok (.d d) en) Q) : Q v H := q v H L R (Same.refl _) h
theorem post_tup {p : Addr} {xs : List V} {ds : List D} (R : RelS G L σ H en) (n : H p = none) (h : DqAll G.K (hid H L) xs ds) (q : PostE G σ H L (.ok (.d (.tuple ds)) en) Q) : Q (.ref p) (upd H p (.tup xs)) := by
  have s : Same H (upd H p (.tup xs)) := same_new n
  refine q _ _ L (R.grow s) (hid_mono s) ?_
  refine .tup (.of ?_) (DqAll.mono (hid_mono s) _ h)
  rw [hid_out (R.fresh_out n)]
  exact upd_same
theorem own_out (R : RelS G L σ H en) {p : Addr} (n : p ∉ L) (i : Nat) (c : OB) (e : en[i]? = some (some (SV.own c))) : σ[i]? ≠ some (some (V.ref p)) := fun z => by
  obtain ⟨a, o, e1, m, _⟩ := R.slot i _ e
  rw [z] at e1
  cases e1
  exact n m
theorem post_lst {p : Addr} {xs : List V} {ds : List D} (R : RelS G L σ H en) (n : H p = none) (h : DqAll G.K (hid H L) xs ds) (q : PostE G σ H L (.ok (.own (.lst ds)) en) Q) : Q (.ref p) (upd H p (.lst xs)) :=
  q _ _ (p :: L) (R.hide n (.inl ⟨xs, rfl⟩)) (hid_new n) ⟨p, .lst xs, rfl, List.mem_cons_self, R.fresh_base n, upd_same, DqAll.mono (hid_new n) _ h, own_out R (R.fresh_out n)⟩
/-- sequence -/
theorem seqE {ma : M SV} {f : SV → M SV} (R : RelS G L σ H en) (q : PostE G σ H L (mbind ma f en) Q) :
    tE G ma σ H fun x H1 => ∃ en1 L1 sv, RelS G L1 σ H1 en1 ∧ Same (hid H L) (hid H1 L1) ∧ RV G L1 σ H1 en1 x sv ∧ PostE G σ H1 L1 (f sv en1) Q := by
  refine ⟨en, L, R, ?_⟩
  unfold mbind at q
  cases e : ma en with
  | ok sv en' =>
    rw [e] at q
    exact fun v H' L' a b c => ⟨en', L', sv, a, b, c, q.from b⟩
  | exc x en' =>
    rw [e] at q
    exact q
  | stuck =>
    rw [e] at q
    exact q
theorem seqA {ma : M SV} {f : SV → M (List SV)} {Q : List V → Hp → Prop} (R : RelS G L σ H en) (q : PostA G σ H L (mbind ma f en) Q) :
    tE G ma σ H fun x H1 => ∃ en1 L1 sv, RelS G L1 σ H1 en1 ∧ Same (hid H L) (hid H1 L1) ∧ RV G L1 σ H1 en1 x sv ∧ PostA G σ H1 L1 (f sv en1) Q := by
  refine ⟨en, L, R, ?_⟩
  unfold mbind at q
  cases e : ma en with
  | ok sv en' =>
    rw [e] at q
    exact fun v H' L' a b c => ⟨en', L', sv, a, b, c, q.from b⟩
  | exc x en' =>
    rw [e] at q
    exact q
  | stuck =>
    rw [e] at q
    exact q
theorem seqAA {ma : M (List SV)} {f : List SV → M (List SV)} {Q : List V → Hp → Prop} (R : RelS G L σ H en) (q : PostA G σ H L (mbind ma f en) Q) :
    tA G ma σ H fun x H1 => ∃ en1 L1 sv, RelS G L1 σ H1 en1 ∧ Same (hid H L) (hid H1 L1) ∧ RVs G L1 σ H1 en1 x sv ∧ PostA G σ H1 L1 (f sv en1) Q := by
  refine ⟨en, L, R, ?_⟩
  unfold mbind at q
  cases e : ma en with
  | ok sv en' =>
    rw [e] at q
    exact fun v H' L' a b c => ⟨en', L', sv, a, b, c, q.from b⟩
  | exc x en' =>
    rw [e] at q
    exact q
  | stuck =>
    rw [e] at q
    exact q
theorem seqAE {ma : M (List SV)} {f : List SV → M SV} (R : RelS G L σ H en) (q : PostE G σ H L (mbind ma f en) Q) :
    tA G ma σ H fun x H1 => ∃ en1 L1 sv, RelS G L1 σ H1 en1 ∧ Same (hid H L) (hid H1 L1) ∧ RVs G L1 σ H1 en1 x sv ∧ PostE G σ H1 L1 (f sv en1) Q := by
  refine ⟨en, L, R, ?_⟩
  unfold mbind at q
  cases e : ma en with
  | ok sv en' =>
    rw [e] at q
    exact fun v H' L' a b c => ⟨en', L', sv, a, b, c, q.from b⟩
  | exc x en' =>
    rw [e] at q
    exact q
  | stuck =>
    rw [e] at q
    exact q
theorem seqET {ma : M SV} {f : SV → M Bool} {Q : Bool → Hp → Prop} (R : RelS G L σ H en) (q : PostT G σ H L (mbind ma f en) Q) :
    tE G ma σ H fun x H1 => ∃ en1 L1 sv, RelS G L1 σ H1 en1 ∧ Same (hid H L) (hid H1 L1) ∧ RV G L1 σ H1 en1 x sv ∧ PostT G σ H1 L1 (f sv en1) Q := by
  refine ⟨en, L, R, ?_⟩
  unfold mbind at q
  cases e : ma en with
  | ok sv en' =>
    rw [e] at q
    exact fun v H' L' a b c => ⟨en', L', sv, a, b, c, q.from b⟩
  | exc x en' =>
    rw [e] at q
    exact q
  | stuck =>
    rw [e] at q
    exact q
theorem seqTE {ma : M Bool} {f : Bool → M SV} (R : RelS G L σ H en) (q : PostE G σ H L (mbind ma f en) Q) :
    tT G ma σ H fun x H1 => ∃ en1 L1, RelS G L1 σ H1 en1 ∧ Same (hid H L) (hid H1 L1) ∧ PostE G σ H1 L1 (f x en1) Q := by
  refine ⟨en, L, R, ?_⟩
  unfold mbind at q
  cases e : ma en with
  | ok sv en' =>
    rw [e] at q
    exact fun H' L' a b => ⟨en', L', a, b, q.from b⟩
  | exc x en' =>
    rw [e] at q
    exact q
  | stuck =>
    rw [e] at q
    exact q
theorem seqTT {ma : M Bool} {f : Bool → M Bool} {Q : Bool → Hp → Prop} (R : RelS G L σ H en) (q : PostT G σ H L (mbind ma f en) Q) :
    tT G ma σ H fun x H1 => ∃ en1 L1, RelS G L1 σ H1 en1 ∧ Same (hid H L) (hid H1 L1) ∧ PostT G σ H1 L1 (f x en1) Q := by
  refine ⟨en, L, R, ?_⟩
  unfold mbind at q
  cases e : ma en with
  | ok sv en' =>
    rw [e] at q
    exact fun H' L' a b => ⟨en', L', a, b, q.from b⟩
  | exc x en' =>
    rw [e] at q
    exact q
  | stuck =>
    rw [e] at q
    exact q
end

/-! ### names and constants -/
def mVar (i : Nat) : M SV := fun en => match en[i]? with
  | some (some (.d d)) => .ok (.d d) en
  | some (some (.own _)) => .ok (.bor i) en
  | _ => .stuck
def mC (d : D) : M SV := mpure (.d d)
section
variable {X : Cx} {G : Gs} {e a b : Expr} {m ma mb : M SV} {pos : Pos}
theorem je_var (hK : X.K = G.K) (i : Nat) {x : Str} (hN : X.N[i]? = some x := by rfl) (hv : Vis X.env.scope x := by first | exact Or.inl rfl | exact Or.inr (Or.inl rfl) | exact Or.inr (Or.inr rfl)) (hd : (x == ("__debug__" : Str)) = false := by decide)
    (hcd : (x == ("__classdict__" : Str)) = false := by decide) : PE X (.Name x pos) (tE G (mVar i)) := by
  refine (pe_var hN hv hd hcd).imp fun σ H Q h => ?_
  obtain ⟨en, L, R, q⟩ := h
  unfold mVar at q
  cases e : en[i]? with
  | none => rw [e] at q; exact q.elim
  | some o =>
    rw [e] at q
    cases o with
    | none => exact q.elim
    | some sv =>
      have z := R.slot i sv e
      cases sv with
      | d d =>
        obtain ⟨v, e1, hv⟩ := z
        exact ⟨v, e1, q v H L R (Same.refl _) hv⟩
      | own o =>
        obtain ⟨a, ho, e1, _⟩ := z
        exact ⟨.ref a, e1, q _ H L R (Same.refl _) ⟨e1, o, e⟩⟩
      | bor _ => exact q.elim
theorem je_c {v : V} {d : D} (h : PE X e (tC v)) (hd : ∀ H, Dq G.K H v d) : PE X e (tE G (mC d)) := h.imp fun σ H Q h => by
  obtain ⟨en, L, R, q⟩ := h
  exact post_d R (hd _) q
theorem je_int {i : Int} {j} : PE X (.Constant (.int i) j pos) (tE G (mC (.int i))) := je_c pe_int fun _ => .int i
theorem je_str {i : Str} {j} : PE X (.Constant (.str i) j pos) (tE G (mC (.str i))) := je_c pe_str fun _ => .str i
theorem je_bl {i : Bool} {j} : PE X (.Constant (.bool i) j pos) (tE G (mC (.bool i))) := je_c pe_bl fun _ => .bl i
theorem je_non {j} : PE X (.Constant .none j pos) (tE G (mC .none)) := je_c pe_non fun _ => .non
/-- an object that nobody holds by a slot is let be seen -/
theorem own_show {G : Gs} {H : Hp} {L : List Addr} {σ : St} {en : En} {a : Addr} (R : RelS G L σ H en) (na : a ∉ G.B) (n : ∀ (i : Nat) (c : OB), en[i]? = some (some (SV.own c)) → σ[i]? ≠ some (some (V.ref a))) :
    RelS G (L.filter (· ≠ a)) σ H en ∧ Same (hid H L) (hid H (L.filter (· ≠ a))) ∧ a ∉ L.filter (· ≠ a) := by
  have h : ∀ b ∈ L.filter (· ≠ a), b ∈ L := fun b z => (List.mem_filter.mp z).1
  refine ⟨R.show h (fun b m => List.mem_filter.mpr ⟨(R.base b m).1, decide_eq_true fun z => na (z ▸ m)⟩) fun i b c e e1 m => List.mem_filter.mpr ⟨m, ?_⟩, hid_less h, fun z => ?_⟩
  · exact decide_eq_true fun z => n i b e (z ▸ e1)
  · have := (List.mem_filter.mp z).2
    simp at this
theorem je_frz (h : PE X e (tE G m)) : PE X e (tE G (mfrz m)) := h.imp fun σ H Q h => by
  obtain ⟨en, L, R, q⟩ := h
  obtain ⟨en1, L1, R1, q1⟩ := seqE (f := fun sv => match sv with
    | .own (.lst ds) => mpure (.d (.list ds))
    | .own (.dct _) => mstuck
    | sv => mpure sv) R q
  refine ⟨en1, L1, R1, ?_⟩
  cases e : m en1 with
  | stuck => rw [e] at q1; exact q1
  | exc x en' => rw [e] at q1; exact q1
  | ok sv en' =>
    rw [e] at q1
    intro v H' L' R' s r
    obtain ⟨en2, L2, sv2, R2, s2, r2, q2⟩ := q1 v H' L' R' s r
    cases sv2 with
    | d d => exact q2 v H' L2 R2 (Same.refl _) r2
    | bor i => exact q2 v H' L2 R2 (Same.refl _) r2
    | own o =>
      cases o with
      | dct _ => exact q2.elim
      | lst ds =>
        obtain ⟨a, o, rfl, ma, nb, ho, hr, n⟩ := r2
        obtain ⟨R3, s3, n3⟩ := own_show R2 nb n
        refine q2 _ H' _ R3 s3 ?_
        cases o with
        | lst xs =>
          refine .lst ?_ (DqAll.mono s3 _ hr)
          rw [hid_out n3]
          exact ho
        | _ => exact hr.elim
end
end L2

namespace L2
open PySem PySem.Spec PyProof.Rows

def mres (o : Option SV) : M SV := fun en => match o with
  | some sv => .ok sv en
  | none => .stuck
def mOp1 (f : D → M SV) (ma : M SV) : M SV := mbind (mfrz ma) fun a en => match look en a with
  | some x => f x en
  | none => .stuck
def mOp2 (f : D → D → M SV) (ma mb : M SV) : M SV := mbind (mfrz ma) fun a => mbind (mfrz mb) fun b en => match look en a, look en b with
  | some x, some y => f x y en
  | _, _ => .stuck
def Fits1 (G : Gs) (r : V → Hp → VK → Prop) (f : D → M SV) : Prop := ∀ σ H L en x dx Q, RelS G L σ H en → Opd G.K H L x dx → PostE G σ H L (f dx en) Q → r x H Q
def Fits2 (G : Gs) (r : R2) (f : D → D → M SV) : Prop := ∀ σ H L en x y dx dy Q, RelS G L σ H en → Opd G.K H L x dx → Opd G.K H L y dy → PostE G σ H L (f dx dy en) Q → r x y H Q
section
variable {X : Cx} {G : Gs} {e a b : Expr} {m ma mb : M SV} {pos : Pos} {r : R2} {f : D → D → M SV}
theorem op1_imp {r : V → Hp → VK → Prop} {f : D → M SV} (F : Fits1 G r f) (σ : St) (H : Hp) (Q : VK) (h : tE G (mOp1 f ma) σ H Q) : tUn r (tE G (mfrz ma)) σ H Q := by
  obtain ⟨en, L, R, q⟩ := h
  have z := seqE R q
  obtain ⟨en0, L0, R0, q0⟩ := z
  refine ⟨en0, L0, R0, ?_⟩
  cases e : mfrz ma en0 with
  | stuck => rw [e] at q0; exact q0
  | exc x en' => rw [e] at q0; exact q0
  | ok sv en' =>
    rw [e] at q0
    intro v H1 L1 R1 s1 r1
    obtain ⟨en2, L2, sv2, R2, s2, r2, q2⟩ := q0 v H1 L1 R1 s1 r1
    show r v H1 Q
    cases e2 : look en2 sv2 with
    | none => simp only [e2] at q2; exact q2.elim
    | some d =>
      simp only [e2] at q2
      exact F σ H1 L2 en2 v d Q R2 (RV.opd R2 (Same.refl _) r2 e2) q2
/-- weaken the end of an expression's reading -/
theorem tE.mono {Q Q' : VK} {σ : St} {H : Hp} (h : tE G m σ H Q) (k : ∀ v H', Q v H' → Q' v H') : tE G m σ H Q' := by
  obtain ⟨en, L, R, q⟩ := h
  refine ⟨en, L, R, ?_⟩
  cases e : m en with
  | stuck => rw [e] at q; exact q
  | exc x en' => rw [e] at q; exact q
  | ok sv en' =>
    rw [e] at q
    exact fun v H1 L1 a b c => k _ _ (q v H1 L1 a b c)
theorem tT.mono {m : M Bool} {Q Q' : Bool → Hp → Prop} {σ : St} {H : Hp} (h : tT G m σ H Q) (k : ∀ v H', Q v H' → Q' v H') : tT G m σ H Q' := by
  obtain ⟨en, L, R, q⟩ := h
  refine ⟨en, L, R, ?_⟩
  cases e : m en with
  | stuck => rw [e] at q; exact q
  | exc x en' => rw [e] at q; exact q
  | ok sv en' =>
    rw [e] at q
    exact fun H1 L1 a b => k _ _ (q H1 L1 a b)
theorem tA.mono {m : M (List SV)} {Q Q' : List V → Hp → Prop} {σ : St} {H : Hp} (h : tA G m σ H Q) (k : ∀ v H', Q v H' → Q' v H') : tA G m σ H Q' := by
  obtain ⟨en, L, R, q⟩ := h
  refine ⟨en, L, R, ?_⟩
  cases e : m en with
  | stuck => rw [e] at q; exact q
  | exc x en' => rw [e] at q; exact q
  | ok sv en' =>
    rw [e] at q
    exact fun v H1 L1 a b c => k _ _ (q v H1 L1 a b c)
theorem tS.mono {wr : List Nat} {m : M Ct} {E E' : Ends} {σ : St} {H : Hp} (h : tS G wr m E σ H) (k1 : ∀ σ' H', E.nx σ' H' → E'.nx σ' H') (k2 : ∀ σ' H', E.rt σ' H' → E'.rt σ' H') (k3 : ∀ σ' H', E.bk σ' H' → E'.bk σ' H') (k4 : ∀ σ' H', E.ct σ' H' → E'.ct σ' H') : tS G wr m E' σ H := by
  obtain ⟨en, L, R, q⟩ := h
  refine ⟨en, L, R, ?_⟩
  cases e : m en with
  | stuck => rw [e] at q; exact q
  | exc x en' => rw [e] at q; exact q
  | ok c en' =>
    rw [e] at q
    cases c with
    | nx => exact fun σ1 H1 L1 a b k => k1 _ _ (q σ1 H1 L1 a b k)
    | bk => exact fun σ1 H1 L1 a b k => k3 _ _ (q σ1 H1 L1 a b k)
    | ct => exact fun σ1 H1 L1 a b k => k4 _ _ (q σ1 H1 L1 a b k)
    | rt sv => exact fun v σ1 H1 L1 a b c => k2 _ _ (q v σ1 H1 L1 a b c)
theorem op2_imp (F : Fits2 G r f) (σ : St) (H : Hp) (Q : VK) (h : tE G (mOp2 f ma mb) σ H Q) : tOp r (tE G (mfrz ma)) (tE G (mfrz mb)) σ H Q := by
  obtain ⟨en, L, R, q⟩ := h
  refine (seqE R q).mono fun x H1 ⟨en1, L1, sv1, R1, s1, r1, q1⟩ => ?_
  refine (seqE R1 q1).mono fun y H2 ⟨en2, L2, sv2, R2, s2, r2, q2⟩ => ?_
  cases e1 : look en2 sv1 with
  | none => simp only [e1] at q2; exact q2.elim
  | some d1 =>
    cases e2 : look en2 sv2 with
    | none => simp only [e1, e2] at q2; exact q2.elim
    | some d2 =>
      simp only [e1, e2] at q2
      exact F σ H2 L2 en2 x y d1 d2 Q R2 (RV.opd R2 s2 r1 e1) (RV.opd R2 (Same.refl _) r2 e2) q2
/-! ### operators -/
theorem je_bin {op : Operator} (ho : OpR X (binaryOp op) r) (F : Fits2 G r f) (ha : PE X a (tE G ma)) (hb : PE X b (tE G mb)) : PE X (.BinOp a op b pos) (tE G (mOp2 f ma mb)) :=
  (pe_op ho (je_frz ha) (je_frz hb)).imp (op2_imp F)
theorem je_un {op : UnaryOp} {r : V → Hp → VK → Prop} {f : D → M SV} (ho : UnR X (unaryOp op) r) (F : Fits1 G r f) (ha : PE X a (tE G ma)) : PE X (.UnaryOp op a pos) (tE G (mOp1 f ma)) :=
  (pe_un ho (je_frz ha)).imp (op1_imp F)
theorem je_cmp {op : CmpOp} (ho : OpR X (compareOp op) r) (F : Fits2 G r f) (ha : PE X a (tE G ma)) (hb : PE X b (tE G mb)) (hm : behindInMarks op b = false := by first | exact nobehind _ (by decide) (by decide) | rfl) : PE X (.Compare a [op] [b] pos) (tE G (mOp2 f ma mb)) :=
  (pe_cmpR ho (je_frz ha) (je_frz hb) hm).imp (op2_imp F)
theorem je_ix (hr : IxR X r) (F : Fits2 G r f) (ha : PE X a (tE G ma)) (hb : PE X b (tE G mb)) (hs : PlainIx b := by exact fun _ _ => rfl) : PE X (.Subscript a b pos) (tE G (mOp2 f ma mb)) :=
  (pe_ix hr (je_frz ha) (je_frz hb) hs).imp (op2_imp F)
/-! ### tests -/
def mB (m : M SV) : M Bool := mbind m fun sv => match sv with
  | .d (.bool b) => mpure b
  | _ => mstuck
theorem test_imp {t : TE} (k : ∀ σ H Q, tE G m σ H Q → t σ H Q) (σ : St) (H : Hp) (Q : Bool → Hp → Prop) (h : tT G (mB m) σ H Q) : t σ H fun x H' => ∃ c, x = .bl c ∧ Q c H' := by
  obtain ⟨en, L, R, q⟩ := h
  refine k σ H _ ((seqET R q).mono fun x H1 ⟨en1, L1, sv1, R1, s1, r1, q1⟩ => ?_)
  cases sv1 with
  | own _ => exact q1.elim
  | bor _ => exact q1.elim
  | d d =>
    cases d with
    | bool b =>
      cases r1
      exact ⟨b, rfl, q1 H1 L1 R1 (Same.refl _)⟩
    | _ => exact q1.elim
theorem jt_cmp {op : CmpOp} (ho : OpR X (compareOp op) r) (F : Fits2 G r f) (ha : PE X a (tE G ma)) (hb : PE X b (tE G mb)) (hm : behindInMarks op b = false := by first | exact nobehind _ (by decide) (by decide) | rfl) : PT X (.Compare a [op] [b] pos) (tT G (mB (mOp2 f ma mb))) :=
  (pt_cmpR ho (je_frz ha) (je_frz hb) hm).imp (test_imp (op2_imp F))
theorem jt_val (h : PE X e (tE G m)) (he : ∀ whole, isTrue e X.env whole = (do let v ← whole; standAt e.pos; holding [v] (truthy v)) := by intro _; rfl) : PT X e (tT G (mB m)) :=
  (pt_val h he).imp (test_imp fun _ _ _ h => h)
def mNotT (m : M Bool) : M Bool := mbind m fun b => mpure (!b)
def mAndT (m n : M Bool) : M Bool := mbind m fun b => if b then n else mpure false
def mOrT (m n : M Bool) : M Bool := mbind m fun b => if b then mpure true else n
variable {ta tb : M Bool}
theorem jt_not (h : PT X e (tT G ta)) : PT X (.UnaryOp .Not e pos) (tT G (mNotT ta)) := (pt_not h).imp fun σ H Q h => by
  obtain ⟨en, L, R, q⟩ := h
  exact (seqTT R q).mono fun b H1 ⟨en1, L1, R1, s1, q1⟩ => q1 H1 L1 R1 (Same.refl _)
theorem and_imp (σ : St) (H : Hp) (Q : Bool → Hp → Prop) (h : tT G (mAndT ta tb) σ H Q) : tAnd (tT G ta) (tT G tb) σ H Q := by
  obtain ⟨en, L, R, q⟩ := h
  refine (seqTT R q).mono fun b H1 ⟨en1, L1, R1, s1, q1⟩ => ?_
  cases b with
  | true => exact ⟨en1, L1, R1, q1⟩
  | false => exact q1 H1 L1 R1 (Same.refl _)
theorem or_imp (σ : St) (H : Hp) (Q : Bool → Hp → Prop) (h : tT G (mOrT ta tb) σ H Q) : tOr (tT G ta) (tT G tb) σ H Q := by
  obtain ⟨en, L, R, q⟩ := h
  refine (seqTT R q).mono fun b H1 ⟨en1, L1, R1, s1, q1⟩ => ?_
  cases b with
  | true => exact q1 H1 L1 R1 (Same.refl _)
  | false => exact ⟨en1, L1, R1, q1⟩
theorem jw_and1 (h : PT X e (tT G ta)) : PW X (.BoolOp .And [e] pos) (tT G ta) := pw_and1 h
theorem jw_or1 (h : PT X e (tT G ta)) : PW X (.BoolOp .Or [e] pos) (tT G ta) := pw_or1 h
theorem jw_and {rest : List Expr} (ha : PT X a (tT G ta)) (hb : PW X (.BoolOp .And (b :: rest) pos) (tT G tb)) : PW X (.BoolOp .And (a :: b :: rest) pos) (tT G (mAndT ta tb)) := (pw_and ha hb).imp and_imp
theorem jw_or {rest : List Expr} (ha : PT X a (tT G ta)) (hb : PW X (.BoolOp .Or (b :: rest) pos) (tT G tb)) : PW X (.BoolOp .Or (a :: b :: rest) pos) (tT G (mOrT ta tb)) := (pw_or ha hb).imp or_imp
/-! ### and, or, not as values -/
def mBV (m : M Bool) : M SV := mbind m fun b => mpure (.d (.bool b))
theorem je_not (h : PE X e (tE G m)) : PE X (.UnaryOp .Not e pos) (tE G (mBV (mNotT (mB m)))) := (pe_not h).imp fun σ H Q h => by
  obtain ⟨en, L, R, q⟩ := h
  refine test_imp (G := G) (m := m) (Q := fun c H' => Q (.bl (!c)) H') (fun _ _ _ h => h) σ H ⟨en, L, R, ?_⟩
  unfold mBV mNotT mbind at q
  cases e1 : mB m en with
  | stuck => simp only [e1] at q; exact q
  | exc x en' => simp only [e1] at q; exact q
  | ok c en' =>
    simp only [e1] at q
    exact fun H' L' a b => q _ H' L' a b (.bl _)
theorem tT_split {m : M Bool} {f : Bool → M SV} {σ : St} {H : Hp} {L : List Addr} {en : En} {Q : VK} (R : RelS G L σ H en) (q : PostE G σ H L (mbind m f en) Q) :
    tT G m σ H fun c H1 => ∃ en1 L1, RelS G L1 σ H1 en1 ∧ PostE G σ H1 L1 (f c en1) Q := (seqTE R q).mono fun c H1 ⟨en1, L1, R1, _, q1⟩ => ⟨en1, L1, R1, q1⟩
theorem bv_and {en : En} : mBV (mAndT ta tb) en = mbind ta (fun b => if b then mBV tb else mpure (.d (.bool false))) en := by
  unfold mBV mAndT mbind
  cases ta en with
  | ok b en' => cases b <;> rfl
  | exc _ _ => rfl
  | stuck => rfl
theorem bv_or {en : En} : mBV (mOrT ta tb) en = mbind ta (fun b => if b then mpure (.d (.bool true)) else mBV tb) en := by
  unfold mBV mOrT mbind
  cases ta en with
  | ok b en' => cases b <;> rfl
  | exc _ _ => rfl
  | stuck => rfl
theorem je_one {op} (h : PE X a (tE G m)) : PE X (.BoolOp op [a] pos) (tE G (mBV (mB m))) := (pe_one h).imp fun σ H Q h => by
  obtain ⟨en, L, R, q⟩ := h
  have z := test_imp (G := G) (m := m) (Q := fun c H' => Q (.bl c) H') (fun _ _ _ h => h) σ H ⟨en, L, R, ?_⟩
  · exact z.mono fun v H' ⟨c, e, q⟩ => by rw [e]; exact q
  · unfold mBV mbind at q
    cases e1 : mB m en with
    | stuck => simp only [e1] at q; exact q
    | exc x en' => simp only [e1] at q; exact q
    | ok c en' =>
      simp only [e1] at q
      exact fun H' L' a b => q _ H' L' a b (.bl _)
theorem je_and {rest : List Expr} (ha : PE X a (tE G m)) (hb : PE X (.BoolOp .And (b :: rest) pos) (tE G (mBV tb))) : PE X (.BoolOp .And (a :: b :: rest) pos) (tE G (mBV (mAndT (mB m) tb))) := (pe_and ha hb).imp fun σ H Q h => by
  obtain ⟨en, L, R, q⟩ := h
  rw [bv_and] at q
  refine test_imp (fun _ _ _ h => h) σ H _ ((tT_split R q).mono fun c H1 ⟨en1, L1, R1, q1⟩ => ?_)
  cases c with
  | true => exact ⟨en1, L1, R1, q1⟩
  | false => exact q1 _ H1 L1 R1 (Same.refl _) (.bl _)
theorem je_or {rest : List Expr} (ha : PE X a (tE G m)) (hb : PE X (.BoolOp .Or (b :: rest) pos) (tE G (mBV tb))) : PE X (.BoolOp .Or (a :: b :: rest) pos) (tE G (mBV (mOrT (mB m) tb))) := (pe_or ha hb).imp fun σ H Q h => by
  obtain ⟨en, L, R, q⟩ := h
  rw [bv_or] at q
  refine test_imp (fun _ _ _ h => h) σ H _ ((tT_split R q).mono fun c H1 ⟨en1, L1, R1, q1⟩ => ?_)
  cases c with
  | true => exact q1 _ H1 L1 R1 (Same.refl _) (.bl _)
  | false => exact ⟨en1, L1, R1, q1⟩
def mIf (t : M Bool) (m n : M SV) : M SV := mbind t fun b => if b then m else n
theorem je_if {c : Expr} (hc : PT X c (tT G ta)) (ha : PE X a (tE G ma)) (hb : PE X b (tE G mb)) : PE X (.IfExp c a b pos) (tE G (mIf ta ma mb)) := (pe_ifExp hc ha hb).imp fun σ H Q h => by
  obtain ⟨en, L, R, q⟩ := h
  refine (tT_split R q).mono fun c H1 ⟨en1, L1, R1, q1⟩ => ?_
  cases c with
  | true => exact ⟨en1, L1, R1, q1⟩
  | false => exact ⟨en1, L1, R1, q1⟩
end

/-! ### arguments -/
def mNil : M (List SV) := mpure []
section
variable {X : Cx} {G : Gs} {e : Expr} {es : List Expr} {m : M SV} {r : M (List SV)} {pos : Pos}
theorem ja_nil : PA X [] (tA G mNil) := pa_nil.imp fun σ H Q h => by
  obtain ⟨en, L, R, q⟩ := h
  exact q _ H L R (Same.refl _) .nil
theorem RV.later {G : Gs} {H H' : Hp} {L L' : List Addr} {σ : St} {en en' : En} {v : V} {sv : SV} (R : RelS G L' σ H' en') (s : Same (hid H L) (hid H' L')) (r : RV G L σ H en v sv) (n : ∀ b, sv ≠ .own b)
    (k : ∀ i, sv = .bor i → ∃ b, en'[i]? = some (some (SV.own b))) : RV G L' σ H' en' v sv := by
  cases sv with
  | d d => exact Dq.mono s _ r
  | own b => exact absurd rfl (n b)
  | bor i => exact ⟨r.1, k i rfl⟩
/-- a slot that is lent is not let be seen by the arguments behind -/
def lentOk (en : En) : SV → Bool
  | .bor i => match en[i]? with
    | some (some (.own _)) => true
    | _ => false
  | .own _ => false
  | .d _ => true
def mCons (m : M SV) (r : M (List SV)) : M (List SV) := mbind (mfrz m) fun a => mbind r fun as en => if lentOk en a then .ok (a :: as) en else .stuck
theorem ja_cons (ha : PE X e (tE G m)) (hr : PA X es (tA G r)) (hs : starEach (e :: es) X.env = (false, eval e X.env) :: starEach es X.env := by rfl) : PA X (e :: es) (tA G (mCons m r)) := (pa_cons (je_frz ha) hr hs).imp fun σ H Q h => by
  obtain ⟨en, L, R, q⟩ := h
  have z := seqA R q
  obtain ⟨en0, L0, R0, q0⟩ := z
  refine ⟨en0, L0, R0, ?_⟩
  cases e0 : mfrz m en0 with
  | stuck => rw [e0] at q0; exact q0
  | exc x en' => rw [e0] at q0; exact q0
  | ok sv en' =>
    rw [e0] at q0
    intro v H1 L1 R1 s1 r1
    obtain ⟨en1, L1', sv1, R1', s1', r1', q1⟩ := q0 v H1 L1 R1 s1 r1
    refine (seqAA R1' q1).mono fun vs H2 ⟨en2, L2, svs, R2, s2, r2, q2⟩ => ?_
    by_cases hl : lentOk en2 sv1 = true
    · simp only [hl, if_true] at q2
      have n : ∀ b, sv1 ≠ .own b := fun b z => by subst z; cases hl
      refine q2 (v :: vs) H2 L2 R2 (Same.refl _) (.cons ⟨RV.later R2 s2 r1' n fun i e => ?_, n⟩ r2)
      subst e
      unfold lentOk at hl
      cases q : en2[i]? with
      | none => simp [q] at hl
      | some o => cases o with
        | none => simp [q] at hl
        | some s => cases s with
          | own b => exact ⟨b, rfl⟩
          | d _ => simp [q] at hl
          | bor _ => simp [q] at hl
    · simp only [hl] at q2
      exact q2.elim
end
end L2

namespace L2
open PySem PySem.Spec PyProof.Rows

/-! ### a slot's list is let be seen for good -/
theorem slot_freeze {G : Gs} {H : Hp} {L : List Addr} {σ : St} {en : En} {i : Nat} {ds : List D} {a : Addr} {xs : List V} (R : RelS G L σ H en) (e : en[i]? = some (some (SV.own (.lst ds)))) (e1 : σ[i]? = some (some (V.ref a))) (ho : H a = some (.lst xs))
    (hr : DqAll G.K (hid H L) xs ds) : RelS G (L.filter (· ≠ a)) σ H (en.set i (some (.d (.list ds)))) ∧ Same (hid H L) (hid H (L.filter (· ≠ a))) ∧ Dq G.K (hid H (L.filter (· ≠ a))) (.ref a) (.list ds) := by
  have h : ∀ b ∈ L.filter (· ≠ a), b ∈ L := fun b z => (List.mem_filter.mp z).1
  have n : a ∉ L.filter (· ≠ a) := fun z => by have := (List.mem_filter.mp z).2; simp at this
  have s := hid_less (H := H) h
  have dp : Dq G.K (hid H (L.filter (· ≠ a))) (.ref a) (.list ds) := .lst (by rw [hid_out n]; exact ho) (DqAll.mono s _ hr)
  refine ⟨⟨fun b m => R.own b (h b m), R.same.trans s, by rw [List.length_set]; exact R.len, fun j sv ej => ?_, fun j k b c a' hjk ej ek => ?_, fun b m => ?_⟩, s, dp⟩
  · by_cases hj : j = i
    · subst hj
      have hlt : j < en.length := by
        have := (List.getElem?_eq_some_iff.mp e).1
        exact this
      rw [List.getElem?_set_self hlt] at ej
      cases ej
      exact ⟨_, e1, dp⟩
    · rw [List.getElem?_set_ne (Ne.symm hj)] at ej
      have z := R.slot j sv ej
      cases sv with
      | d dd => obtain ⟨v, q1, q2⟩ := z; exact ⟨v, q1, Dq.mono s _ q2⟩
      | own b =>
        obtain ⟨c, u, q1, m, q2, q3⟩ := z
        refine ⟨c, u, q1, List.mem_filter.mpr ⟨m, decide_eq_true fun z => ?_⟩, q2, q3.mono s⟩
        subst z
        exact R.apart j i _ _ _ hj ej e q1 e1
      | bor _ => exact z
  · have key : ∀ j b, (en.set i (some (.d (.list ds))))[j]? = some (some (SV.own b)) → en[j]? = some (some (SV.own b)) := fun j b q => by
      by_cases hj : j = i
      · subst hj
        rw [List.getElem?_set_self (List.getElem?_eq_some_iff.mp e).1] at q
        cases q
      · rw [List.getElem?_set_ne (Ne.symm hj)] at q
        exact q
    exact R.apart j k b c a' hjk (key _ _ ej) (key _ _ ek)
  · obtain ⟨h1, h2, h3⟩ := R.base b m
    refine ⟨List.mem_filter.mpr ⟨h1, decide_eq_true fun z => h3 i _ e (by rw [z]; exact e1)⟩, h2, fun j c q => ?_⟩
    by_cases hj : j = i
    · subst hj
      rw [List.getElem?_set_self (List.getElem?_eq_some_iff.mp e).1] at q
      cases q
    · rw [List.getElem?_set_ne (Ne.symm hj)] at q
      exact h3 j c q
section
variable {X : Cx} {G : Gs} {e : Expr} {es : List Expr} {m : M SV} {r : M (List SV)} {pos : Pos}
theorem je_keep (h : PE X e (tE G m)) : PE X e (tE G (mkeep m)) := (je_frz h).imp fun σ H Q h => by
  obtain ⟨en, L, R, q⟩ := h
  refine (seqE R q).mono fun v H1 ⟨en1, L1, sv1, R1, s1, r1, q1⟩ => ?_
  cases sv1 with
  | d d => exact q1 v H1 L1 R1 (Same.refl _) r1
  | own o => exact q1 v H1 L1 R1 (Same.refl _) r1
  | bor i =>
    obtain ⟨e1, b, e2⟩ := r1
    simp only [e2] at q1
    cases b with
    | dct _ => exact q1.elim
    | lst ds =>
      have z := R1.slot i _ e2
      obtain ⟨a, o, e3, ma, ho, hr⟩ := z
      rw [e1] at e3
      cases e3
      cases o with
      | lst xs =>
        obtain ⟨R2, s2, dp⟩ := slot_freeze R1 e2 e1 ho hr
        exact q1 _ H1 _ R2 s2 dp
      | _ => exact hr.elim
/-! ### displays -/
def mTup (r : M (List SV)) : M SV := mbind r fun svs => fun en => match looks en svs with
  | some ds => if ds.length ≤ sizeLine ∧ svs.all (fun s => match s with | .d _ => true | _ => false) = true then .ok (.d (.tuple ds)) en else .stuck
  | none => .stuck
def mLst (r : M (List SV)) : M SV := mbind r fun svs => fun en => match looks en svs with
  | some ds => if ds.length ≤ sizeLine ∧ svs.all (fun s => match s with | .d _ => true | _ => false) = true then .ok (.own (.lst ds)) en else .stuck
  | none => .stuck
theorem all_d {G : Gs} {H : Hp} {L : List Addr} {σ : St} {en : En} : ∀ {vs : List V} {svs : List SV} {ds : List D}, RVs G L σ H en vs svs → looks en svs = some ds → svs.all (fun s => match s with | .d _ => true | _ => false) = true → DqAll G.K (hid H L) vs ds
  | _, _, _, .nil, e, _ => by
    simp only [looks, Option.some.injEq] at e
    subst e
    exact .nil
  | _, s :: _, _, .cons h t, e, f => by
    simp only [List.all_cons, Bool.and_eq_true] at f
    simp only [looks] at e
    cases s with
    | d d =>
      split at e
      · rename_i d' ds' e1 e2
        simp only [Option.some.injEq] at e
        subst e
        simp only [look, Option.some.injEq] at e1
        subst e1
        exact .cons h.1 (all_d t e2 f.2)
      · cases e
    | own _ => exact nomatch f.1
    | bor _ => exact nomatch f.1
theorem je_tup {x1} (h : PA X es (tA G r)) : PE X (.Tuple es x1 pos) (tE G (mTup r)) := (pe_tup h).imp fun σ H Q h => by
  obtain ⟨en, L, R, q⟩ := h
  refine (seqAE R q).mono fun vs H1 ⟨en1, L1, svs, R1, s1, r1, q1⟩ => ?_
  cases e : looks en1 svs with
  | none => simp only [e] at q1; exact q1.elim
  | some ds =>
    simp only [e] at q1
    split at q1
    · rename_i hz
      have dp := all_d r1 e hz.2
      exact ⟨by rw [dp.length]; exact hz.1, fun p n => post_tup R1 n dp q1⟩
    · exact q1.elim
theorem je_lst (h : PA X es (tA G r)) : PE X (.List es pos) (tE G (mLst r)) := (pe_lst h).imp fun σ H Q h => by
  obtain ⟨en, L, R, q⟩ := h
  refine (seqAE R q).mono fun vs H1 ⟨en1, L1, svs, R1, s1, r1, q1⟩ => ?_
  cases e : looks en1 svs with
  | none => simp only [e] at q1; exact q1.elim
  | some ds =>
    simp only [e] at q1
    split at q1
    · rename_i hz
      have dp := all_d r1 e hz.2
      exact ⟨by rw [dp.length]; exact hz.1, fun p n => post_lst R1 n dp q1⟩
    · exact q1.elim
end

/-! ### operations on data -/
section
variable {X : Cx} {G : Gs}
def ivD (o : Option D) : M SV := fun en => match o with
  | some d => .ok (.d d) en
  | none => .stuck
def fI2 (g : Int → Int → Option D) : D → D → M SV
  | .int i, .int j => ivD (g i j)
  | _, _ => mstuck
theorem fit_rI {C : Int → Int → Prop} {h : Int → Int → V} {g : Int → Int → Option D} (k : ∀ i j d, g i j = some d → C i j ∧ ∀ H, Dq G.K H (h i j) d) : Fits2 G (rI C h) (fI2 g) := by
  intro σ H L en x y dx dy Q R ox oy q
  unfold fI2 at q
  split at q
  · rename_i i j
    unfold ivD at q
    cases e : g i j with
    | none => rw [e] at q; exact q.elim
    | some d =>
      rw [e] at q
      obtain ⟨c, dp⟩ := k i j d e
      exact ⟨i, j, ox.int, oy.int, c, post_d R (dp _) q⟩
  · exact q.elim
theorem fit_rI0 {h : Int → Int → V} {g : Int → Int → Option D} (k : ∀ i j d, g i j = some d → ∀ H, Dq G.K H (h i j) d) : Fits2 G (rI0 h) (fI2 g) := by
  intro σ H L en x y dx dy Q R ox oy q
  unfold fI2 at q
  split at q
  · rename_i i j
    unfold ivD at q
    cases e : g i j with
    | none => rw [e] at q; exact q.elim
    | some d =>
      rw [e] at q
      exact ⟨i, j, ox.int, oy.int, post_d R (k i j d e _) q⟩
  · exact q.elim
theorem Fits2.or {r r' : R2} {f : D → D → M SV} {g : D → D → M SV} (h : Fits2 G r f) (h' : Fits2 G r' g) {k : D → D → M SV} (c : ∀ x y, k x y = f x y ∨ k x y = g x y) : Fits2 G (fun x y H Q => r x y H Q ∨ r' x y H Q) k := by
  intro σ H L en x y dx dy Q R ox oy q
  rcases c dx dy with e | e
  · rw [e] at q; exact .inl (h σ H L en x y dx dy Q R ox oy q)
  · rw [e] at q; exact .inr (h' σ H L en x y dx dy Q R ox oy q)
def dSub : D → D → M SV := fI2 fun i j => some (.int (i - j))
def dMul : D → D → M SV := fI2 fun i j => if (-(2 ^ 64) < i ∧ i < 2 ^ 64) ∨ (-(2 ^ 64) < j ∧ j < 2 ^ 64) then some (.int (i * j)) else none
def dMod : D → D → M SV := fI2 fun i j => if 0 < j then some (.int (i % j)) else none
def dDiv : D → D → M SV := fI2 fun i j => if 0 < j ∧ j < 2 ^ 64 then some (.int (i / j)) else none
def dPow : D → D → M SV := fI2 fun i j => if (0 ≤ j ∧ j ≤ 1000000) ∧ i.natAbs < 2 ^ 64 then some (.int (i ^ j.toNat)) else none
theorem fit_sub : Fits2 G (rI0 fun i j => .int (i - j)) dSub := fit_rI0 fun i j d e H => by cases e; exact .int _
theorem fit_mul : Fits2 G (rI CMul fun i j => .int (i * j)) dMul := fit_rI fun i j d e => by
  split at e
  · rename_i h; cases e; exact ⟨h, fun _ => .int _⟩
  · cases e
theorem fit_mod : Fits2 G (rI (fun _ j => 0 < j) fun i j => .int (i % j)) dMod := fit_rI fun i j d e => by
  split at e
  · rename_i h; cases e; exact ⟨h, fun _ => .int _⟩
  · cases e
theorem fit_div : Fits2 G (rI CDivW fun i j => .int (i / j)) dDiv := fit_rI fun i j d e => by
  split at e
  · rename_i h; cases e; exact ⟨wide_div (b := 64) h.1 (by omega) (by decide) (by decide), fun _ => .int _⟩
  · cases e
theorem fit_pow : Fits2 G (rI CPow fun i j => .int (i ^ j.toNat)) dPow := fit_rI fun i j d e => by
  split at e
  · rename_i h; cases e; exact ⟨⟨h.1.1, h.1.2, h.2⟩, fun _ => .int _⟩
  · cases e
end
end L2

namespace L2
open PySem PySem.Spec PyProof.Rows
section
variable {X : Cx} {G : Gs}
/-! ### + -/
def rCatR : R2 := fun x y H Q => ∃ l b xs zs, x = .ref l ∧ y = .ref b ∧ H l = some (.lst xs) ∧ H b = some (.lst zs) ∧ xs.length + zs.length ≤ sizeLine ∧ ∀ p, H p = none → Q (.ref p) (upd H p (.lst (xs ++ zs)))
theorem op_catR : OpR X (binaryOp .Add) rCatR := by
  intro pins s σ H x y v u Q I rx ry h
  obtain ⟨l, b, xs, zs, rfl, rfl, hl, hb, hz, q⟩ := h
  obtain rfl := rx
  obtain rfl := ry
  obtain ⟨z1, i1, n1, r1, e1⟩ := I.hok _ _ hl
  obtain ⟨z2, i2, n2, r2, e2⟩ := I.hok _ _ hb
  have l1 := r1.length
  have l2 := r2.length
  refine PySem.P.add_list e1 e2 ?_ (by simp only [List.size_toArray]; omega)
  rw [show i1.toArray ++ i2.toArray = (i1 ++ i2).toArray by simp]
  exact ⟨.ref s.heap.objs.size, _, I.lnew (t' := s.toks) (r1.append r2) (by rw [List.length_append]; exact hz), rfl, q _ I.fresh⟩
def rAddA (K : Kf) : R2 := fun x y H Q => rI0 (fun i j => .int (i + j)) x y H Q ∨ (∃ i j, x = .str i ∧ y = .str j ∧ i.length + j.length ≤ sizeLine ∧ Q (.str (i ++ j)) H) ∨ rCatR x y H Q ∨ rCatA K x y H Q
theorem op_addA : OpR X (binaryOp .Add) (rAddA X.K) := op_add.or (op_add_str.or (op_catR.or op_catA))
def dAdd : D → D → M SV
  | .int i, .int j => mpure (.d (.int (i + j)))
  | .str i, .str j => if i.length + j.length ≤ sizeLine then mpure (.d (.str (i ++ j))) else mstuck
  | .list xs, .list ys => if xs.length + ys.length ≤ sizeLine then mpure (.own (.lst (xs ++ ys))) else mstuck
  | .tuple xs, .tuple ys => if xs.length + ys.length ≤ sizeLine then mpure (.d (.tuple (xs ++ ys))) else mstuck
  | _, _ => mstuck
theorem Opd.tupleD {K : Kf} {H : Hp} {L : List Addr} {x : V} {ds : List D} (h : Opd K H L x (.tuple ds)) : ∃ a xs, x = .ref a ∧ SqT K (hid H L) a xs ∧ DqAll K (hid H L) xs ds := by
  rcases h with h | ⟨a, xs, es, rfl, e, h, q⟩ | ⟨a, _, _, _, e, _⟩
  · cases h with
    | tup hs ha => exact ⟨_, _, rfl, hs, ha⟩
  · exact nomatch e
  · exact nomatch e
theorem fit_add : Fits2 G (rAddA G.K) dAdd := by
  intro σ H L en x y dx dy Q R ox oy q
  unfold dAdd at q
  split at q
  · exact .inl ⟨_, _, ox.int, oy.int, post_d R (.int _) q⟩
  · split at q
    · rename_i h
      exact .inr (.inl ⟨_, _, ox.str, oy.str, h, post_d R (.str _) q⟩)
    · exact q.elim
  · split at q
    · rename_i h
      obtain ⟨a, xs, rfl, h1, h2⟩ := ox.list
      obtain ⟨b, ys, rfl, h3, h4⟩ := oy.list
      exact .inr (.inr (.inl ⟨a, b, xs, ys, rfl, rfl, h1, h3, by rw [h2.length, h4.length]; exact h, fun p n => post_lst R n (h2.append h4) q⟩))
    · exact q.elim
  · split at q
    · rename_i h
      obtain ⟨a, xs, rfl, h1, h2⟩ := ox.tupleD
      obtain ⟨b, ys, rfl, h3, h4⟩ := oy.tupleD
      refine .inr (.inr (.inr ⟨a, b, xs, ys, rfl, rfl, sqT_mono hid_same h1, sqT_mono hid_same h3, by rw [h2.length, h4.length]; exact h, fun e => ?_, fun _ e => ?_, fun _ _ p n => post_tup R n (h2.append h4) q⟩))
      · subst e
        cases h2
        exact post_d R (.tup h3 h4) q
      · subst e
        cases h4
        rw [List.append_nil] at q
        exact post_d R (.tup h1 h2) q
    · exact q.elim
  · exact q.elim
/-! ### * -/
def rMulA : R2 := fun x y H Q => rI CMul (fun i j => .int (i * j)) x y H Q ∨ ∃ z j, x = .str z ∧ y = .int j ∧ MulOk z j ∧ Q (.str (Txt.mul z j)) H
theorem op_mul_str : OpR X (binaryOp .Mult) fun x y H Q => ∃ z j, x = .str z ∧ y = .int j ∧ MulOk z j ∧ Q (.str (Txt.mul z j)) H := by
  intro pins s σ H x y v u Q I rx ry h
  obtain ⟨z, j, rfl, rfl, hm, q⟩ := h
  obtain ⟨t1, rfl⟩ := rx
  obtain ⟨t2, rfl⟩ := ry
  exact SB.mul hm fun t' k => ⟨.str _, H, I.tok _, ⟨_, rfl⟩, q⟩
theorem op_mulA : OpR X (binaryOp .Mult) rMulA := op_mul.or op_mul_str
def dMulA : D → D → M SV
  | .int i, .int j => dMul (.int i) (.int j)
  | .str z, .int j => if j = 0 then mpure (.d (.str Str.empty)) else if j = 1 then mpure (.d (.str z)) else mstuck
  | _, _ => mstuck
theorem fit_mulA : Fits2 G rMulA dMulA := by
  intro σ H L en x y dx dy Q R ox oy q
  unfold dMulA at q
  split at q
  · exact .inl (fit_mul σ H L en x y _ _ Q R ox oy q)
  · rename_i z j
    split at q
    · rename_i h
      subst h
      exact .inr ⟨z, 0, ox.str, oy.int, ⟨by decide, fun h => absurd (by decide) h, fun h => absurd (by decide) h⟩, post_d (d := .str Str.empty) R (.str _) q⟩
    · split at q
      · rename_i h
        subst h
        refine .inr ⟨z, 1, ox.str, oy.int, ⟨by decide, fun _ h => by simp at h, fun _ h => by simp at h⟩, ?_⟩
        have e : Txt.mul z 1 = z := by unfold Txt.mul; simp
        rw [e]
        exact post_d R (.str _) q
      · exact q.elim
  · exact q.elim
/-! ### == and != -/
def scalD : D → D → Option Bool
  | .int i, .int j => some (decide (i = j))
  | .str i, .str j => some (decide (i = j))
  | .bool i, .bool j => some (decide (i = j))
  | .none, .none => some true
  | .none, .int _ => some false
  | .int _, .none => some false
  | .none, .str _ => some false
  | .str _, .none => some false
  | .int _, .str _ => some false
  | .str _, .int _ => some false
  | _, _ => none
def eqD (x y : D) : Option Bool := match scalD x y with
  | some b => some b
  | none => if plain x = true ∧ plain y = true ∧ SeqAt.shaped x = true ∧ SeqAt.shaped y = true then some (PyData.eqv x y) else none
def rEqA (K : Kf) : R2 := fun x y H Q => rEq x y H Q ∨ rEqD K x y H Q
def rNeA (K : Kf) : R2 := fun x y H Q => rNe x y H Q ∨ rNeD K x y H Q
theorem op_eqA (hu : X.A.units + 64 < cLine) : OpR X (compareOp .Eq) (rEqA X.K) := op_eq.or (op_eqD hu)
theorem op_neA (hu : X.A.units + 64 < cLine) : OpR X (compareOp .NotEq) (rNeA X.K) := op_ne.or (op_neD hu)
def bvD (o : Option Bool) : M SV := fun en => match o with
  | some b => .ok (.d (.bool b)) en
  | none => .stuck
def dEq (x y : D) : M SV := bvD (eqD x y)
def dNe (x y : D) : M SV := bvD ((eqD x y).map (!·))
theorem scalD_of {K : Kf} {H : Hp} {L : List Addr} {x y : V} {dx dy : D} {b : Bool} (ox : Opd K H L x dx) (oy : Opd K H L y dy) (e : scalD dx dy = some b) : scal x y = true ∧ decide (x = y) = b := by
  unfold scalD at e
  split at e
  all_goals first
    | (cases e; done)
    | (cases e
       first | have h1 := ox.int | have h1 := ox.str | have h1 := ox.bool | have h1 := ox.none
       first | have h2 := oy.int | have h2 := oy.str | have h2 := oy.bool | have h2 := oy.none
       subst h1 h2
       exact ⟨rfl, by simp⟩)
theorem fit_eq : Fits2 G (rEqA G.K) dEq := by
  intro σ H L en x y dx dy Q R ox oy q
  unfold dEq eqD bvD at q
  cases e : scalD dx dy with
  | some b =>
    simp only [e] at q
    obtain ⟨h1, h2⟩ := scalD_of ox oy e
    exact .inl ⟨h1, by rw [h2]; exact post_d R (.bl _) q⟩
  | none =>
    simp only [e] at q
    split at q
    · rename_i b hb
      split at hb
      · rename_i hc
        cases hb
        exact .inr ⟨dx, dy, ox.dp hc.1, oy.dp hc.2.1, hc.2.2.1, hc.2.2.2, post_d R (.bl _) q⟩
      · cases hb
    · exact q.elim
theorem fit_ne : Fits2 G (rNeA G.K) dNe := by
  intro σ H L en x y dx dy Q R ox oy q
  unfold dNe eqD bvD at q
  cases e : scalD dx dy with
  | some b =>
    simp only [e, Option.map_some] at q
    obtain ⟨h1, h2⟩ := scalD_of ox oy e
    exact .inl ⟨h1, by rw [h2]; exact post_d R (.bl _) q⟩
  | none =>
    simp only [e] at q
    split at q
    · rename_i b hb
      split at hb
      · rename_i hc
        cases hb
        exact .inr ⟨dx, dy, ox.dp hc.1, oy.dp hc.2.1, hc.2.2.1, hc.2.2.2, post_d R (.bl _) q⟩
      · cases hb
    · exact q.elim
/-! ### order -/
def rLtA : R2 := fun x y H Q => rI0 (fun i j => .bl (decide (i < j))) x y H Q ∨ ∃ i j, x = .str i ∧ y = .str j ∧ Q (.bl (decide (i.cps.toList < j.cps.toList))) H
theorem op_ltA : OpR X (compareOp .Lt) rLtA := op_lt.or op_lt_str
def dLt : D → D → M SV
  | .int i, .int j => mpure (.d (.bool (decide (i < j))))
  | .str i, .str j => mpure (.d (.bool (decide (i.cps.toList < j.cps.toList))))
  | _, _ => mstuck
theorem fit_lt : Fits2 G rLtA dLt := by
  intro σ H L en x y dx dy Q R ox oy q
  unfold dLt at q
  split at q
  · exact .inl ⟨_, _, ox.int, oy.int, post_d R (.bl _) q⟩
  · exact .inr ⟨_, _, ox.str, oy.str, post_d R (.bl _) q⟩
  · exact q.elim
def rGtA : R2 := fun x y H Q => rI0 (fun i j => .bl (decide (j < i))) x y H Q ∨ ∃ i j, x = .str i ∧ y = .str j ∧ Q (.bl (decide (j.cps.toList < i.cps.toList))) H
theorem op_gtA : OpR X (compareOp .Gt) rGtA := op_gt.or op_gt_str
def dGt : D → D → M SV
  | .int i, .int j => mpure (.d (.bool (decide (j < i))))
  | .str i, .str j => mpure (.d (.bool (decide (j.cps.toList < i.cps.toList))))
  | _, _ => mstuck
theorem fit_gt : Fits2 G rGtA dGt := by
  intro σ H L en x y dx dy Q R ox oy q
  unfold dGt at q
  split at q
  · exact .inl ⟨_, _, ox.int, oy.int, post_d R (.bl _) q⟩
  · exact .inr ⟨_, _, ox.str, oy.str, post_d R (.bl _) q⟩
  · exact q.elim
def rLeA : R2 := fun x y H Q => rI0 (fun i j => .bl (decide (i ≤ j))) x y H Q ∨ ∃ i j, x = .str i ∧ y = .str j ∧ Q (.bl (!decide (j.cps.toList < i.cps.toList))) H
theorem op_leA : OpR X (compareOp .LtE) rLeA := op_le.or op_le_str
def dLe : D → D → M SV
  | .int i, .int j => mpure (.d (.bool (decide (i ≤ j))))
  | .str i, .str j => mpure (.d (.bool (!decide (j.cps.toList < i.cps.toList))))
  | _, _ => mstuck
theorem fit_le : Fits2 G rLeA dLe := by
  intro σ H L en x y dx dy Q R ox oy q
  unfold dLe at q
  split at q
  · exact .inl ⟨_, _, ox.int, oy.int, post_d R (.bl _) q⟩
  · exact .inr ⟨_, _, ox.str, oy.str, post_d R (.bl _) q⟩
  · exact q.elim
def rGeA : R2 := fun x y H Q => rI0 (fun i j => .bl (decide (j ≤ i))) x y H Q ∨ ∃ i j, x = .str i ∧ y = .str j ∧ Q (.bl (!decide (i.cps.toList < j.cps.toList))) H
theorem op_geA : OpR X (compareOp .GtE) rGeA := op_ge.or op_ge_str
def dGe : D → D → M SV
  | .int i, .int j => mpure (.d (.bool (decide (j ≤ i))))
  | .str i, .str j => mpure (.d (.bool (!decide (i.cps.toList < j.cps.toList))))
  | _, _ => mstuck
theorem fit_ge : Fits2 G rGeA dGe := by
  intro σ H L en x y dx dy Q R ox oy q
  unfold dGe at q
  split at q
  · exact .inl ⟨_, _, ox.int, oy.int, post_d R (.bl _) q⟩
  · exact .inr ⟨_, _, ox.str, oy.str, post_d R (.bl _) q⟩
  · exact q.elim
/-! ### is -/
def rIsA : R2 := fun x y H Q => rIsN x y H Q ∨ rIsB x y H Q
theorem op_isA : OpR X (compareOp .Is) rIsA := op_isN1.or op_isBl
def rNisA : R2 := fun x y H Q => rNotN x y H Q ∨ rNotB x y H Q
theorem op_nisA : OpR X (compareOp .IsNot) rNisA := op_notN1.or op_notBl
def isNone : D → Bool
  | .none => true
  | _ => false
def dIs : D → D → M SV
  | x, .none => mpure (.d (.bool (isNone x)))
  | .bool a, .bool b => mpure (.d (.bool (decide (a = b))))
  | _, _ => mstuck
def dNis : D → D → M SV
  | x, .none => mpure (.d (.bool (!isNone x)))
  | .bool a, .bool b => mpure (.d (.bool (!decide (a = b))))
  | _, _ => mstuck
theorem isNoneD_of {K : Kf} {H : Hp} {L : List Addr} {x : V} {dx : D} (ox : Opd K H L x dx) : decide (x = .non) = isNone dx := by
  cases dx with
  | none => rw [ox.none]; rfl
  | bool b => rw [ox.bool]; rfl
  | int b => rw [ox.int]; rfl
  | str b => rw [ox.str]; rfl
  | list ds => obtain ⟨a, _, rfl, _⟩ := ox.list; rfl
  | tuple ds => obtain ⟨a, _, rfl, _⟩ := ox.tuple; rfl
  | dict kvs =>
    rcases ox with h | ⟨a, xs, es, rfl, e, h, q⟩ | ⟨a, _, _, rfl, e, _⟩
    · cases h <;> rfl
    · rfl
    · rfl
theorem fit_is : Fits2 G rIsA dIs := by
  intro σ H L en x y dx dy Q R ox oy q
  unfold dIs at q
  split at q
  · exact .inl ⟨oy.none, by rw [isNoneD_of ox]; exact post_d R (.bl _) q⟩
  · exact .inr ⟨_, _, ox.bool, oy.bool, post_d R (.bl _) q⟩
  · exact q.elim
theorem fit_nis : Fits2 G rNisA dNis := by
  intro σ H L en x y dx dy Q R ox oy q
  unfold dNis at q
  split at q
  · exact .inl ⟨oy.none, by rw [isNoneD_of ox]; exact post_d R (.bl _) q⟩
  · exact .inr ⟨_, _, ox.bool, oy.bool, post_d R (.bl _) q⟩
  · exact q.elim
/-! ### in -/
def isFlat : D → Bool
  | .none => true
  | .bool _ => true
  | .int _ => true
  | .str _ => true
  | _ => false
def inD (x y : D) : Option Bool := match x, y with
  | .str s, .str z => match s.cps.toList with
    | [c] => some (decide (c ∈ z.cps.toList))
    | _ => none
  | x, .list ds => if isFlat x = true ∧ ds.all isFlat = true then some (ds.any fun d => PyData.eqv d x) else
      if plain x = true ∧ plains ds = true ∧ SeqAt.shaped x = true ∧ SeqAt.shaped (.list ds) = true then some (ds.any fun d => PyData.eqv d x) else none
  | x, .tuple ds => if isFlat x = true ∧ ds.all isFlat = true then some (ds.any fun d => PyData.eqv d x) else none
  | _, _ => none
def dIn (x y : D) : M SV := bvD (inD x y)
def dNin (x y : D) : M SV := bvD ((inD x y).map (!·))
def rInA (K : Kf) : R2 := fun x y H Q => rInS x y H Q ∨ rIn K false x y H Q ∨ rInD K x y H Q
def rNinA (K : Kf) : R2 := fun x y H Q => rNotInS x y H Q ∨ rIn K true x y H Q ∨ rNotInD K x y H Q
theorem op_inA (hu : X.A.units + 65 < cLine) : OpR X (compareOp .In) (rInA X.K) := op_inS.or (op_in_seq.or (op_inD hu))
theorem op_ninA (hu : X.A.units + 65 < cLine) : OpR X (compareOp .NotIn) (rNinA X.K) := op_notInS.or (op_notIn_seq.or (op_notInD hu))
theorem flat_v {K : Kf} {H : Hp} {v : V} {d : D} (h : Dq K H v d) (f : isFlat d = true) : flatV v = true := by
  cases h <;> first | rfl | cases f
theorem flats_v {K : Kf} {H : Hp} : ∀ {vs : List V} {ds : List D}, DqAll K H vs ds → ds.all isFlat = true → vs.all flatV = true
  | _, _, .nil, _ => rfl
  | _, _, .cons h t, f => by
    simp only [List.all_cons, Bool.and_eq_true] at f ⊢
    exact ⟨flat_v h f.1, flats_v t f.2⟩
theorem eqV_eqv {K : Kf} {H : Hp} {v w : V} {d e : D} (h : Dq K H v d) (g : Dq K H w e) (f : isFlat d = true) (f2 : isFlat e = true) : eqV v w = PyData.eqv d e := by
  cases h <;> first
    | (cases f; done)
    | (cases g <;> first
        | (cases f2; done)
        | (simp only [eqV, PyData.eqv]; done)
        | (simp only [eqV, PyData.eqv]; rfl))
theorem inV_inD {K : Kf} {H : Hp} {v : V} {d : D} (h : Dq K H v d) (f : isFlat d = true) : ∀ {vs : List V} {ds : List D}, DqAll K H vs ds → ds.all isFlat = true → inV v vs = ds.any fun z => PyData.eqv z d
  | _, _, .nil, _ => rfl
  | _, _, .cons g t, f2 => by
    simp only [List.all_cons, Bool.and_eq_true] at f2
    have ih := inV_inD h f t f2.2
    unfold inV at ih ⊢
    rw [List.any_cons, List.any_cons, ih, eqV_eqv g h f2.1 f]
theorem Opd.flat {K : Kf} {H : Hp} {L : List Addr} {x : V} {d : D} (h : Opd K H L x d) (f : isFlat d = true) : Dq K (hid H L) x d := by
  rcases h with h | ⟨a, xs, es, rfl, rfl, h, q⟩ | ⟨a, _, _, _, rfl, _⟩
  · exact h
  · cases f
  · cases f
theorem in_rule {K : Kf} {H : Hp} {L : List Addr} {x y : V} {dx dy : D} {b : Bool} {neg : Bool} {Q : VK} (ox : Opd K H L x dx) (oy : Opd K H L y dy) (e : inD dx dy = some b) (q : Q (.bl (if neg then !b else b)) H) :
    (∃ (c : Nat) (z : Str), x = .str ⟨#[c]⟩ ∧ y = .str z ∧ b = decide (c ∈ z.cps.toList)) ∨ rIn K neg x y H Q ∨ ∃ d ds, Dp K H x d ∧ Dp K H y (.list ds) ∧ SeqAt.shaped d = true ∧ SeqAt.shaped (.list ds) = true ∧ b = ds.any fun z => PyData.eqv z d := by
  unfold inD at e
  split at e
  · split at e
    · rename_i s z l c hs
      cases e
      refine .inl ⟨c, z, ?_, oy.str, rfl⟩
      rw [ox.str]
      congr 1
      cases s with
      | mk a =>
        congr 1
        exact Array.ext' hs
    · cases e
  · rename_i ds
    split at e
    · rename_i h
      cases e
      obtain ⟨a, xs, rfl, h1, h2⟩ := oy.list
      have fx := ox.flat h.1
      refine .inr (.inl ⟨a, xs, rfl, .inl (.of h1), flat_v fx h.1, flats_v h2 h.2, ?_⟩)
      rw [inV_inD fx h.1 h2 h.2]
      exact q
    · split at e
      · rename_i h
        cases e
        exact .inr (.inr ⟨_, _, ox.dp h.1, oy.dp (by simpa [plain] using h.2.1), h.2.2.1, h.2.2.2, rfl⟩)
      · cases e
  · rename_i ds
    split at e
    · rename_i h
      cases e
      obtain ⟨a, xs, rfl, h1, h2⟩ := oy.tuple
      have fx := ox.flat h.1
      refine .inr (.inl ⟨a, xs, rfl, .inr h1, flat_v fx h.1, flats_v h2 h.2, ?_⟩)
      rw [inV_inD fx h.1 h2 h.2]
      exact q
    · cases e
  · cases e
theorem fit_in : Fits2 G (rInA G.K) dIn := by
  intro σ H L en x y dx dy Q R ox oy q
  unfold dIn bvD at q
  cases e : inD dx dy with
  | none => rw [e] at q; exact q.elim
  | some b =>
    rw [e] at q
    have q' : Q (.bl b) H := post_d R (.bl _) q
    rcases in_rule (neg := false) ox oy e q' with ⟨c, z, e1, e2, e3⟩ | h | ⟨d, ds, h1, h2, h3, h4, h5⟩
    · exact .inl ⟨c, z, e1, e2, by rw [← e3]; exact q'⟩
    · exact .inr (.inl h)
    · exact .inr (.inr ⟨d, ds, h1, h2, h3, h4, by rw [← h5]; exact q'⟩)
theorem fit_nin : Fits2 G (rNinA G.K) dNin := by
  intro σ H L en x y dx dy Q R ox oy q
  unfold dNin bvD at q
  cases e : inD dx dy with
  | none => rw [e] at q; exact q.elim
  | some b =>
    rw [e] at q
    have q' : Q (.bl (!b)) H := post_d R (.bl _) q
    rcases in_rule (neg := true) ox oy e q' with ⟨c, z, e1, e2, e3⟩ | h | ⟨d, ds, h1, h2, h3, h4, h5⟩
    · exact .inl ⟨c, z, e1, e2, by rw [← e3]; exact q'⟩
    · exact .inr (.inl h)
    · exact .inr (.inr ⟨d, ds, h1, h2, h3, h4, by rw [← h5]; exact q'⟩)
end
end L2

namespace L2
open PySem PySem.Spec PyProof.Rows
section
variable {X : Cx} {G : Gs}
/-! ### an item -/
def rIxDct : R2 := fun x y H Q => ∃ a v, x = .ref a ∧ DGet H a y (some v) ∧ Q v H
theorem ix_dict (hu : X.A.units + 1 < cLine) : IxR X rIxDct := by
  intro value slice pins s σ H x y v u Q I rx ry h hs
  obtain ⟨a, z, rfl, g, q⟩ := h
  obtain rfl := rx
  exact tail_any (dict_typeIs I g) PySem.F.slot_dict_getitem.lookup (d_getItem hu I g ry fun w' s' I' r' => ⟨z, H, I', r', q⟩) hs
def rIxA (K : Kf) : R2 := fun x y H Q => rIx K x y H Q ∨ rIxDct x y H Q
theorem ix_A (hu : X.A.units + 1 < cLine) : IxR X (rIxA X.K) := ix_seq.or (ix_dict hu)
def keyD : D → Option Key
  | .int i => some (.inl i)
  | .str s => some (.inr s)
  | _ => none
def lookD (k : D) : List (D × D) → Option D
  | [] => none
  | (a, b) :: r => if keyD a = keyD k then some b else lookD k r
def ixD : D → D → Option D
  | .list ds, .int i => atI ds i
  | .tuple ds, .int i => atI ds i
  | .str z, .int i => if z.length ≤ sizeLine then (atI z.cps.toList i).map fun c => .str ⟨#[c]⟩ else none
  | .dict [(.none, .list ds)], .int i => atI ds i
  | .dict kds, k => if (keyD k).isSome then lookD k kds else none
  | _, _ => none
def dIx (x y : D) : M SV := ivD (ixD x y)
theorem atI_dq {K : Kf} {H : Hp} {xs : List V} {ds : List D} {i : Int} {d : D} (h : DqAll K H xs ds) (e : atI ds i = some d) : ∃ v, atI xs i = some v ∧ Dq K H v d := by
  unfold atI at e ⊢
  rw [h.length]
  cases q : ixN ds.length i with
  | none => rw [q] at e; cases e
  | some j =>
    rw [q] at e
    exact h.get e
theorem atI_ints {ns : List Int} {i : Int} {d : D} (e : atI (ns.map PyData.int) i = some d) : ∃ n, d = .int n ∧ atI (ns.map V.int) i = some (.int n) := by
  unfold atI at e ⊢
  rw [List.length_map] at e ⊢
  cases q : ixN ns.length i with
  | none => rw [q] at e; cases e
  | some j =>
    rw [q] at e
    simp only [Option.bind_some, List.getElem?_map] at e ⊢
    cases z : ns[j]? with
    | none => rw [z] at e; cases e
    | some n => rw [z] at e; cases e; exact ⟨n, rfl, rfl⟩
theorem valV_look {K : Kf} {H : Hp} {k : Key} {d : D} : ∀ {kvs : List (Key × V)} {kds : List (Key × D)}, KD K H kvs kds → lookD (kD k) (kds.map fun p => (kD p.1, p.2)) = some d → ∃ v, valV kvs k = some v ∧ Dq K H v d
  | _, _, .nil, e => by simp [lookD] at e
  | p :: _, q :: _, .cons ⟨h1, h2⟩ t, e => by
    simp only [List.map_cons, lookD] at e
    have kk : ∀ a : Key, keyD (kD a) = some a := fun a => by cases a <;> rfl
    rw [kk, kk] at e
    by_cases h : q.1 = k
    · rw [if_pos (by rw [h])] at e
      cases e
      exact ⟨p.2, valV_pos (h1.trans h), h2⟩
    · rw [if_neg (fun z => h (Option.some.inj z))] at e
      obtain ⟨v, e1, e2⟩ := valV_look t e
      exact ⟨v, by rw [valV_neg (fun z => h (h1.symm.trans z))]; exact e1, e2⟩
theorem Opd.list' {K : Kf} {H : Hp} {L : List Addr} {x : V} {ds : List D} (h : Opd K H L x (.list ds)) : ∃ a xs, x = .ref a ∧ SqL K H a xs ∧ DqAll K (hid H L) xs ds := by
  obtain ⟨a, xs, e, h1, h2⟩ := h.list
  exact ⟨a, xs, e, .of h1, h2⟩
/-- a dict that is at hand -/
theorem Opd.dct {K : Kf} {H : Hp} {L : List Addr} {x : V} {kds : List (D × D)} (h : Opd K H L x (.dict kds)) : (∃ (a : Addr) (ns : List Int), x = .ref a ∧ kds = [(.none, .list (ns.map .int))] ∧ SqL K H a (ns.map V.int)) ∨
    ∃ a kvs ks, x = .ref a ∧ kds = (ks.map fun p : Key × D => (kD p.1, p.2)) ∧ H a = some (.dK kvs) ∧ KD K (hid H L) kvs ks := by
  rcases h with h | ⟨a, xs, es, rfl, e, h, q⟩ | ⟨a, kvs, ks, rfl, e, h, q⟩
  · cases h with
    | scr hs => exact .inl ⟨_, _, rfl, rfl, hid_same.seq hs⟩
    | dct ho hk => exact .inr ⟨_, _, _, rfl, rfl, hid_same _ _ ho, KA.kd hk⟩
  · exact nomatch e
  · unfold dctD at e
    injection e with e
    exact .inr ⟨a, kvs, ks, rfl, e, h, q⟩
theorem key_of_D {K : Kf} {H : Hp} {L : List Addr} {y : V} {dy : D} {k : Key} (oy : Opd K H L y dy) (e : keyD dy = some k) : y = kV k ∧ dy = kD k := by
  cases dy with
  | int i => cases e; exact ⟨oy.int, rfl⟩
  | str s => cases e; exact ⟨oy.str, rfl⟩
  | _ => cases e
theorem fit_ix : Fits2 G (rIxA G.K) dIx := by
  intro σ H L en x y dx dy Q R ox oy q
  unfold dIx ivD at q
  cases e : ixD dx dy with
  | none => rw [e] at q; exact q.elim
  | some d =>
    rw [e] at q
    unfold ixD at e
    split at e
    · obtain ⟨a, xs, rfl, h1, h2⟩ := ox.list'
      obtain ⟨v, e1, hv⟩ := atI_dq h2 e
      exact .inl (.inl ⟨a, xs, _, v, rfl, oy.int, h1, e1, post_d R hv q⟩)
    · obtain ⟨a, xs, rfl, h1, h2⟩ := ox.tuple
      obtain ⟨v, e1, hv⟩ := atI_dq h2 e
      exact .inl (.inr (.inl ⟨a, xs, _, v, rfl, oy.int, h1, e1, post_d R hv q⟩))
    · split at e
      · rename_i z i hz
        cases e1 : atI z.cps.toList i with
        | none => rw [e1] at e; cases e
        | some c =>
          rw [e1] at e
          cases e
          exact .inl (.inr (.inr ⟨z, i, c, ox.str, oy.int, hz, e1, post_d R (.str _) q⟩))
      · cases e
    · rcases ox.dct with ⟨a, ns, rfl, e2, hs⟩ | ⟨a, kvs, ks, rfl, e2, ho, hk⟩
      · injection e2 with e2 _
        injection e2 with _ e2
        injection e2 with e2
        subst e2
        obtain ⟨n, rfl, e1⟩ := atI_ints e
        exact .inl (.inl ⟨a, _, _, _, rfl, oy.int, hs, e1, post_d R (.int n) q⟩)
      · cases ks with
        | nil => cases e2
        | cons p r =>
          injection e2 with e2 _
          injection e2 with e2 _
          cases h1 : p.1 <;> (rw [h1] at e2; exact nomatch e2)
    · rename_i kds hne
      split at e
      · rename_i hk
        obtain ⟨k, ek⟩ := Option.isSome_iff_exists.mp hk
        obtain ⟨ey, ed⟩ := key_of_D oy ek
        rcases ox.dct with ⟨a, ns, rfl, e2, hs⟩ | ⟨a, kvs, ks, rfl, e2, ho, hkd⟩
        · subst e2
          rw [ed] at e
          cases k <;> simp [lookD, keyD, kD] at e
        · subst e2
          rw [ed] at e
          obtain ⟨v, e1, hv⟩ := valV_look hkd e
          refine .inr ⟨a, v, rfl, ?_, post_d R hv q⟩
          rw [ey, ← e1]
          exact DGet.k ho
      · cases e
    · cases e
theorem je_item {a b : Expr} {ma mb : M SV} {pos : Pos} (hK : X.K = G.K) (hu : X.A.units + 1 < cLine) (ha : PE X a (tE G ma)) (hb : PE X b (tE G mb)) (hs : PlainIx b := by exact fun _ _ => rfl) : PE X (.Subscript a b pos) (tE G (mOp2 dIx ma mb)) :=
  je_ix (ix_A hu) (hK ▸ fit_ix) ha hb hs

/-! ### slices -/
def mSl (f : D → Option Int → Option Int → M SV) (ma : M SV) (lo hi : Option (M SV)) : M SV := mbind (mfrz ma) fun a =>
  match lo with
  | none => (match hi with
    | none => fun en => match look en a with
      | some x => f x none none en
      | none => .stuck
    | some mh => mbind (mfrz mh) fun h en => match look en a, look en h with
      | some x, some (.int j) => f x none (some j) en
      | _, _ => .stuck)
  | some ml => mbind (mfrz ml) fun l => match hi with
    | none => fun en => match look en a, look en l with
      | some x, some (.int i) => f x (some i) none en
      | _, _ => .stuck
    | some mh => mbind (mfrz mh) fun h en => match look en a, look en l, look en h with
      | some x, some (.int i), some (.int j) => f x (some i) (some j) en
      | _, _, _ => .stuck

/-! ### calls of what is built in -/
def mCallD (f : List D → M SV) (mas : M (List SV)) : M SV := mbind mas fun svs en => match looks en svs with
  | some ds => f ds en
  | none => .stuck
def FitsC (G : Gs) (r : List V → Hp → VK → Prop) (f : List D → M SV) : Prop := ∀ σ H L en vs ds Q, RelS G L σ H en → OpdAll G.K H L vs ds → PostE G σ H L (f ds en) Q → r vs H Q
theorem callD_imp {r : List V → Hp → VK → Prop} {f : List D → M SV} {mas : M (List SV)} (F : FitsC G r f) (σ : St) (H : Hp) (Q : VK) (h : tE G (mCallD f mas) σ H Q) : tCB r (tA G mas) σ H Q := by
  obtain ⟨en, L, R, q⟩ := h
  refine (seqAE R q).mono fun vs H1 ⟨en1, L1, svs, R1, s1, r1, q1⟩ => ?_
  cases e : looks en1 svs with
  | none => simp only [e] at q1; exact q1.elim
  | some ds =>
    simp only [e] at q1
    exact F σ H1 L1 en1 vs ds Q R1 (RVs.opd R1 (Same.refl _) r1 e) q1
theorem je_callB {id : String} {r : List V → Hp → VK → Prop} {f : List D → M SV} {mas : M (List SV)} {x : Str} {p pos : Pos} {e : Expr} {es : List Expr} (hc : CallR X (.builtin id) r) (F : FitsC G r f) (hg : Gl X x) (hm : X.mg x = none) (hv : bootBuiltins x = some (.builtin id)) (ha : PA X (e :: es) (tA G mas)) (hn : x ≠ "__name__" := by decide) (hdb : (x == ("__debug__" : Str)) = false := by decide)
    (he : starEach (e :: es) X.env = (false, eval e X.env) :: starEach es X.env := by rfl) (hpl : (backTo pos (starEach es X.env)).any (·.1) = false := by rfl) : PE X (.Call (.Name x p) (e :: es) [] pos) (tE G (mCallD f mas)) :=
  (pe_callB hc hg hm hv ha hn hdb he hpl).imp (callD_imp F)
theorem je_callTy {T : String} {r : List V → Hp → VK → Prop} {f : List D → M SV} {mas : M (List SV)} {x : Str} {p pos : Pos} {e : Expr} {es : List Expr} (hc : CallR X (.type T) r) (F : FitsC G r f) (hg : Gl X x) (hm : X.mg x = none) (hv : bootBuiltins x = some (.type T)) (ha : PA X (e :: es) (tA G mas)) (hn : x ≠ "__name__" := by decide) (hdb : (x == ("__debug__" : Str)) = false := by decide)
    (he : starEach (e :: es) X.env = (false, eval e X.env) :: starEach es X.env := by rfl) (hpl : (backTo pos (starEach es X.env)).any (·.1) = false := by rfl) : PE X (.Call (.Name x p) (e :: es) [] pos) (tE G (mCallD f mas)) :=
  (pe_callTy hc hg hm hv ha hn hdb he hpl).imp (callD_imp F)
/-- one argument -/
def d1 (f : D → M SV) : List D → M SV
  | [x] => f x
  | _ => mstuck
theorem fit1 {r : List V → Hp → VK → Prop} {f : D → M SV} (k : ∀ σ H L en x d Q, RelS G L σ H en → Opd G.K H L x d → PostE G σ H L (f d en) Q → r [x] H Q) : FitsC G r (d1 f) := by
  intro σ H L en vs ds Q R o q
  unfold d1 at q
  split at q
  · cases o with
    | cons h t => cases t; exact k σ H L en _ _ Q R h q
  · exact q.elim
/-- len -/
def lenD : D → Option Int
  | .str z => if z.length ≤ sizeLine then some z.length else none
  | .list ds => some ds.length
  | .tuple ds => some ds.length
  | .dict [(.none, .list ds)] => some ds.length
  | .dict kds => some kds.length
  | _ => none
def dLen (x : D) : M SV := ivD ((lenD x).map .int)
def rLenA (K : Kf) : List V → Hp → VK → Prop := fun xs H Q => (∃ x n, xs = [x] ∧ LenV K x H n ∧ Q (.int n) H) ∨ ∃ a kvs, xs = [V.ref a] ∧ H a = some (.dK kvs) ∧ Q (.int kvs.length) H
theorem call_lenA : CallR X (.builtin "len") (rLenA X.K) := call_len.or call_lenD
theorem fit_len : FitsC G (rLenA G.K) (d1 dLen) := fit1 fun σ H L en x d Q R o q => by
  unfold dLen ivD at q
  cases e : lenD d with
  | none => rw [e] at q; exact q.elim
  | some n =>
    rw [e] at q
    have q' : Q (.int n) H := post_d (d := .int n) R (.int _) q
    unfold lenD at e
    split at e
    · split at e
      · rename_i h
        cases e
        exact .inl ⟨x, _, rfl, by rw [o.str]; exact ⟨h, rfl⟩, q'⟩
      · cases e
    · cases e
      obtain ⟨a, xs, rfl, h1, h2⟩ := o.list'
      exact .inl ⟨_, xs.length, rfl, .inl ⟨xs, h1, rfl⟩, by rw [h2.length]; exact q'⟩
    · cases e
      obtain ⟨a, xs, rfl, h1, h2⟩ := o.tuple
      exact .inl ⟨_, xs.length, rfl, .inr ⟨xs, h1, rfl⟩, by rw [h2.length]; exact q'⟩
    · cases e
      rcases o.dct with ⟨a, ns, rfl, e2, hs⟩ | ⟨a, kvs, ks, rfl, e2, ho, hk⟩
      · injection e2 with e2 _
        injection e2 with _ e2
        injection e2 with e2
        subst e2
        exact .inl ⟨_, (ns.map V.int).length, rfl, .inl ⟨_, hs, rfl⟩, by rw [List.length_map] at q' ⊢; exact q'⟩
      · cases ks with
        | nil => cases e2
        | cons p r =>
          injection e2 with e2 _
          injection e2 with e2 _
          cases h1 : p.1 <;> (rw [h1] at e2; exact nomatch e2)
    · rename_i kds hne
      cases e
      rcases o.dct with ⟨a, ns, rfl, e2, hs⟩ | ⟨a, kvs, ks, rfl, e2, ho, hk⟩
      · exact (hne _ (by rw [e2])).elim
      · subst e2
        rw [List.length_map] at q'
        have hl : kvs.length = ks.length := Paired.length hk
        exact .inr ⟨a, kvs, rfl, ho, by rw [hl]; exact q'⟩
    · cases e
/-- int of an int, a bool -/
def dInt : D → M SV
  | .int i => mpure (.d (.int i))
  | .bool b => mpure (.d (.int (if b then 1 else 0)))
  | _ => mstuck
theorem fit_int : FitsC G (fun xs H Q => (∃ i, xs = [.int i] ∧ Q (.int i) H) ∨ ∃ k, xs = [.bl k] ∧ Q (.int (if k then 1 else 0)) H) (d1 dInt) := fit1 fun σ H L en x d Q R o q => by
  unfold dInt at q
  split at q
  · exact .inl ⟨_, by rw [o.int], post_d R (.int _) q⟩
  · exact .inr ⟨_, by rw [o.bool], post_d R (.int _) q⟩
  · exact q.elim
/-- two ints -/
def d2I (g : Int → Int → D) : List D → M SV
  | [.int i, .int j] => mpure (.d (g i j))
  | _ => mstuck
theorem fit2I {h : Int → Int → Int} : FitsC G (fun xs H Q => ∃ i j, xs = [.int i, .int j] ∧ Q (.int (h i j)) H) (d2I fun i j => .int (h i j)) := by
  intro σ H L en vs ds Q R o q
  unfold d2I at q
  split at q
  · cases o with
    | cons h1 t =>
      cases t with
      | cons h2 t =>
        cases t
        exact ⟨_, _, by rw [h1.int, h2.int], post_d R (.int _) q⟩
  · exact q.elim
abbrev dMax2 : List D → M SV := d2I fun i j => .int (if j > i then j else i)
abbrev dMin2 : List D → M SV := d2I fun i j => .int (if j < i then j else i)
theorem fit_max2 : FitsC G (fun xs H Q => ∃ i j, xs = [.int i, .int j] ∧ Q (.int (if j > i then j else i)) H) dMax2 := fit2I
theorem fit_min2 : FitsC G (fun xs H Q => ∃ i j, xs = [.int i, .int j] ∧ Q (.int (if j < i then j else i)) H) dMin2 := fit2I
/-- list(..), tuple(..) of a list, a tuple -/
def dList : D → M SV
  | .list ds => mpure (.own (.lst ds))
  | .tuple ds => mpure (.own (.lst ds))
  | _ => mstuck
theorem fit_list : FitsC G (fun xs H Q => ∃ p ys, xs = [.ref p] ∧ (SqL G.K H p ys ∨ SqT G.K H p ys) ∧ ∀ l, H l = none → Q (.ref l) (upd H l (.lst ys))) (d1 dList) := fit1 fun σ H L en x d Q R o q => by
  unfold dList at q
  split at q
  · obtain ⟨a, xs, rfl, h1, h2⟩ := o.list'
    exact ⟨a, xs, rfl, .inl h1, fun l n => post_lst R n h2 q⟩
  · obtain ⟨a, xs, rfl, h1, h2⟩ := o.tuple
    exact ⟨a, xs, rfl, .inr h1, fun l n => post_lst R n h2 q⟩
  · exact q.elim
def dTuple : D → M SV
  | .list ds => mpure (.d (.tuple ds))
  | .tuple ds => mpure (.d (.tuple ds))
  | _ => mstuck
theorem fit_tuple : FitsC G (fun xs H Q => ∃ p ys, xs = [.ref p] ∧ ((SqL G.K H p ys ∧ ∀ l, H l = none → Q (.ref l) (upd H l (.tup ys))) ∨ (SqT G.K H p ys ∧ Q (.ref p) H))) (d1 dTuple) := fit1 fun σ H L en x d Q R o q => by
  unfold dTuple at q
  split at q
  · obtain ⟨a, xs, rfl, h1, h2⟩ := o.list'
    exact ⟨a, xs, rfl, .inl ⟨h1, fun l n => post_tup R n h2 q⟩⟩
  · obtain ⟨a, xs, rfl, h1, h2⟩ := o.tupleD
    exact ⟨a, xs, rfl, .inr ⟨sqT_mono hid_same h1, post_d R (.tup h1 h2) q⟩⟩
  · exact q.elim
/-- all, any of a list of bools -/
def bools : List D → Option (List Bool)
  | [] => some []
  | .bool b :: r => (bools r).map (b :: ·)
  | _ => none
theorem bools_v {K : Kf} {H : Hp} : ∀ {ds : List D} {vs : List V} {bs : List Bool}, DqAll K H vs ds → bools ds = some bs → vs = bs.map V.bl
  | [], _, _, .nil, e => by cases e; rfl
  | .bool b :: r, _, _, .cons h t, e => by
    simp only [bools] at e
    cases q : bools r with
    | none => rw [q] at e; cases e
    | some cs =>
      rw [q] at e
      cases e
      cases h
      rw [bools_v t q]
      rfl
  | .none :: _, _, _, _, e => nomatch e
  | .int _ :: _, _, _, _, e => nomatch e
  | .str _ :: _, _, _, _, e => nomatch e
  | .list _ :: _, _, _, _, e => nomatch e
  | .tuple _ :: _, _, _, _, e => nomatch e
  | .dict _ :: _, _, _, _, e => nomatch e
def dAll : D → M SV
  | .list ds => bvD ((bools ds).map fun bs => bs.all id)
  | _ => mstuck
def dAny : D → M SV
  | .list ds => bvD ((bools ds).map fun bs => bs.any id)
  | _ => mstuck
theorem fit_all : FitsC G (rAll G.K) (d1 dAll) := fit1 fun σ H L en x d Q R o q => by
  unfold dAll at q
  split at q
  · rename_i ds
    obtain ⟨a, xs, rfl, h1, h2⟩ := o.list'
    cases e : bools ds with
    | none => rw [e] at q; exact q.elim
    | some bs =>
      rw [e] at q
      have z := bools_v h2 e
      subst z
      exact ⟨a, bs, rfl, h1, post_d (d := .bool (bs.all id)) R (.bl _) q⟩
  · exact q.elim
theorem fit_any : FitsC G (rAny G.K) (d1 dAny) := fit1 fun σ H L en x d Q R o q => by
  unfold dAny at q
  split at q
  · rename_i ds
    obtain ⟨a, xs, rfl, h1, h2⟩ := o.list'
    cases e : bools ds with
    | none => rw [e] at q; exact q.elim
    | some bs =>
      rw [e] at q
      have z := bools_v h2 e
      subst z
      exact ⟨a, bs, rfl, h1, post_d (d := .bool (bs.any id)) R (.bl _) q⟩
  · exact q.elim
/-! ### isinstance of a built-in type -/
inductive TyN where
  | tInt | tBool | tStr | tTuple | tList
def TyN.name : TyN → String
  | .tInt => "int"
  | .tBool => "bool"
  | .tStr => "str"
  | .tTuple => "tuple"
  | .tList => "list"
def tyOf : D → Option String
  | .none => some "NoneType"
  | .bool _ => some "bool"
  | .int _ => some "int"
  | .str _ => some "str"
  | .list _ => some "list"
  | .tuple _ => some "tuple"
  | .dict _ => none
def isiD : TyN → D → Option Bool
  | _, .dict _ => none
  | .tInt, .int _ => some true
  | .tInt, .bool _ => some true
  | .tBool, .bool _ => some true
  | .tStr, .str _ => some true
  | .tTuple, .tuple _ => some true
  | .tList, .list _ => some true
  | _, _ => some false
theorem tyX_of {K : Kf} {H : Hp} {L : List Addr} {x : V} {d : D} {n : String} (o : Opd K H L x d) (e : tyOf d = some n) : TyX K H x (.type n) := by
  cases d with
  | none => cases e; rw [o.none]; exact .base .non
  | bool b => cases e; rw [o.bool]; exact .base (.bl b)
  | int i => cases e; rw [o.int]; exact .base (.int i)
  | str s => cases e; rw [o.str]; exact .base (.str s)
  | list ds =>
    cases e
    obtain ⟨a, xs, rfl, h1, _⟩ := o.list
    exact .base (.lst h1)
  | tuple ds =>
    cases e
    obtain ⟨a, xs, rfl, h1, _⟩ := o.tuple
    rcases h1 with (h | ⟨ob, h⟩) | ⟨ob, its, m, h, c, _⟩
    · exact .base (.tup h)
    · exact .fTuple h
    · exact .kTuple h c
  | dict _ => cases e
theorem isi_kit {T : TyN} {d : D} {b : Bool} (e : isiD T d = some b) : ∃ n, tyOf d = some n ∧ kitB n T.name = some b := by
  cases T <;> cases d <;> first
    | (cases e; done)
    | (cases e; exact ⟨_, rfl, by decide +kernel⟩)
def mIsi (T : TyN) (m : M SV) : M SV := mOp1 (fun x => bvD (isiD T x)) m
theorem je_isi (T : TyN) {e : Expr} {m : M SV} {p p2 pos : Pos} (hK : X.K = G.K) (he : PE X e (tE G m)) {x : Str} (hx : x = Str.ofString T.name) (hg : Gl X "isinstance") (hm : X.mg "isinstance" = none) (hg2 : Gl X x) (hm2 : X.mg x = none) (hv2 : bootBuiltins x = some (.type T.name))
    (hn : x ≠ "__name__" := by decide) (hdb : (x == ("__debug__" : Str)) = false := by decide)
    (hs : starEach [e, .Name x p2] X.env = (false, eval e X.env) :: starEach [.Name x p2] X.env := by rfl) (hs2 : starEach [.Name x p2] X.env = (false, eval (.Name x p2) X.env) :: starEach [] X.env := by rfl)
    (hpl : (backTo pos (starEach [.Name x p2] X.env)).any (·.1) = false := by rfl) :
    PE X (.Call (.Name "isinstance" p) [e, .Name x p2] [] pos) (tE G (mIsi T m)) := by
  refine (pe_callB call_isi hg hm (by decide +kernel) (pa_cons (je_frz he) (pa_cons (pe_bltn (v := .ty T.name) hg2 hm2 hv2 rfl hn hdb) pa_nil hs2) hs) (by decide) (by decide) hs hpl).imp fun σ H Q h => ?_
  refine op1_imp (r := fun x H1 Q => rIsi X.K [x, .ty T.name] H1 Q) (fun σ H L en x dx Q R o q => ?_) σ H Q h
  unfold bvD at q
  cases e1 : isiD T dx with
  | none => rw [e1] at q; exact q.elim
  | some b =>
    rw [e1] at q
    obtain ⟨n, h1, h2⟩ := isi_kit e1
    rw [hK]
    exact ⟨x, _, _, _, b, rfl, .ty _, tyX_of o h1, kit_ty h2, post_d R (.bl _) q⟩
end
end L2

namespace L2
open PySem PySem.Spec PyProof.Rows

/-! ### what a slot is given -/
section
variable {G : Gs} {H H' : Hp} {L : List Addr} {σ : St} {en : En} {v : V} {d : D} {i : Nat}
theorem RelS.store_d (R : RelS G L σ H en) (h : Dq G.K (hid H L) v d) : RelS G L (σ.set i (some v)) H (en.set i (some (.d d))) where
  own := R.own
  same := R.same
  len := by rw [List.length_set, List.length_set]; exact R.len
  slot := fun j sv e => by
    by_cases hj : j = i
    · subst hj
      by_cases hl : j < en.length
      · rw [List.getElem?_set_self hl] at e
        cases e
        refine ⟨v, ?_, h⟩
        rw [List.getElem?_set_self (by rw [R.len]; exact hl)]
      · rw [List.getElem?_eq_none (by rw [List.length_set]; omega)] at e
        cases e
    · rw [List.getElem?_set_ne (Ne.symm hj)] at e
      rw [List.getElem?_set_ne (Ne.symm hj)]
      exact R.slot j sv e
  apart := fun j k b c a hjk ej ek sj sk => by
    have key : ∀ (j : Nat) (b : OB), (en.set i (some (.d d)))[j]? = some (some (SV.own b)) → j ≠ i ∧ en[j]? = some (some (SV.own b)) := fun j b q => by
      by_cases hj : j = i
      · subst hj
        by_cases hl : j < en.length
        · rw [List.getElem?_set_self hl] at q
          cases q
        · rw [List.getElem?_eq_none (by rw [List.length_set]; omega)] at q
          cases q
      · rw [List.getElem?_set_ne (Ne.symm hj)] at q
        exact ⟨hj, q⟩
    obtain ⟨n1, e1⟩ := key _ _ ej
    obtain ⟨n2, e2⟩ := key _ _ ek
    rw [List.getElem?_set_ne (Ne.symm n1)] at sj
    rw [List.getElem?_set_ne (Ne.symm n2)] at sk
    exact R.apart j k b c a hjk e1 e2 sj sk
  base := fun b m => by
    obtain ⟨h1, h2, h3⟩ := R.base b m
    refine ⟨h1, h2, fun j c q => ?_⟩
    by_cases hj : j = i
    · subst hj
      by_cases hl : j < en.length
      · rw [List.getElem?_set_self hl] at q
        cases q
      · rw [List.getElem?_eq_none (by rw [List.length_set]; omega)] at q
        cases q
    · rw [List.getElem?_set_ne (Ne.symm hj)] at q
      rw [List.getElem?_set_ne (Ne.symm hj)]
      exact h3 j c q
theorem RelS.store_own {a : Addr} {o : HO} {b : OB} (R : RelS G L σ H en) (m : a ∈ L) (nb : a ∉ G.B) (ho : H a = some o) (h : ObR G.K (hid H L) o b) (n : ∀ (i : Nat) (c : OB), en[i]? = some (some (SV.own c)) → σ[i]? ≠ some (some (V.ref a))) :
    RelS G L (σ.set i (some (.ref a))) H (en.set i (some (.own b))) where
  own := R.own
  same := R.same
  len := by rw [List.length_set, List.length_set]; exact R.len
  slot := fun j sv e => by
    by_cases hj : j = i
    · subst hj
      by_cases hl : j < en.length
      · rw [List.getElem?_set_self hl] at e
        cases e
        refine ⟨a, o, ?_, m, ho, h⟩
        rw [List.getElem?_set_self (by rw [R.len]; exact hl)]
      · rw [List.getElem?_eq_none (by rw [List.length_set]; omega)] at e
        cases e
    · rw [List.getElem?_set_ne (Ne.symm hj)] at e
      rw [List.getElem?_set_ne (Ne.symm hj)]
      exact R.slot j sv e
  apart := fun j k b1 c a1 hjk ej ek sj sk => by
    have key : ∀ (j : Nat) (c : OB), (en.set i (some (.own b)))[j]? = some (some (SV.own c)) → (j = i ∧ j < en.length) ∨ (j ≠ i ∧ en[j]? = some (some (SV.own c))) := fun j c q => by
      by_cases hj : j = i
      · subst hj
        by_cases hl : j < en.length
        · exact .inl ⟨rfl, hl⟩
        · rw [List.getElem?_eq_none (by rw [List.length_set]; omega)] at q
          cases q
      · rw [List.getElem?_set_ne (Ne.symm hj)] at q
        exact .inr ⟨hj, q⟩
    rcases key _ _ ej with ⟨rfl, l1⟩ | ⟨n1, e1⟩
    · rw [List.getElem?_set_self (by rw [R.len]; exact l1)] at sj
      cases sj
      rcases key _ _ ek with ⟨e, _⟩ | ⟨n2, e2⟩
      · exact hjk e.symm
      · rw [List.getElem?_set_ne (Ne.symm n2)] at sk
        exact n k c e2 sk
    · rw [List.getElem?_set_ne (Ne.symm n1)] at sj
      rcases key _ _ ek with ⟨rfl, l2⟩ | ⟨n2, e2⟩
      · rw [List.getElem?_set_self (by rw [R.len]; exact l2)] at sk
        cases sk
        exact n j b1 e1 sj
      · rw [List.getElem?_set_ne (Ne.symm n2)] at sk
        exact R.apart j k b1 c a1 hjk e1 e2 sj sk
  base := fun c m => by
    obtain ⟨h1, h2, h3⟩ := R.base c m
    refine ⟨h1, h2, fun j u q => ?_⟩
    by_cases hj : j = i
    · subst hj
      by_cases hl : j < en.length
      · rw [List.getElem?_set_self (by rw [R.len]; exact hl)]
        exact fun z => nb (by cases z; exact m)
      · rw [List.getElem?_eq_none (by rw [List.length_set]; omega)] at q
        cases q
    · rw [List.getElem?_set_ne (Ne.symm hj)] at q
      rw [List.getElem?_set_ne (Ne.symm hj)]
      exact h3 j u q
/-- nothing is told of a slot any more -/
theorem RelS.forget (R : RelS G L σ H en) {w : Option V} : RelS G L (σ.set i w) H (en.set i none) where
  own := R.own
  same := R.same
  len := by rw [List.length_set, List.length_set]; exact R.len
  slot := fun j sv e => by
    by_cases hj : j = i
    · subst hj
      by_cases hl : j < en.length
      · rw [List.getElem?_set_self hl] at e
        cases e
      · rw [List.getElem?_eq_none (by rw [List.length_set]; omega)] at e
        cases e
    · rw [List.getElem?_set_ne (Ne.symm hj)] at e
      rw [List.getElem?_set_ne (Ne.symm hj)]
      exact R.slot j sv e
  apart := fun j k b c a hjk ej ek sj sk => by
    have key : ∀ (j : Nat) (b : OB), (en.set i none)[j]? = some (some (SV.own b)) → j ≠ i ∧ en[j]? = some (some (SV.own b)) := fun j b q => by
      by_cases hj : j = i
      · subst hj
        by_cases hl : j < en.length
        · rw [List.getElem?_set_self hl] at q
          cases q
        · rw [List.getElem?_eq_none (by rw [List.length_set]; omega)] at q
          cases q
      · rw [List.getElem?_set_ne (Ne.symm hj)] at q
        exact ⟨hj, q⟩
    obtain ⟨n1, e1⟩ := key _ _ ej
    obtain ⟨n2, e2⟩ := key _ _ ek
    rw [List.getElem?_set_ne (Ne.symm n1)] at sj
    rw [List.getElem?_set_ne (Ne.symm n2)] at sk
    exact R.apart j k b c a hjk e1 e2 sj sk
  base := fun b m => by
    obtain ⟨h1, h2, h3⟩ := R.base b m
    refine ⟨h1, h2, fun j c q => ?_⟩
    by_cases hj : j = i
    · subst hj
      by_cases hl : j < en.length
      · rw [List.getElem?_set_self hl] at q
        cases q
      · rw [List.getElem?_eq_none (by rw [List.length_set]; omega)] at q
        cases q
    · rw [List.getElem?_set_ne (Ne.symm hj)] at q
      rw [List.getElem?_set_ne (Ne.symm hj)]
      exact h3 j c q
/-- a slot's own object is changed -/
theorem RelS.put {a : Addr} {o' : HO} {b b' : OB} (R : RelS G L σ H en) (e : en[i]? = some (some (SV.own b))) (e1 : σ[i]? = some (some (V.ref a))) (m : a ∈ L) (h : ObR G.K (hid H L) o' b') :
    RelS G L σ (upd H a o') (en.set i (some (.own b'))) where
  own := fun c mc => by
    by_cases hc : c = a
    · subst hc
      rw [upd_same]
      rcases h.owns with ⟨xs, rfl⟩ | ⟨kvs, rfl⟩
      · exact .inl ⟨xs, rfl⟩
      · exact .inr ⟨kvs, rfl⟩
    · rw [upd_ne hc]
      exact R.own c mc
  same := by rw [hid_upd m]; exact R.same
  len := by rw [List.length_set]; exact R.len
  slot := fun j sv ej => by
    by_cases hj : j = i
    · subst hj
      rw [List.getElem?_set_self (List.getElem?_eq_some_iff.mp e).1] at ej
      cases ej
      exact ⟨a, o', e1, m, upd_same, by rw [hid_upd m]; exact h⟩
    · rw [List.getElem?_set_ne (Ne.symm hj)] at ej
      have z := R.slot j sv ej
      cases sv with
      | d dd => obtain ⟨v, q1, q2⟩ := z; exact ⟨v, q1, by rw [hid_upd m]; exact q2⟩
      | own c =>
        obtain ⟨a2, u, q1, m2, q2, q3⟩ := z
        have hne : a2 ≠ a := fun z => by
          subst z
          exact R.apart j i _ _ _ hj ej e q1 e1
        exact ⟨a2, u, q1, m2, by rw [upd_ne hne]; exact q2, by rw [hid_upd m]; exact q3⟩
      | bor _ => exact z
  apart := fun j k b1 c a1 hjk ej ek => by
    have key : ∀ (j : Nat) (c : OB), (en.set i (some (.own b')))[j]? = some (some (SV.own c)) → ∃ c', en[j]? = some (some (SV.own c')) := fun j c q => by
      by_cases hj : j = i
      · subst hj
        exact ⟨b, e⟩
      · rw [List.getElem?_set_ne (Ne.symm hj)] at q
        exact ⟨c, q⟩
    obtain ⟨b2, e2⟩ := key _ _ ej
    obtain ⟨c2, e3⟩ := key _ _ ek
    exact R.apart j k b2 c2 a1 hjk e2 e3
  base := fun c mc => by
    obtain ⟨h1, h2, h3⟩ := R.base c mc
    have hc : c ≠ a := fun z => h3 i _ e (by rw [z]; exact e1)
    refine ⟨h1, by rw [upd_ne hc]; exact h2, fun j u q => ?_⟩
    by_cases hj : j = i
    · subst hj
      exact h3 j _ e
    · rw [List.getElem?_set_ne (Ne.symm hj)] at q
      exact h3 j u q
theorem RV.at_own {b : OB} {a : Addr} {o : HO} (R : RelS G L σ H en) (e : en[i]? = some (some (SV.own b))) (e1 : σ[i]? = some (some (V.ref a))) : a ∈ L ∧ ∃ o, H a = some o ∧ ObR G.K (hid H L) o b := by
  obtain ⟨c, u, q1, m, q2, q3⟩ := R.slot i _ e
  rw [e1] at q1
  cases q1
  exact ⟨m, u, q2, q3⟩
end

/-! ### statements -/
def mSeq (m n : M Ct) : M Ct := mbind m fun c => match c with
  | .nx => n
  | c => mpure c
def mNx : M Ct := mpure .nx
/-- a value goes into slot i -/
def mSet (i : Nat) (m : M SV) : M Ct := mbind m fun sv => match sv with
  | .d d => fun en => .ok .nx (en.set i (some (.d d)))
  | .own o => fun en => .ok .nx (en.set i (some (.own o)))
  | .bor _ => mstuck
def mRet (m : M SV) : M Ct := mbind m fun sv => mpure (.rt sv)
def mIfS (t : M Bool) (m n : M Ct) : M Ct := mbind t fun b => if b then m else n
section
variable {X : Cx} {G : Gs} {st : Stmt} {rest : List Stmt} {e : Expr} {m n : M Ct} {me : M SV} {pos : Pos} {H : Hp} {L : List Addr} {σ : St} {en : En} {E : Ends} {wr w1 w2 : List Nat}
theorem js_nil : PSs X [] (tS G [] mNx) := pss_nil.imp fun E σ H h => by
  obtain ⟨en, L, R, q⟩ := h
  exact q σ H L R (Same.refl _) Keeps.refl
theorem js_less {w1 w2 : List Nat} (h : PSs X rest (tS G w1 m)) (l : ∀ j ∈ w1, j ∈ w2) : PSs X rest (tS G w2 m) := h.imp fun E σ H h => by
  obtain ⟨en, L, R, q⟩ := h
  exact ⟨en, L, R, q.less l⟩
theorem seq_imp (E : Ends) (σ : St) (H : Hp) (h : tS G (w1 ++ w2) (mSeq m n) E σ H) : tSeq (tS G w1 m) (tS G w2 n) E σ H := by
  obtain ⟨en, L, R, q⟩ := h
  refine ⟨en, L, R, ?_⟩
  unfold mSeq mbind at q
  cases e : m en with
  | stuck => rw [e] at q; exact q
  | exc x en' => rw [e] at q; exact PostX.imp q fun σ' k => k.mono fun j z => List.mem_append_left _ z
  | ok c en' =>
    rw [e] at q
    cases c with
    | nx => exact fun σ1 H1 L1 R1 s1 k1 => ⟨en', L1, R1, q.from s1 k1⟩
    | rt sv => exact q
    | bk => exact fun σ1 H1 L1 R1 s1 k1 => q σ1 H1 L1 R1 s1 (k1.mono fun j z => List.mem_append_left _ z)
    | ct => exact fun σ1 H1 L1 R1 s1 k1 => q σ1 H1 L1 R1 s1 (k1.mono fun j z => List.mem_append_left _ z)
theorem js_cons (h1 : PS X st (tS G w1 m)) (h2 : PSs X rest (tS G w2 n)) : PSs X (st :: rest) (tS G (w1 ++ w2) (mSeq m n)) := (pss_cons h1 h2).imp seq_imp
theorem js_one (h1 : PS X st (tS G wr m)) : PSs X [st] (tS G wr m) := pss_one h1
/-- an expression, then an end -/
theorem seqES {f : SV → M Ct} (R : RelS G L σ H en) (q : PostS G wr σ H L (mbind me f en) E) :
    tE G me σ H fun x H1 => ∃ en1 L1 sv, RelS G L1 σ H1 en1 ∧ Same (hid H L) (hid H1 L1) ∧ RV G L1 σ H1 en1 x sv ∧ PostS G wr σ H1 L1 (f sv en1) E := by
  refine ⟨en, L, R, ?_⟩
  unfold mbind at q
  cases e : me en with
  | ok sv en' =>
    rw [e] at q
    exact fun v H' L' a b c => ⟨en', L', sv, a, b, c, q.from0 b⟩
  | exc x en' =>
    rw [e] at q
    exact PostX.at q
  | stuck =>
    rw [e] at q
    exact q
theorem seqTS {t : M Bool} {f : Bool → M Ct} (R : RelS G L σ H en) (q : PostS G wr σ H L (mbind t f en) E) :
    tT G t σ H fun x H1 => ∃ en1 L1, RelS G L1 σ H1 en1 ∧ Same (hid H L) (hid H1 L1) ∧ PostS G wr σ H1 L1 (f x en1) E := by
  refine ⟨en, L, R, ?_⟩
  unfold mbind at q
  cases e : t en with
  | ok sv en' =>
    rw [e] at q
    exact fun H' L' a b => ⟨en', L', a, b, q.from0 b⟩
  | exc x en' =>
    rw [e] at q
    exact PostX.at q
  | stuck =>
    rw [e] at q
    exact q
/-- what a target does with a value -/
theorem set_imp {i : Nat} (E : Ends) (σ : St) (H : Hp) (h : tS G [i] (mSet i me) E σ H) : tAsg (tE G me) (gName i) E σ H := by
  obtain ⟨en, L, R, q⟩ := h
  refine (seqES R q).mono fun v H1 ⟨en1, L1, sv, R1, s1, r1, q1⟩ => ?_
  cases sv with
  | d d => exact q1 _ H1 L1 (R1.store_d r1) (Same.refl _) Keeps.set
  | own o =>
    obtain ⟨a, ho, rfl, m, nb, h1, h2, h3⟩ := r1
    exact q1 _ H1 L1 (R1.store_own m nb h1 h2 h3) (Same.refl _) Keeps.set
  | bor _ => exact q1.elim
theorem js_set (i : Nat) {x : Str} {pos' : Pos} (hN : X.N.Nodup) (hi : X.N[i]? = some x) (hx : Loc X.env.scope x) (he : PE X e (tE G me)) (hs : swapsWith e (some (.Name x pos')) pos.line X.env = pure false := by rfl) (hf : X.fn x = true ∨ X.env.scope.names.lookup x = some .local := by first | exact .inl rfl | exact .inr rfl | assumption) :
    PS X (.Assign [.Name x pos'] e pos) (tS G [i] (mSet i me)) := (ps_set hN hi hx he hs hf).imp set_imp
theorem js_ret (he : PE X e (tE G me)) : PS X (.Return (some e) pos) (tS G [] (mRet me)) := (ps_ret he).imp fun E σ H h => by
  obtain ⟨en, L, R, q⟩ := h
  exact (seqES R q).mono fun v H1 ⟨en1, L1, sv, R1, s1, r1, q1⟩ => q1 v σ H1 L1 R1 (Same.refl _) r1
theorem js_if {c : Expr} {a b : List Stmt} {t : M Bool} (hc : PT X c (tT G t)) (ha : PSs X a (tS G w1 m)) (hb : PSs X b (tS G w2 n)) : PS X (.If c a b pos) (tS G (w1 ++ w2) (mIfS t m n)) := (ps_if hc ha hb).imp fun E σ H h => by
  obtain ⟨en, L, R, q⟩ := h
  refine (seqTS R q).mono fun b H1 ⟨en1, L1, R1, s1, q1⟩ => ?_
  cases b with
  | true => exact ⟨en1, L1, R1, q1.less fun j z => List.mem_append_left _ z⟩
  | false => exact ⟨en1, L1, R1, q1.less fun j z => List.mem_append_right _ z⟩
theorem js_pass : PS X (.Pass pos) (tS G [] mNx) := ps_pass.imp fun E σ H h => by
  obtain ⟨en, L, R, q⟩ := h
  exact q σ H L R (Same.refl _) Keeps.refl
theorem js_break : PS X (.Break pos) (tS G [] (mpure .bk)) := ps_break.imp fun E σ H h => by
  obtain ⟨en, L, R, q⟩ := h
  exact q σ H L R (Same.refl _) Keeps.refl
theorem js_continue : PS X (.Continue pos) (tS G [] (mpure .ct)) := ps_continue.imp fun E σ H h => by
  obtain ⟨en, L, R, q⟩ := h
  exact q σ H L R (Same.refl _) Keeps.refl
/-! ### a list's methods, at a slot's own list -/
/-- slot i's own list is changed by f, out of the argument -/
def mMut (i : Nat) (f : List D → D → Option (List D)) (me : M SV) : M Ct := fun en => match en[i]? with
  | some (some (.own (.lst _))) => mbind (mkeep me) (fun sv en => match sv, en[i]? with
    | .d d, some (some (.own (.lst ds))) => (match f ds d with
      | some es => .ok .nx (en.set i (some (.own (.lst es))))
      | none => .stuck)
    | _, _ => .stuck) en
  | _ => .stuck
theorem slot_lst {i : Nat} {ds : List D} (R : RelS G L σ H en) (e : en[i]? = some (some (SV.own (.lst ds)))) : ∃ (a : Addr) (xs : List V), σ[i]? = some (some (V.ref a)) ∧ a ∈ L ∧ H a = some (.lst xs) ∧ DqAll G.K (hid H L) xs ds := by
  obtain ⟨a, o, e1, m, ho, hr⟩ := R.slot i _ e
  cases o with
  | lst xs => exact ⟨a, xs, e1, m, ho, hr⟩
  | _ => exact hr.elim
theorem js_mut {i : Nat} {f : List D → D → Option (List D)} {r : V → List V → Hp → VK → Prop} {t : Expr}
    (hp : PE X t (tBM X.K "list" r (tVar i) (tCons (tE G (mkeep me)) tNil))) (hs : swapsWith t none pos.line X.env = pure false)
    (k : ∀ (H : Hp) (L : List Addr) (a : Addr) (xs : List V) (ds es : List D) (y : V) (d : D) (Q : VK), a ∈ L → Owns H L → H a = some (.lst xs) → DqAll G.K (hid H L) xs ds → Dq G.K (hid H L) y d → f ds d = some es →
      (∀ v ys, DqAll G.K (hid H L) ys es → Q v (upd H a (.lst ys))) → r (.ref a) [y] H Q) : PS X (.Expr t pos) (tS G [] (mMut i f me)) := (ps_expr hp hs).imp fun E σ H h => by
  obtain ⟨en, L, R, q⟩ := h
  unfold mMut at q
  split at q
  · rename_i ds0 e0
    obtain ⟨a, xs0, e1, m0, ho0, hr0⟩ := slot_lst R e0
    refine ⟨.ref a, e1, .inl ⟨rfl, xs0, .of ho0⟩, ?_⟩
    refine (seqES R q).mono fun y H1 ⟨en1, L1, sv, R1, s1, r1, q1⟩ => ?_
    split at q1
    · rename_i d ds e2
      obtain ⟨a', xs, e3, m, ho, hr⟩ := slot_lst R1 e2
      rw [e1] at e3
      cases e3
      cases hf : f ds d with
      | none => rw [hf] at q1; exact q1.elim
      | some es =>
        rw [hf] at q1
        refine k H1 L1 a xs ds es y d _ m R1.own ho hr r1 hf fun v ys hq => ?_
        exact q1 σ (upd H1 a (.lst ys)) L1 (R1.put e2 e1 m hq) (by rw [hid_upd m]; exact Same.refl _) Keeps.refl
    · exact q1.elim
  · exact q.elim
def fAppend : List D → D → Option (List D) := fun ds d => if ds.length < sizeLine then some (ds ++ [d]) else none
def fExtend : List D → D → Option (List D) := fun ds d => match d with
  | .list es => if ds.length + es.length ≤ sizeLine then some (ds ++ es) else none
  | _ => none
def mAppend (i : Nat) (me : M SV) : M Ct := mMut i fAppend me
def mExtend (i : Nat) (me : M SV) : M Ct := mMut i fExtend me
theorem js_append (i : Nat) {x : Str} {p apos cpos : Pos} (hK : X.K = G.K) (hN : X.N[i]? = some x) (hv : Vis X.env.scope x) (he : PE X e (tE G me)) (hd : (x == ("__debug__" : Str)) = false := by decide) (hcd : (x == ("__classdict__" : Str)) = false := by decide)
    (hbase : attributeBase (.Name x p) "append" X.env (eval (.Name x p) X.env) = eval (.Name x p) X.env := by rfl)
    (hfew : ((backTo cpos (starEach [e] X.env)).all (fun x => !x.1) && (backToKw cpos (keywordEach [] X.env)).all (fun x => x.1.isSome) && decide (([e] : List Expr).length + ([] : List Keyword).length + (if ([] : List Keyword).isEmpty then 0 else 1) < 30)) = true := by rfl)
    (hline : (apos.endLine == cpos.line) = true := by rfl) (hse : starEach [e] X.env = (false, eval e X.env) :: starEach [] X.env := by rfl)
    (hs : swapsWith (.Call (.Attribute (.Name x p) "append" apos) [e] [] cpos) none pos.line X.env = pure false := by rfl) :
    PS X (.Expr (.Call (.Attribute (.Name x p) "append" apos) [e] [] cpos) pos) (tS G [] (mAppend i me)) :=
  js_mut (pe_bm PySem.F.plainAttrs_list PySem.F.slot_list_append PySem.F.type_list_append mt_append (pe_var hN hv hd hcd) (pa_cons (je_keep he) pa_nil hse) hbase hfew hline hse) hs
    fun H L a xs ds es y d Q m w ho hr hy hf q => by
      unfold fAppend at hf
      split at hf
      · rename_i hl
        cases hf
        exact ⟨a, xs, y, rfl, rfl, ho, by rw [hr.length]; exact hl, q _ _ (hr.append (.cons hy .nil))⟩
      · cases hf
theorem js_extend (i : Nat) {x : Str} {p apos cpos : Pos} (hK : X.K = G.K) (hN : X.N[i]? = some x) (hv : Vis X.env.scope x) (he : PE X e (tE G me)) (hd : (x == ("__debug__" : Str)) = false := by decide) (hcd : (x == ("__classdict__" : Str)) = false := by decide)
    (hbase : attributeBase (.Name x p) "extend" X.env (eval (.Name x p) X.env) = eval (.Name x p) X.env := by rfl)
    (hfew : ((backTo cpos (starEach [e] X.env)).all (fun x => !x.1) && (backToKw cpos (keywordEach [] X.env)).all (fun x => x.1.isSome) && decide (([e] : List Expr).length + ([] : List Keyword).length + (if ([] : List Keyword).isEmpty then 0 else 1) < 30)) = true := by rfl)
    (hline : (apos.endLine == cpos.line) = true := by rfl) (hse : starEach [e] X.env = (false, eval e X.env) :: starEach [] X.env := by rfl)
    (hs : swapsWith (.Call (.Attribute (.Name x p) "extend" apos) [e] [] cpos) none pos.line X.env = pure false := by rfl) :
    PS X (.Expr (.Call (.Attribute (.Name x p) "extend" apos) [e] [] cpos) pos) (tS G [] (mExtend i me)) :=
  js_mut (pe_bm PySem.F.plainAttrs_list PySem.F.slot_list_extend PySem.F.type_list_extend mt_extend (pe_var hN hv hd hcd) (pa_cons (je_keep he) pa_nil hse) hbase hfew hline hse) hs
    fun H L a xs ds es y d Q m w ho hr hy hf q => by
      unfold fExtend at hf
      split at hf
      · rename_i es0
        split at hf
        · rename_i hl
          cases hf
          cases hy with
          | lst hs ha => exact ⟨a, _, xs, _, rfl, rfl, ho, hid_same _ _ hs, by rw [hr.length, ha.length]; exact hl, q _ _ (hr.append ha)⟩
        · cases hf
      · cases hf
/-- xs.pop() -/
def mPop (i : Nat) : M SV := fun en => match en[i]? with
  | some (some (.own (.lst ds))) => (match ds[ds.length - 1]? with
    | some d => .ok (.d d) (en.set i (some (.own (.lst ds.dropLast))))
    | none => .stuck)
  | _ => .stuck
theorem je_pop (i : Nat) {x : Str} {p apos cpos : Pos} (hN : X.N[i]? = some x) (hv : Vis X.env.scope x) (hd : (x == ("__debug__" : Str)) = false := by decide) (hcd : (x == ("__classdict__" : Str)) = false := by decide)
    (hbase : attributeBase (.Name x p) "pop" X.env (eval (.Name x p) X.env) = eval (.Name x p) X.env := by rfl) (hline : (apos.endLine == cpos.line) = true := by rfl) :
    PE X (.Call (.Attribute (.Name x p) "pop" apos) [] [] cpos) (tE G (mPop i)) :=
  (pe_bm0 PySem.F.plainAttrs_list PySem.F.slot_list_pop PySem.F.type_list_pop mt_pop (pe_var hN hv hd hcd) hbase hline).imp fun σ H Q h => by
    obtain ⟨en, L, R, q⟩ := h
    unfold mPop at q
    split at q
    · rename_i ds e0
      obtain ⟨a, xs, e1, m, ho, hr⟩ := slot_lst R e0
      split at q
      · rename_i d hd
        obtain ⟨v, e2, hv⟩ := hr.get hd
        refine ⟨.ref a, e1, .inl ⟨rfl, xs, .of ho⟩, a, xs, v, rfl, rfl, ho, by rw [hr.length]; exact e2, ?_⟩
        exact q v _ L (R.put e0 e1 m (b' := .lst ds.dropLast) (o' := .lst xs.dropLast) hr.dropLast) (by rw [hid_upd m]; exact Same.refl _) (by rw [show RV G L σ (upd H a (.lst xs.dropLast)) (en.set i (some (.own (.lst ds.dropLast)))) v (.d d) = Dq G.K (hid (upd H a (.lst xs.dropLast)) L) v d from rfl, hid_upd m]; exact hv)
      · exact q.elim
    · exact q.elim
end
end L2

namespace L2
open PySem PySem.Spec PyProof.Rows

theorem nil_sub {L : List Addr} : ∀ a ∈ ([] : List Addr), a ∈ L := fun a m => by cases m
/-! ### all slots' objects are let be seen -/
def frzSV : Option SV → Option SV
  | some (.own (.lst ds)) => some (.d (.list ds))
  | some (.own (.dct _)) => none
  | x => x
def frzAll (en : En) : En := en.map frzSV
section
variable {G : Gs} {H H' : Hp} {L : List Addr} {σ : St} {en : En}
theorem RelS.sub (R : RelS G L σ H en) : ∀ a ∈ G.B, a ∈ L := fun a m => (R.base a m).1
theorem frz_no {i : Nat} {c : OB} (h : (frzAll en)[i]? = some (some (SV.own c))) : False := by
  unfold frzAll at h
  rw [List.getElem?_map] at h
  cases q : en[i]? with
  | none => rw [q] at h; cases h
  | some o =>
    rw [q] at h
    cases o with
    | none => cases h
    | some s => cases s with
      | d d => cases h
      | bor _ => cases h
      | own b => cases b <;> cases h
theorem RelS.frzAll (R : RelS G L σ H en) : RelS G G.B σ H (L2.frzAll en) where
  own := fun a m => R.own a (R.sub a m)
  same := R.same.trans (hid_less R.sub)
  len := by unfold L2.frzAll; rw [List.length_map]; exact R.len
  slot := fun i sv e => by
    unfold L2.frzAll at e
    rw [List.getElem?_map] at e
    cases q : en[i]? with
    | none => rw [q] at e; cases e
    | some o =>
      rw [q] at e
      cases o with
      | none => cases e
      | some s =>
        have z := R.slot i s q
        cases s with
        | d d =>
          cases e
          obtain ⟨v, e1, h⟩ := z
          exact ⟨v, e1, Dq.mono (hid_less R.sub) _ h⟩
        | bor _ => cases e; exact z
        | own b =>
          cases b with
          | dct _ => cases e
          | lst ds =>
            cases e
            obtain ⟨a, o, e1, m, ho, hr⟩ := z
            cases o with
            | lst xs =>
              refine ⟨_, e1, .lst ?_ (DqAll.mono (hid_less R.sub) _ hr)⟩
              rw [hid_out fun z => (R.base a z).2.2 i _ q e1]
              exact ho
            | _ => exact hr.elim
  apart := fun i j b c a _ ei _ => (frz_no ei).elim
  base := fun b m => ⟨m, (R.base b m).2.1, fun i c e => (frz_no e).elim⟩
/-- a new object of a callee's is owned -/
theorem RelS.got (R : RelS G L σ H en) (s : Same H H') {a : Addr} {o : HO} (n : H a = none) (ho : H' a = some o) (w : (∃ xs, o = .lst xs) ∨ ∃ kvs, o = .dK kvs) : RelS G (a :: L) σ H' en ∧ Same (hid H L) (hid H' (a :: L)) := by
  have k : Same (hid H L) (hid H' (a :: L)) := fun b u e => by
    obtain ⟨m, e⟩ := hid_some e
    have hb : b ≠ a := ne_of_none e n
    rw [hid_out (by simp [hb, m])]
    exact s _ _ e
  refine ⟨⟨fun b m => ?_, R.same.trans k, R.len, fun i sv e => ?_, R.apart, fun b m => ?_⟩, k⟩
  · rcases List.mem_cons.mp m with rfl | m
    · rcases w with ⟨xs, rfl⟩ | ⟨kvs, rfl⟩
      · exact .inl ⟨xs, ho⟩
      · exact .inr ⟨kvs, ho⟩
    · exact (R.grow s).own b m
  · have q := R.slot i sv e
    cases sv with
    | d dd => obtain ⟨v, e1, h⟩ := q; exact ⟨v, e1, Dq.mono k _ h⟩
    | own b => obtain ⟨c, u, e1, m, hc, h⟩ := q; exact ⟨c, u, e1, List.mem_cons_of_mem _ m, s _ _ hc, h.mono k⟩
    | bor _ => exact q
  · obtain ⟨h1, h2, h3⟩ := (R.grow s).base b m
    exact ⟨List.mem_cons_of_mem _ h1, h2, h3⟩
end
/-! ### what a def gives back -/
abbrev Fm := List D → Rs SV
def flatO : OB → Bool
  | .lst ds => flats ds
  | .dct kvs => kvs.all fun p => flat p.2
def RetR (K : Kf) (B : List Addr) (H H' : Hp) (v : V) : SV → Prop
  | .d d => Dq K (hid H' B) v d
  | .own b => ∃ a o, v = .ref a ∧ H a = none ∧ H' a = some o ∧ ObR K (hid H' (a :: B)) o b
  | .bor _ => False
def spF (K : Kf) (mg : Str → Option Value) (n : Nat) (F : Fm) : Sp := fun vs H Q E => vs.length = n ∧ ∃ (B : List Addr) (ds : List D), Owns H B ∧ DqAll K (hid H B) vs ds ∧ match F ds with
  | .ok sv _ => ∀ v H', Same H H' → RetR K B H H' v sv → Q v H'
  | .exc x _ => ∀ cls d H', Same H H' → XR K mg x cls d (hid H' B) → E cls d H'
  | .stuck => False
def lookA (en : En) : SV → Option D
  | .d d => some d
  | .own _ => none
  | .bor i => match en[i]? with
    | some (some (.own (.lst ds))) => some (.list ds)
    | some (some (.own (.dct kds))) => if (kds.all fun p => isAt p.2) = true then some (dctD kds) else none
    | _ => none
def looksA (en : En) : List SV → Option (List D)
  | [] => some []
  | s :: r => match lookA en s, looksA en r with
    | some d, some ds => some (d :: ds)
    | _, _ => none
theorem RV.dq {G : Gs} {H : Hp} {L : List Addr} {σ : St} {en : En} {v : V} {sv : SV} {d : D} (R : RelS G L σ H en) (r : RV G L σ H en v sv) (e : lookA en sv = some d) : Dq G.K (hid H G.B) v d := by
  cases sv with
  | d dd => cases e; exact Dq.mono (hid_less R.sub) _ r
  | own _ => cases e
  | bor i =>
    obtain ⟨e1, b, e2⟩ := r
    unfold lookA at e
    simp only [e2] at e
    cases b with
    | dct kds =>
      dsimp only at e
      split at e
      · rename_i hf
        cases e
        have z := R.slot i _ e2
        obtain ⟨a, o, e3, m, ho, hr⟩ := z
        rw [e1] at e3
        cases e3
        cases o with
        | dK kvs =>
          refine .dct ?_ (KD.ka hr hf)
          rw [hid_out fun z => (R.base a z).2.2 i _ e2 e1]
          exact ho
        | _ => exact hr.elim
      · cases e
    | lst ds =>
      cases e
      obtain ⟨a, xs, e3, m, ho, hr⟩ := slot_lst R e2
      rw [e1] at e3
      cases e3
      refine .lst ?_ (DqAll.mono (hid_less R.sub) _ hr)
      rw [hid_out fun z => (R.base a z).2.2 i _ e2 e1]
      exact ho
theorem RVs.dq {G : Gs} {H : Hp} {L : List Addr} {σ : St} {en : En} (R : RelS G L σ H en) : ∀ {vs : List V} {svs : List SV} {ds : List D}, RVs G L σ H en vs svs → looksA en svs = some ds → DqAll G.K (hid H G.B) vs ds
  | _, _, _, .nil, e => by cases e; exact .nil
  | _, _, _, .cons h t, e => by
    unfold looksA at e
    split at e
    · rename_i d ds e1 e2
      cases e
      exact .cons (RV.dq R h.1 e1) (RVs.dq R t e2)
    · cases e
theorem looksA_len {en : En} : ∀ {svs : List SV} {ds : List D}, looksA en svs = some ds → svs.length = ds.length
  | [], _, e => by cases e; rfl
  | s :: r, _, e => by
    unfold looksA at e
    split at e
    · rename_i d ds e1 e2
      cases e
      exact congrArg (· + 1) (looksA_len e2)
    · cases e
def mCall (F : Fm) (mas : M (List SV)) : M SV := mbind mas fun svs en => match looksA en svs with
  | some ds => (match F ds with
    | .ok (.d d) _ => if flat d then .ok (.d d) en else .ok (.d d) (frzAll en)
    | .ok (.own o) _ => if flatO o then .ok (.own o) en else .ok (.own o) (frzAll en)
    | .ok (.bor _) _ => .stuck
    | .exc x _ => .exc x (frzAll en)
    | .stuck => .stuck)
  | none => .stuck
theorem ObR.flat_hid {K : Kf} {H : Hp} {L : List Addr} (w : Owns H L) {o : HO} {b : OB} (f : flatO b = true) (h : ObR K H o b) : ObR K (hid H L) o b := by
  cases o with
  | lst xs => cases b with
    | lst ds => exact DqAll.flat_hid w _ f h
    | dct _ => exact h.elim
  | dK kvs => cases b with
    | lst ds => exact h.elim
    | dct ks =>
      have go : ∀ {a : List (Key × V)} {c : List (Key × D)}, KD K H a c → (c.all fun p => flat p.2) = true → KD K (hid H L) a c := by
        intro a c h
        induction h with
        | nil => intro _; exact .nil
        | cons r _ ih =>
          intro f
          simp only [List.all_cons, Bool.and_eq_true] at f
          exact .cons ⟨r.1, Dq.flat_hid w _ f.1 r.2⟩ (ih f.2)
      exact go h f
  | _ => exact h.elim
section
variable {X : Cx} {G : Gs} {mas : M (List SV)} {F : Fm}
theorem call_imp {n : Nat} (hn : ∀ en svs en', mas en = .ok svs en' → svs.length = n) (σ : St) (H : Hp) (Q : VK) (h : tE G (mCall F mas) σ H Q) :
    tCallS (spF G.K G.mg n F) (WE G.W) (tA G mas) σ H Q := by
  obtain ⟨en, L, R, q⟩ := h
  refine ⟨en, L, R, ?_⟩
  unfold mCall mbind at q
  cases e0 : mas en with
  | stuck => rw [e0] at q; exact q
  | exc x en' => rw [e0] at q; exact q
  | ok svs en1 =>
    rw [e0] at q
    intro vs H1 L1 R1 s1 r1
    have hlen := hn en svs en1 e0
    have q1 := q.from s1
    dsimp only at q1
    cases e : looksA en1 svs with
    | none => rw [e] at q1; exact q1.elim
    | some ds =>
      rw [e] at q1
      dsimp only at q1
      have hd := RVs.dq R1 r1 e
      have hB : Owns H1 G.B := fun b m => R1.own b (R1.sub b m)
      refine ⟨by rw [← hlen]; exact Paired.length r1, G.B, ds, hB, hd, ?_⟩
      have lb : Same (hid H1 L1) (hid H1 G.B) := hid_less R1.sub
      cases e1 : F ds with
      | stuck => rw [e1] at q1; exact q1.elim
      | exc x en' =>
        rw [e1] at q1
        exact fun cls d H2 s2 hx => q1 cls d σ H2 G.B rfl (R1.grow s2).frzAll (lb.trans (hid_mono s2)) hx
      | ok sv en' =>
        rw [e1] at q1
        cases sv with
        | bor _ => exact q1.elim
        | d d =>
          intro v H2 s2 hr
          dsimp only at q1
          split at q1
          · rename_i hf
            exact q1 v H2 L1 (R1.grow s2) (hid_mono s2) (Dq.flat_hid (R1.grow s2).own _ hf (Dq.mono hid_same _ hr))
          · exact q1 v H2 G.B (R1.grow s2).frzAll (lb.trans (hid_mono s2)) hr
        | own o =>
          intro v H2 s2 hr
          obtain ⟨a, ho, rfl, na, ha, hob⟩ := hr
          dsimp only at q1
          split at q1
          · rename_i hf
            obtain ⟨R2, k2⟩ := R1.got s2 na ha hob.owns
            exact q1 _ H2 (a :: L1) R2 k2 ⟨a, ho, rfl, List.mem_cons_self, R1.fresh_base na, ha, ObR.flat_hid R2.own hf (hob.mono hid_same), own_out R1 (R1.fresh_out na)⟩
          · have R0 := R1.frzAll
            obtain ⟨R2, k2⟩ := R0.got s2 na ha hob.owns
            exact q1 _ H2 (a :: G.B) R2 (lb.trans k2) ⟨a, ho, rfl, List.mem_cons_self, R1.fresh_base na, ha, hob, own_out R0 (R1.fresh_base na)⟩
end
/-! ### a def by its body -/
def runF (n N : Nat) (body : M Ct) : Fm := fun ds => if ds.length = n then (match body (ds.map (fun d => some (SV.d d)) ++ List.replicate (N - n) none) with
  | .ok (.rt (.d d)) _ => .ok (.d d) []
  | .ok (.rt (.own o)) _ => .ok (.own o) []
  | .ok (.rt (.bor i)) en => (match en[i]? with
    | some (some (.own o)) => .ok (.own o) []
    | _ => .stuck)
  | .ok .nx _ => .ok (.d .none) []
  | .exc x _ => .exc x []
  | _ => .stuck) else .stuck
section
variable {P : Program} {w : World} {K : Kf} {mg : Str → Option Value} {base : Heap}
theorem start_rel {W : WX} {B : List Addr} {H : Hp} {N : List Str} {vs : List V} {ds : List D} (w : Owns H B) (h : DqAll K (hid H B) vs ds) : RelS ⟨K, mg, hid H B, W, B, H, none⟩ B (start N vs) H (ds.map (fun d => some (SV.d d)) ++ List.replicate (N.length - ds.length) none) := by
  have no : ∀ (i : Nat) (c : OB), (ds.map (fun d => some (SV.d d)) ++ List.replicate (N.length - ds.length) none)[i]? = some (some (SV.own c)) → False := fun i c ei => by
    by_cases hi : i < ds.length
    · rw [List.getElem?_append_left (by rw [List.length_map]; exact hi), List.getElem?_map] at ei
      cases q : ds[i]? with
      | none => rw [q] at ei; cases ei
      | some d => rw [q] at ei; cases ei
    · rw [List.getElem?_append_right (by rw [List.length_map]; omega)] at ei
      rw [List.getElem?_replicate] at ei
      split at ei <;> cases ei
  refine ⟨w, Same.refl _, ?_, fun i sv e => ?_, fun i j b c a _ ei _ => (no i b ei).elim, fun a m => ⟨m, rfl, fun i c e => (no i c e).elim⟩⟩
  · unfold start
    rw [List.length_append, List.length_append, List.length_map, List.length_map, List.length_replicate, List.length_replicate, h.length]
  · by_cases hi : i < ds.length
    · rw [List.getElem?_append_left (by rw [List.length_map]; exact hi), List.getElem?_map] at e
      cases q : ds[i]? with
      | none => rw [q] at e; cases e
      | some d =>
        rw [q] at e
        cases e
        obtain ⟨v, e1, e2⟩ := h.get q
        refine ⟨v, ?_, e2⟩
        unfold start
        rw [List.getElem?_append_left (by rw [List.length_map, h.length]; exact hi), List.getElem?_map, e1]
        rfl
    · rw [List.getElem?_append_right (by rw [List.length_map]; omega)] at e
      rw [List.getElem?_replicate] at e
      split at e <;> cases e
/-- what a body leaves of what was there -/
theorem RelS.kept {W : WX} {B : List Addr} {H H' : Hp} {L : List Addr} {σ : St} {en : En} (R : RelS ⟨K, mg, hid H B, W, B, H, none⟩ L σ H' en) : Same H H' := fun a o e => by
  by_cases m : a ∈ B
  · rw [(R.base a m).2.1]
    exact e
  · exact hid_same _ _ (R.same a o (show hid H B a = some o by rw [hid_out m]; exact e))
theorem okN {x qual : Str} {st : Stmt} {f : Addr} {fd : FuncData} {N ps : List Str} {k : Nat} {sp : Sp} (F : Fun K x qual st f fd) (S : FnScope N ps (defScope st)) (len : ∀ vs H Q E, sp vs H Q E → vs.length = ps.length)
    (body : ∀ (cdv : Value) (A : Around) (outer : List Env) (s : Shared) (H : Hp) (vs : List V) (Q : VK) (E : XK), Room k (A.deeper (envOfC qual (defScope st) s.heap.objs.size f cdv)) → sp vs H Q E →
      ∃ t, PSs (cxOf (L2N.CX P w) P w K mg base N qual (defScope st) f cdv A outer s H E) (defBody st) t ∧ t { nx := fun _ H' => Q .non H', rt := Q } (start N vs) H) :
    FnOk P w K mg base (L2N.CX P w) (k + 1) f fd ps sp := by
  obtain ⟨oc, od, kV, doc, pm, an, cdv, ct, osl, rfl, lk, hcd⟩ := F.ex
  exact fn_of lk hcd S len fun A outer s H vs Q E hr h => body cdv A outer s H vs Q E hr h
theorem mir_run {wr : List Nat} {N ps : List Str} {m : M Ct} {H : Hp} {vs : List V} {Q : VK} {E : XK} (h : spF K mg ps.length (runF ps.length N.length m) vs H Q E) :
    ∃ B, tS ⟨K, mg, hid H B, fun cls d _ H' => E cls d H', B, H, none⟩ wr m { nx := fun _ H' => Q .non H', rt := Q } (start N vs) H := by
  obtain ⟨hl, B, ds, hw, hd, h⟩ := h
  refine ⟨B, ?_⟩
  have hdl : ds.length = ps.length := by rw [← hd.length]; exact hl
  unfold runF at h
  rw [if_pos hdl] at h
  refine ⟨_, B, start_rel (N := N) hw hd, ?_⟩
  rw [hdl]
  cases e : m (ds.map (fun d => some (SV.d d)) ++ List.replicate (N.length - ps.length) none) with
  | stuck => rw [e] at h; exact h
  | exc x en' =>
    rw [e] at h
    exact fun cls d σ' H' L' _ R' s' hx => h cls d H' R'.kept (by
      obtain ⟨C, dd, fv, a1, a2, a3, a4, a5⟩ := hx
      exact ⟨C, dd, fv, a1, a2, a3, hid_less R'.sub _ _ a4, Paired.mapP a5 fun _ _ ⟨z1, z2⟩ => ⟨z1, Dq.mono (hid_less R'.sub) _ z2⟩⟩)
  | ok c en' =>
    rw [e] at h
    cases c with
    | nx => exact fun σ' H' L' R' s' _ => h .non H' R'.kept .non
    | bk => exact h.elim
    | ct => exact h.elim
    | rt sv =>
      intro v σ' H' L' R' s' r
      have nf : ∀ a, a ∈ L' → a ∉ B → H a = none := fun a ma nb => by
        have z := R'.free ma
        have z' : hid H B a = none := z
        rw [hid_out nb] at z'
        exact z'
      have sb : ∀ a, a ∈ L' → ∀ b ∈ a :: B, b ∈ L' := fun a ma b m => by
        rcases List.mem_cons.mp m with rfl | m
        · exact ma
        · exact R'.sub b m
      cases sv with
      | d d => exact h v H' R'.kept (Dq.mono (hid_less R'.sub) _ r)
      | own o =>
        obtain ⟨a, ho, rfl, ma, nb, ha, hob, _⟩ := r
        exact h _ H' R'.kept ⟨a, ho, rfl, nf a ma nb, ha, hob.mono (hid_less (sb a ma))⟩
      | bor i =>
        dsimp only at h
        obtain ⟨e1, b, e2⟩ := r
        simp only [e2] at h
        obtain ⟨a, o, e3, ma, ha, hob⟩ := R'.slot i _ e2
        rw [e1] at e3
        cases e3
        have nb : a ∉ B := fun z => (R'.base a z).2.2 i _ e2 e1
        exact h _ H' R'.kept ⟨a, o, rfl, nf a ma nb, ha, hob.mono (hid_less (sb a ma))⟩
theorem fn_mir {wr : List Nat} {x qual : Str} {st : Stmt} {f : Addr} {fd : FuncData} {N ps : List Str} {k : Nat} {m : M Ct} (F : Fun K x qual st f fd) (S : FnScope N ps (defScope st))
    (hbody : ∀ (cdv : Value) (A : Around) (outer : List Env) (s : Shared) (H : Hp) (E : XK) (B : List Addr), Room k (A.deeper (envOfC qual (defScope st) s.heap.objs.size f cdv)) →
      PSs (cxOf (L2N.CX P w) P w K mg base N qual (defScope st) f cdv A outer s H E) (defBody st) (tS ⟨K, mg, hid H B, fun cls d _ H' => E cls d H', B, H, none⟩ wr m)) :
    FnOk P w K mg base (L2N.CX P w) (k + 1) f fd ps (spF K mg ps.length (runF ps.length N.length m)) :=
  okN F S (fun vs H Q E h => h.1) fun cdv A outer s H vs Q E hr h => by
    obtain ⟨B, q⟩ := mir_run (wr := wr) h
    exact ⟨_, hbody cdv A outer s H E B hr, q⟩
theorem fn_mirH {wr : List Nat} {x qual : Str} {st : Stmt} {f : Addr} {fd : FuncData} {N ps : List Str} {k : Nat} {m : M Ct} (F : Fun K x qual st f fd) (S : FnScope N ps (defScope st))
    (hbody : ∀ (cdv : Value) (A : Around) (outer : List Env) (s : Shared) (H : Hp) (E : XK) (B : List Addr) (p : Addr × Obj), L2H.Hot1 A p → L2H.RoomH k (A.deeper (envOfC qual (defScope st) s.heap.objs.size f cdv)) →
      PSs (L2H.cxH (L2N.CX P w) P w K mg base N qual (defScope st) f cdv A outer s H E p) (defBody st) (tS ⟨K, mg, hid H B, fun cls d _ H' => E cls d H', B, H, none⟩ wr m)) :
    L2H.FnH P w K mg base (L2N.CX P w) (k + 1) f fd ps (spF K mg ps.length (runF ps.length N.length m)) := by
  obtain ⟨oc, od, kV, doc, pm, an, cdv, ct, osl, rfl, lk, hcd⟩ := F.ex
  exact L2H.fn_ofH lk hcd S (fun vs H Q E h => h.1) fun A outer s H vs Q E p hp hr h => by
    obtain ⟨B, q⟩ := mir_run (wr := wr) h
    exact ⟨_, hbody cdv A outer s H E B p hp hr, q⟩
end
end L2

namespace L2
open PySem PySem.Spec PyProof.Rows

/-! ### f(..) -/
/-- a list of n arguments -/
def ArgN (mas : M (List SV)) (n : Nat) : Prop := ∀ en svs en', mas en = .ok svs en' → svs.length = n
theorem argN_nil : ArgN mNil 0 := fun en svs en' e => by cases e; rfl
theorem argN_cons {m : M SV} {r : M (List SV)} {n : Nat} (h : ArgN r n) : ArgN (mCons m r) (n + 1) := fun en svs en' e => by
  unfold mCons mbind at e
  cases e1 : mfrz m en with
  | stuck => rw [e1] at e; cases e
  | exc _ _ => rw [e1] at e; cases e
  | ok a en1 =>
    rw [e1] at e
    dsimp only at e
    cases e2 : r en1 with
    | stuck => rw [e2] at e; cases e
    | exc _ _ => rw [e2] at e; cases e
    | ok as en2 =>
      rw [e2] at e
      dsimp only at e
      split at e
      · cases e
        exact congrArg (· + 1) (h _ _ _ e2)
      · cases e
section
variable {X : Cx} {G : Gs} {k : Nat} {f : Addr} {fd : FuncData} {ps : List Str} {F : Fm} {mas : M (List SV)} {x : Str} {p pos : Pos} {e : Expr} {es : List Expr}
theorem je_call {n : Nat} (hF : FnOk X.prog X.w X.K X.mg X.base (L2N.CX X.prog X.w) k f fd ps (spF G.K G.mg n F)) (hr : Room k X.A) (tk : L2N.Takes X G.W) (hg : Gl X x) (hm : X.mg x = some (.ref f)) (hk : PySem.W.keepIn X.K (.ref f) = true) (hb : Binds X.K fd ps [])
    (hn : ArgN mas n) (ha : PA X (e :: es) (tA G mas)) (hdb : (x == ("__debug__" : Str)) = false := by decide) (he : starEach (e :: es) X.env = (false, eval e X.env) :: starEach es X.env := by rfl) (hpl : (backTo pos (starEach es X.env)).any (·.1) = false := by rfl) :
    PE X (.Call (.Name x p) (e :: es) [] pos) (tE G (mCall F mas)) := (pe_callS hF hr hg hm hk hb (fun σ => L2N.passAt tk σ) ha hdb he hpl).imp (call_imp hn)
theorem je_callH {n : Nat} (hF : L2H.FnH X.prog X.w X.K X.mg X.base (L2N.CX X.prog X.w) k f fd ps (spF G.K G.mg n F)) (hr : L2H.RoomH k X.A) (hc : L2H.HotC X) (tk : L2N.Takes X G.W) (hg : Gl X x) (hm : X.mg x = some (.ref f)) (hk : PySem.W.keepIn X.K (.ref f) = true) (hb : Binds X.K fd ps [])
    (hn : ArgN mas n) (ha : PA X (e :: es) (tA G mas)) (hdb : (x == ("__debug__" : Str)) = false := by decide) (he : starEach (e :: es) X.env = (false, eval e X.env) :: starEach es X.env := by rfl) (hpl : (backTo pos (starEach es X.env)).any (·.1) = false := by rfl) :
    PE X (.Call (.Name x p) (e :: es) [] pos) (tE G (mCall F mas)) := (L2H.pe_callH hF hr hc hg hm hk hb (fun σ => L2N.passAt tk σ) ha hdb he hpl).imp (call_imp hn)
end

/-! ### truth -/
def truD : D → Option Bool
  | .none => some false
  | .bool b => some b
  | .int i => some (i != 0)
  | .str z => if z.length ≤ sizeLine then some ((z.length : Int) != 0) else none
  | .list ds => some (!ds.isEmpty)
  | .tuple ds => some (!ds.isEmpty)
  | .dict [(.none, .list ds)] => some (!ds.isEmpty)
  | .dict kds => some (!kds.isEmpty)
theorem truV_of {K : Kf} {H : Hp} {L : List Addr} {x : V} {d : D} {b : Bool} (o : Opd K H L x d) (e : truD d = some b) : TruV K x H b := by
  have em : ∀ {xs : List V} {ds : List D} {H : Hp}, DqAll K H xs ds → xs.isEmpty = ds.isEmpty := fun h => by cases h <;> rfl
  unfold truD at e
  split at e
  · cases e; rw [o.none]; exact rfl
  · cases e; rw [o.bool]; exact rfl
  · cases e; rw [o.int]; exact rfl
  · split at e
    · rename_i h
      cases e
      rw [o.str]
      exact ⟨h, rfl⟩
    · cases e
  · cases e
    obtain ⟨a, xs, rfl, h1, h2⟩ := o.list'
    exact .inl ⟨xs, h1, by rw [em h2]⟩
  · cases e
    obtain ⟨a, xs, rfl, h1, h2⟩ := o.tuple
    exact .inr (.inl ⟨xs, h1, by rw [em h2]⟩)
  · cases e
    rcases o.dct with ⟨a, ns, rfl, e2, hs⟩ | ⟨a, kvs, ks, rfl, e2, ho, hk⟩
    · injection e2 with e2 _
      injection e2 with _ e2
      injection e2 with e2
      subst e2
      exact .inl ⟨_, hs, by cases ns <;> rfl⟩
    · cases ks with
      | nil => cases e2
      | cons p r =>
        injection e2 with e2 _
        injection e2 with e2 _
        cases h1 : p.1 <;> (rw [h1] at e2; exact nomatch e2)
  · rename_i kds hne
    cases e
    rcases o.dct with ⟨a, ns, rfl, e2, hs⟩ | ⟨a, kvs, ks, rfl, e2, ho, hk⟩
    · exact (hne _ (by rw [e2])).elim
    · subst e2
      exact .inr (.inr ⟨kvs, ho, by cases hk <;> rfl⟩)
def mTru (m : M SV) : M Bool := mbind (mfrz m) fun sv en => match look en sv with
  | some d => (match truD d with
    | some b => .ok b en
    | none => .stuck)
  | none => .stuck
section
variable {X : Cx} {G : Gs} {e : Expr} {m : M SV}
theorem jt_tru (hK : X.K = G.K) (h : PE X e (tE G m)) (he : ∀ whole, isTrue e X.env whole = (do let v ← whole; standAt e.pos; holding [v] (truthy v)) := by intro _; rfl) : PT X e (tT G (mTru m)) :=
  (pt_truth (je_frz h) he).imp fun σ H Q h => by
    obtain ⟨en, L, R, q⟩ := h
    refine (seqET R q).mono fun x H1 ⟨en1, L1, sv1, R1, s1, r1, q1⟩ => ?_
    cases e1 : look en1 sv1 with
    | none => simp only [e1] at q1; exact q1.elim
    | some d =>
      simp only [e1] at q1
      cases e2 : truD d with
      | none => simp only [e2] at q1; exact q1.elim
      | some b =>
        simp only [e2] at q1
        exact ⟨b, by rw [hK]; exact truV_of (RV.opd R1 (Same.refl _) r1 e1) e2, q1 H1 L1 R1 (Same.refl _)⟩
end

/-! ### targets -/
inductive Tg where
  | nm (i : Nat)
  | tp (is : List Nat)
def Tg.slots : Tg → List Nat
  | .nm i => [i]
  | .tp is => is
def setAll : List Nat → List D → En → En
  | i :: is, d :: ds, en => setAll is ds (en.set i (some (.d d)))
  | _, _, en => en
def setTg : Tg → D → En → Option En
  | .nm i, d, en => some (en.set i (some (.d d)))
  | .tp is, .tuple ds, en => if ds.length = is.length then some (setAll is ds en) else none
  | .tp _, _, _ => none
def gsOf : List Nat → TGs
  | [] => gNil
  | i :: is => gCons (gName i) (gsOf is)
def gOf (K : Kf) : Tg → TG
  | .nm i => gName i
  | .tp is => gTup K is.length (gsOf is)
theorem gs_run {G : Gs} {L : List Addr} {H : Hp} {Q : St → Hp → Prop} : ∀ {is : List Nat} {vs : List V} {ds : List D} {σ : St} {en : En}, RelS G L σ H en → DqAll G.K (hid H L) vs ds → ds.length = is.length →
    (∀ σ', RelS G L σ' H (setAll is ds en) → Keeps is σ σ' → Q σ' H) → gsOf is vs σ H Q
  | [], _, _, _, _, R, .nil, _, q => ⟨rfl, q _ R Keeps.refl⟩
  | i :: is, _, _, σ, en, R, .cons h t, hl, q => by
    refine ⟨_, _, rfl, ?_⟩
    exact gs_run (R.store_d h) t (by simpa using hl) fun σ' R' k => q σ' R' fun j hj => by
      rw [k j (fun z => hj (List.mem_cons_of_mem _ z)), List.getElem?_set_ne (fun z => hj (by rw [z]; exact List.mem_cons_self))]
  | _ :: _, _, _, _, _, _, .nil, hl, _ => by simp at hl
  | [], _, _, _, _, _, .cons _ _, hl, _ => by simp at hl
theorem g_run {G : Gs} {L : List Addr} {H : Hp} {σ : St} {en en' : En} {v : V} {d : D} {tg : Tg} {Q : St → Hp → Prop} (R : RelS G L σ H en) (h : Dq G.K (hid H L) v d) (e : setTg tg d en = some en')
    (q : ∀ σ', RelS G L σ' H en' → Keeps tg.slots σ σ' → Q σ' H) : gOf G.K tg v σ H Q := by
  cases tg with
  | nm i => cases e; exact q _ (R.store_d h) Keeps.set
  | tp is =>
    cases h with
    | @tup a0 xs0 ds0 hs ha =>
      simp only [setTg] at e
      by_cases hl : ds0.length = is.length
      · rw [if_pos hl] at e
        cases e
        exact ⟨_, _, rfl, sqT_mono hid_same hs, by rw [ha.length]; exact hl, gs_run R ha hl q⟩
      · rw [if_neg hl] at e
        cases e
    | _ => cases e
/-- an assignment of data to a target -/
def mAsg (tg : Tg) (m : M SV) : M Ct := mbind (mkeep m) fun sv en => match sv with
  | .d d => (match setTg tg d en with
    | some en' => .ok .nx en'
    | none => .stuck)
  | _ => .stuck
section
variable {X : Cx} {G : Gs} {e t : Expr} {m : M SV} {pos : Pos} {tg : Tg}
theorem js_asg (hK : X.K = G.K) (hg : PG X t (gOf X.K tg)) (he : PE X e (tE G m)) (hs : swapsWithSole [t] e pos.line X.env = pure false := by rfl) (hw : swappedStores [t] e X.env = pure none := by rfl)
    (h1 : (assignEach [t] X.env).map (·.2) = [assign t X.env] := by rfl) : PS X (.Assign [t] e pos) (tS G tg.slots (mAsg tg m)) := (ps_asg (je_keep he) hg hs hw h1).imp fun E σ H h => by
  obtain ⟨en, L, R, q⟩ := h
  refine (seqES R q).mono fun v H1 ⟨en1, L1, sv, R1, s1, r1, q1⟩ => ?_
  cases sv with
  | own _ => exact q1.elim
  | bor _ => exact q1.elim
  | d d =>
    dsimp only at q1
    cases e1 : setTg tg d en1 with
    | none => rw [e1] at q1; exact q1.elim
    | some en' =>
      rw [e1] at q1
      rw [hK]
      exact g_run R1 r1 e1 fun σ' R' k => q1 σ' H1 L1 R' (Same.refl _) k
end

/-! ### for -/
open Classical in
/-- the slot that is walked has not changed -/
noncomputable def chkOk (c : Option (Nat × List D)) (en : En) : Bool := match c with
  | none => true
  | some (i, ds) => decide (en[i]? = some (some (SV.own (.lst ds))))
noncomputable def forGo (tg : Tg) (c : Option (Nat × List D)) (body : M Ct) : List D → M Ct
  | [], en => if chkOk c en then .ok .nx en else .stuck
  | d :: r, en => if chkOk c en then (match setTg tg d en with
      | none => .stuck
      | some en1 => match body en1 with
        | .ok .nx en2 => forGo tg c body r en2
        | .ok .ct en2 => forGo tg c body r en2
        | .ok .bk en2 => .ok .nx en2
        | .ok (.rt sv) en2 => .ok (.rt sv) en2
        | .exc x en2 => .exc x en2
        | .stuck => .stuck) else .stuck
/-- what a loop walks -/
structure Walks (K : Kf) (J : It) (ok : Hp → List Addr → Prop) (ds : List D) : Prop where
  go : ∀ i H L, ok H L → i < ds.length → J.go i H
  stop : ∀ i H L, ok H L → i = ds.length → J.stop i H
  yld : ∀ i H L x H' d, ok H L → ds[i]? = some d → J.yld i H x H' → Owns H L → Same H H' ∧ Dq K (hid H' L) x d
section
variable {G : Gs} {J : It} {tg : Tg} {body : M Ct} {wb : List Nat} {ds : List D} {H : Hp} {L : List Addr} {σ : St} {en : En} {E : Ends} {c : Option (Nat × List D)}
theorem for_run {ok : Hp → List Addr → Prop} (W : Walks G.K J ok ds) (R : RelS G L σ H en) (q : PostS G (tg.slots ++ wb) σ H L (forGo tg c body ds en) E)
    (k : ∀ σ' H' L' en', RelS G L' σ' H' en' → Same (hid H L) (hid H' L') → Keeps (tg.slots ++ wb) σ σ' → chkOk c en' = true → ok H' L') :
    ∃ W : Nat → Nat → St → Hp → Prop, (∃ m, W 0 m σ H) ∧ ∀ i m σ H, W i m σ H →
      (J.stop i H ∧ E.nx σ H) ∨ (J.go i H ∧ ∃ N : St → Hp → Prop, (∀ σ' H', N σ' H' → ∃ m', m' < m ∧ W (i + 1) m' σ' H') ∧ ∀ x H', J.yld i H x H' → gOf G.K tg x σ H' fun σ2 H2 => tS G wb body { E with nx := N, ct := N, bk := E.nx } σ2 H2) := by
  refine ⟨fun i m σ' H' => i + m = ds.length ∧ ∃ en' L', RelS G L' σ' H' en' ∧ Same (hid H L) (hid H' L') ∧ Keeps (tg.slots ++ wb) σ σ' ∧ PostS G (tg.slots ++ wb) σ' H' L' (forGo tg c body (ds.drop i) en') E, ⟨ds.length, by omega, en, L, R, Same.refl _, Keeps.refl, q⟩, ?_⟩
  rintro i m σ1 H1 ⟨hm, en1, L1, R1, s1, k1, q1⟩
  by_cases hi : i < ds.length
  · obtain ⟨d, hd⟩ : ∃ d, ds[i]? = some d := ⟨ds[i], List.getElem?_eq_getElem hi⟩
    have hdrop : ds.drop i = d :: ds.drop (i + 1) := by
      rw [List.drop_eq_getElem_cons hi]
      rw [List.getElem?_eq_getElem hi] at hd
      cases hd
      rfl
    rw [hdrop] at q1
    unfold forGo at q1
    split at q1
    · rename_i hc
      have hok := k σ1 H1 L1 en1 R1 s1 k1 hc
      refine .inr ⟨W.go i H1 L1 hok hi, fun σ' H' => ∃ en' L', RelS G L' σ' H' en' ∧ Same (hid H L) (hid H' L') ∧ Keeps (tg.slots ++ wb) σ σ' ∧ PostS G (tg.slots ++ wb) σ' H' L' (forGo tg c body (ds.drop (i + 1)) en') E, fun σ' H' n => ⟨m - 1, by omega, by omega, n⟩, fun x H2 hy => ?_⟩
      obtain ⟨s2, hx⟩ := W.yld i H1 L1 x H2 d hok hd hy R1.own
      have R2 := R1.grow s2
      cases e : setTg tg d en1 with
      | none => rw [e] at q1; exact q1.elim
      | some en2 =>
        rw [e] at q1
        refine g_run R2 hx e fun σ2 R3 k2 => ⟨en2, L1, R3, ?_⟩
        have s12 : Same (hid H1 L1) (hid H2 L1) := hid_mono s2
        dsimp only at q1
        have kt : Keeps (tg.slots ++ wb) σ1 σ2 := k2.mono fun j z => List.mem_append_left _ z
        have kc : ∀ {σa σb σc : St}, Keeps (tg.slots ++ wb) σa σb → Keeps (tg.slots ++ wb) σb σc → Keeps (tg.slots ++ wb) σa σc := fun a b j hj => (b j hj).trans (a j hj)
        have kb : ∀ {σ3 : St}, Keeps wb σ2 σ3 → Keeps (tg.slots ++ wb) σ1 σ3 := fun k3 => kc kt (k3.mono fun j z => List.mem_append_right _ z)
        have pf : ∀ {r : Rs Ct} {σ3 H3 L3}, PostS G (tg.slots ++ wb) σ1 H1 L1 r E → Same (hid H1 L1) (hid H3 L3) → Keeps (tg.slots ++ wb) σ1 σ3 → PostS G (tg.slots ++ wb) σ3 H3 L3 r E := fun {r σ3 H3 L3} h a b => by
          refine PostS.from (w1 := tg.slots ++ wb) a b (PostS.less ?_ h)
          intro j z
          rcases List.mem_append.mp z with z | z <;> exact z
        cases e2 : body en2 with
        | stuck => rw [e2] at q1; exact q1.elim
        | exc x en3 =>
          rw [e2] at q1
          exact PostX.imp (PostX.from s12 q1) fun σ' k3 => kb k3
        | ok ct en3 =>
          rw [e2] at q1
          cases ct with
          | nx => exact fun σ3 H3 L3 R4 s3 k3 => ⟨en3, L3, R4, s1.trans (s12.trans s3), kc k1 (kb k3), pf q1 (s12.trans s3) (kb k3)⟩
          | ct => exact fun σ3 H3 L3 R4 s3 k3 => ⟨en3, L3, R4, s1.trans (s12.trans s3), kc k1 (kb k3), pf q1 (s12.trans s3) (kb k3)⟩
          | bk => exact fun σ3 H3 L3 R4 s3 k3 => q1 σ3 H3 L3 R4 (s12.trans s3) (kb k3)
          | rt sv => exact fun v σ3 H3 L3 R4 s3 r => q1 v σ3 H3 L3 R4 (s12.trans s3) r
    · exact q1.elim
  · have hi' : i = ds.length := by omega
    have hdrop : ds.drop i = [] := List.drop_eq_nil_of_le (by omega)
    rw [hdrop] at q1
    unfold forGo at q1
    split at q1
    · rename_i hc
      exact .inl ⟨W.stop i H1 L1 (k σ1 H1 L1 en1 R1 s1 k1 hc) hi', q1 σ1 H1 L1 R1 (Same.refl _) Keeps.refl⟩
    · exact q1.elim
/-! ### what may be walked -/
theorem walks_list {K : Kf} {a : Addr} {ds : List D} : Walks K (Itl K a) (fun H L => ∃ xs, H a = some (.lst xs) ∧ DqAll K (hid H L) xs ds) ds where
  go := fun i H L ⟨xs, h, hd⟩ hi => ⟨xs, xs[i]'(by rw [hd.length]; exact hi), .of h, List.getElem?_eq_getElem _⟩
  stop := fun i H L ⟨xs, h, hd⟩ hi => ⟨xs, .of h, by rw [hd.length]; omega⟩
  yld := fun i H L x H' d ⟨xs, h, hd⟩ hi ⟨e, y⟩ _ => by
    subst e
    obtain ⟨v, e1, e2⟩ := hd.get hi
    have z := y xs (.of h)
    rw [e1] at z
    cases z
    exact ⟨Same.refl _, e2⟩
theorem walks_tup {K : Kf} {a : Addr} {ds : List D} : Walks K (Itt K a) (fun H L => ∃ xs, SqT K H a xs ∧ DqAll K (hid H L) xs ds) ds where
  go := fun i H L ⟨xs, h, hd⟩ hi => ⟨xs, xs[i]'(by rw [hd.length]; exact hi), h, List.getElem?_eq_getElem _⟩
  stop := fun i H L ⟨xs, h, hd⟩ hi => ⟨xs, h, by rw [hd.length]; omega⟩
  yld := fun i H L x H' d ⟨xs, h, hd⟩ hi ⟨e, y⟩ _ => by
    subst e
    obtain ⟨v, e1, e2⟩ := hd.get hi
    have z := y xs h
    rw [e1] at z
    cases z
    exact ⟨Same.refl _, e2⟩
def signs (z : Str) : List D := z.cps.toList.map fun c => .str ⟨#[c]⟩
theorem walks_str {K : Kf} {z : Str} : Walks K (Its z) (fun _ _ => True) (signs z) where
  go := fun i H L _ hi => by
    unfold signs at hi
    rw [List.length_map] at hi
    exact (by simpa using hi : i < z.cps.size)
  stop := fun i H L _ hi => by
    unfold signs at hi
    rw [List.length_map] at hi
    exact (by simp at hi; omega : z.cps.size ≤ i)
  yld := fun i H L x H' d _ hi y _ => by
    obtain ⟨e, c, hc, e2⟩ := y
    subst e e2
    unfold signs at hi
    rw [List.getElem?_map, Array.getElem?_toList, hc] at hi
    cases hi
    exact ⟨Same.refl _, .str _⟩
def rngD (lo : Int) (n : Nat) : List D := (List.range n).map fun k => .int (lo + (k : Nat))
theorem walks_rng {K : Kf} {lo : Int} {n : Nat} : Walks K (Itr lo n) (fun _ _ => True) (rngD lo n) where
  go := fun i H L _ hi => by
    unfold rngD at hi
    rw [List.length_map, List.length_range] at hi
    exact hi
  stop := fun i H L _ hi => by
    unfold rngD at hi
    rw [List.length_map, List.length_range] at hi
    exact (by omega : n ≤ i)
  yld := fun i H L x H' d _ hi y _ => by
    obtain ⟨e, e2⟩ := y
    subst e e2
    unfold rngD at hi
    rw [List.getElem?_map] at hi
    by_cases h : i < n
    · rw [List.getElem?_range h] at hi
      cases hi
      exact ⟨Same.refl _, .int _⟩
    · rw [List.getElem?_eq_none (by rw [List.length_range]; omega)] at hi
      cases hi
end
end L2

namespace L2
open PySem PySem.Spec PyProof.Rows

/-! ### an iterator over a list, a tuple, a text -/
section
variable {X : Cx} {tg : Expr}
theorem it_list {pins : List (Addr × Obj)} {σ : St} {H : Hp} {s : Shared} {R : It → Hp → Prop} {a : Addr} {xs : List V} (I : Inv X pins σ H s) (h : SqL X.K H a xs) (q : R (Itl X.K a) H) : wpAny (model X.prog X.w) X.A (pyIter (.ref a)) (PIE X pins σ tg R) X.xe s := by
  obtain ⟨its, _, pl, _⟩ := I.list h
  refine wpAny_pyIter_list pl.isList ⟨_, [s.heap.objs.size], _, _, H, rfl, I.kept (t' := s.toks) (fun _ _ e => Heap.get?_push_of_some _ e), turn_list a _, ⟨_, Heap.get?_push_size _ rfl, rfl, rfl⟩, fun b m => ?_, q⟩
  rw [List.mem_singleton.mp m]
  exact I.fpOk (Nat.le_refl _) I.fresh
theorem it_tup {pins : List (Addr × Obj)} {σ : St} {H : Hp} {s : Shared} {R : It → Hp → Prop} {a : Addr} {xs : List V} (I : Inv X pins σ H s) (h : SqT X.K H a xs) (q : R (Itt X.K a) H) : wpAny (model X.prog X.w) X.A (pyIter (.ref a)) (PIE X pins σ tg R) X.xe s := by
  obtain ⟨its, _, pl, _⟩ := I.tuple h
  refine wpAny_pyIter_tuple pl ⟨_, [s.heap.objs.size], _, _, H, rfl, I.kept (t' := s.toks) (fun _ _ e => Heap.get?_push_of_some _ e), turn_tuple a _, ⟨_, Heap.get?_push_size _ rfl, rfl, rfl⟩, fun b m => ?_, q⟩
  rw [List.mem_singleton.mp m]
  exact I.fpOk (Nat.le_refl _) I.fresh
theorem it_str {pins : List (Addr × Obj)} {σ : St} {H : Hp} {s : Shared} {R : It → Hp → Prop} {z : Str} {t : Tok} (I : Inv X pins σ H s) (q : R (Its z) H) : wpAny (model X.prog X.w) X.A (pyIter (.str z t)) (PIE X pins σ tg R) X.xe s := by
  cases hz : z.cps.all (· < 128) with
  | false => exact wpAny_pyIter_wide hz (pi_one (tk := s.toks) I _ (turn_str _ z t "str_iterator" (.inr rfl)) ⟨_, Heap.get?_push_size _ rfl, rfl, rfl⟩ q)
  | true => exact wpAny_pyIter_ascii hz (pi_one (tk := s.toks) I _ (turn_str _ z t "str_ascii_iterator" (.inl rfl)) ⟨_, Heap.get?_push_size _ rfl, rfl, rfl⟩ q)
def iAny (K : Kf) (te : TE) : TI := fun σ H R => te σ H fun x H1 => (∃ a xs, x = .ref a ∧ SqL K H1 a xs ∧ R (Itl K a) H1) ∨ (∃ a xs, x = .ref a ∧ SqT K H1 a xs ∧ R (Itt K a) H1) ∨ ∃ z, x = .str z ∧ R (Its z) H1
theorem pi_any {e : Expr} {te : TE} (he : PE X e te) : PI X tg e (iAny X.K te) := ⟨fun pins s σ H R I h => thn (he.run pins s σ H _ I h) fun v s1 ⟨x, H1, I1, r1, q1⟩ => by
  rcases q1 with ⟨a, xs, rfl, h, q⟩ | ⟨a, xs, rfl, h, q⟩ | ⟨z, rfl, q⟩
  · obtain rfl := r1
    exact it_list I1 h q
  · obtain rfl := r1
    exact it_tup I1 h q
  · obtain ⟨t, rfl⟩ := r1
    exact it_str I1 q⟩
end

/-! ### for x in .. -/
noncomputable def mFor (tg : Tg) (wb : List Nat) (me : M SV) (body : M Ct) : M Ct := mbind (mfrz me) fun sv en => match sv with
  | .d (.list ds) => forGo tg none body ds en
  | .d (.tuple ds) => forGo tg none body ds en
  | .d (.str z) => forGo tg none body (signs z) en
  | .bor i => (match en[i]? with
    | some (some (.own (.lst ds))) => if (tg.slots ++ wb).contains i then .stuck else forGo tg (some (i, ds)) body ds en
    | _ => .stuck)
  | _ => .stuck
noncomputable def mForR1 (tg : Tg) (mas : M (List SV)) (body : M Ct) : M Ct := mbind mas fun svs en => match looks en svs with
  | some [.int j] => if -(2 ^ 62) ≤ j ∧ j < 2 ^ 62 then forGo tg none body (rngD 0 j.toNat) en else .stuck
  | _ => .stuck
noncomputable def mForR2 (tg : Tg) (mas : M (List SV)) (body : M Ct) : M Ct := mbind mas fun svs en => match looks en svs with
  | some [.int i, .int j] => if (-(2 ^ 62) ≤ i ∧ i < 2 ^ 62) ∧ -(2 ^ 62) ≤ j ∧ j < 2 ^ 62 then forGo tg none body (rngD i (j - i).toNat) en else .stuck
  | _ => .stuck
section
variable {X : Cx} {G : Gs} {t iter : Expr} {body : List Stmt} {me : M SV} {mb : M Ct} {wb : List Nat} {tg : Tg} {pos : Pos}
theorem js_for (hp : PassesOwn (model X.prog X.w) X.A X.env X.xe) (hc : X.calm = true) (hK : X.K = G.K) (he : PE X iter (tE G me)) (hg : PG X t (gOf X.K tg)) (hb : PSs X body (tS G wb mb)) (hs : ∀ x, foldedSetIterable iter X.env x = pure x := by intro _; rfl) :
    PS X (.For t iter body [] pos) (tS G (tg.slots ++ wb) (mFor tg wb me mb)) := (ps_for hp hc (pi_any (je_frz he)) hg hb hs).imp fun E σ H h => by
  obtain ⟨en, L, R, q⟩ := h
  refine (seqES R q).mono fun v H1 ⟨en1, L1, sv, R1, s1, r1, q1⟩ => ?_
  rw [hK]
  cases sv with
  | own _ => exact q1.elim
  | bor i =>
    obtain ⟨e1, b, e2⟩ := r1
    simp only [e2] at q1
    cases b with
    | dct _ => exact q1.elim
    | lst ds =>
      dsimp only at q1
      split at q1
      · exact q1.elim
      · rename_i hni
        obtain ⟨a, xs, e3, ma, ho, hr⟩ := slot_lst R1 e2
        rw [e1] at e3
        cases e3
        refine .inl ⟨a, xs, rfl, .of ho, ?_⟩
        refine for_run walks_list R1 q1 fun σ' H' L' en' R' s' k' c' => ?_
        have c2 : en'[i]? = some (some (SV.own (.lst ds))) := by simpa [chkOk] using c'
        obtain ⟨a', xs', e4, _, ho', hr'⟩ := slot_lst R' c2
        rw [k' i (fun z => hni (List.contains_iff_mem.mpr z)), e1] at e4
        cases e4
        exact ⟨xs', ho', hr'⟩
  | d d =>
    cases d with
    | list ds =>
      cases r1 with
      | lst hs ha =>
        refine .inl ⟨_, _, rfl, .of (hid_same _ _ hs), for_run walks_list R1 q1 fun σ' H' L' en' R' s' k' c' => ⟨_, hid_same _ _ (s' _ _ hs), DqAll.mono s' _ ha⟩⟩
    | tuple ds =>
      cases r1 with
      | tup hs ha =>
        refine .inr (.inl ⟨_, _, rfl, sqT_mono hid_same hs, for_run walks_tup R1 q1 fun σ' H' L' en' R' s' k' c' => ⟨_, sqT_mono hid_same (sqT_mono s' hs), DqAll.mono s' _ ha⟩⟩)
    | str z =>
      cases r1
      exact .inr (.inr ⟨z, rfl, for_run walks_str R1 q1 fun _ _ _ _ _ _ _ _ => trivial⟩)
    | _ => exact q1.elim
theorem seqAS {mas : M (List SV)} {f : List SV → M Ct} {wr : List Nat} {H : Hp} {L : List Addr} {σ : St} {en : En} {E : Ends} (R : RelS G L σ H en) (q : PostS G wr σ H L (mbind mas f en) E) :
    tA G mas σ H fun x H1 => ∃ en1 L1 sv, RelS G L1 σ H1 en1 ∧ Same (hid H L) (hid H1 L1) ∧ RVs G L1 σ H1 en1 x sv ∧ PostS G wr σ H1 L1 (f sv en1) E := by
  refine ⟨en, L, R, ?_⟩
  unfold mbind at q
  cases e : mas en with
  | ok sv en' =>
    rw [e] at q
    exact fun v H' L' a b c => ⟨en', L', sv, a, b, c, q.from0 b⟩
  | exc x en' =>
    rw [e] at q
    exact PostX.at q
  | stuck =>
    rw [e] at q
    exact q
theorem forR1_imp {mas : M (List SV)} (hK : X.K = G.K) (E : Ends) (σ : St) (H : Hp) (h : tS G (tg.slots ++ wb) (mForR1 tg mas mb) E σ H) : tFor (iRng1 (tA G mas)) (gOf X.K tg) (tS G wb mb) E σ H := by
  obtain ⟨en, L, R, q⟩ := h
  refine (seqAS R q).mono fun vs H1 ⟨en1, L1, svs, R1, s1, r1, q1⟩ => ?_
  rw [hK]
  cases e : looks en1 svs with
  | none => simp only [e] at q1; exact q1.elim
  | some ds =>
    simp only [e] at q1
    have o := RVs.opd R1 (Same.refl _) r1 e
    split at q1
    · rename_i j heq
      cases heq
      split at q1
      · rename_i hj
        cases o with
        | cons h t => cases t; exact ⟨j, by rw [h.int], hj.1, hj.2, for_run walks_rng R1 q1 fun _ _ _ _ _ _ _ _ => trivial⟩
      · exact q1.elim
    · exact q1.elim
theorem js_forR1 {a : Expr} {mas : M (List SV)} {p pos' : Pos} (hp : PassesOwn (model X.prog X.w) X.A X.env X.xe) (hc : X.calm = true) (hK : X.K = G.K) (hgl : Gl X "range") (hm : X.mg "range" = none) (ha : PA X [a] (tA G mas)) (hg : PG X t (gOf X.K tg)) (hb : PSs X body (tS G wb mb))
    (hs : starEach [a] X.env = [(false, eval a X.env)] := by rfl) (hf : ∀ x, foldedSetIterable (.Call (.Name "range" p) [a] [] pos') X.env x = pure x := by intro _; rfl) :
    PS X (.For t (.Call (.Name "range" p) [a] [] pos') body [] pos) (tS G (tg.slots ++ wb) (mForR1 tg mas mb)) := (ps_for hp hc (pi_range1 hgl hm ha hs) hg hb hf).imp (forR1_imp hK)
theorem js_forR1H {a : Expr} {mas : M (List SV)} {p pos' : Pos} (hp : PassesOwn (model X.prog X.w) X.A X.env X.xe) (hc : L2H.HotC X) (hK : X.K = G.K) (hgl : Gl X "range") (hm : X.mg "range" = none) (ha : PA X [a] (tA G mas)) (hg : PG X t (gOf X.K tg)) (hb : PSs X body (tS G wb mb))
    (hs : starEach [a] X.env = [(false, eval a X.env)] := by rfl) (hf : ∀ x, foldedSetIterable (.Call (.Name "range" p) [a] [] pos') X.env x = pure x := by intro _; rfl) :
    PS X (.For t (.Call (.Name "range" p) [a] [] pos') body [] pos) (tS G (tg.slots ++ wb) (mForR1 tg mas mb)) := (L2H.ps_forH hp hc (L2H.pi_range1H hgl hm ha hs) hg hb hf).imp (forR1_imp hK)
theorem js_forR2 {a b : Expr} {mas : M (List SV)} {p pos' : Pos} (hp : PassesOwn (model X.prog X.w) X.A X.env X.xe) (hc : X.calm = true) (hK : X.K = G.K) (hgl : Gl X "range") (hm : X.mg "range" = none) (ha : PA X [a, b] (tA G mas)) (hg : PG X t (gOf X.K tg)) (hb : PSs X body (tS G wb mb))
    (hs : starEach [a, b] X.env = [(false, eval a X.env), (false, eval b X.env)] := by rfl) (hs2 : starEach [b] X.env = [(false, eval b X.env)] := by rfl) (hf : ∀ x, foldedSetIterable (.Call (.Name "range" p) [a, b] [] pos') X.env x = pure x := by intro _; rfl) :
    PS X (.For t (.Call (.Name "range" p) [a, b] [] pos') body [] pos) (tS G (tg.slots ++ wb) (mForR2 tg mas mb)) := (ps_for hp hc (pi_range2 hgl hm ha hs hs2) hg hb hf).imp fun E σ H h => by
  obtain ⟨en, L, R, q⟩ := h
  refine (seqAS R q).mono fun vs H1 ⟨en1, L1, svs, R1, s1, r1, q1⟩ => ?_
  rw [hK]
  cases e : looks en1 svs with
  | none => simp only [e] at q1; exact q1.elim
  | some ds =>
    simp only [e] at q1
    have o := RVs.opd R1 (Same.refl _) r1 e
    split at q1
    · rename_i i j heq
      cases heq
      split at q1
      · rename_i hj
        cases o with
        | cons h t => cases t with
          | cons h2 t => cases t; exact ⟨i, j, by rw [h.int, h2.int], ⟨hj.1.1, hj.1.2, hj.2.1, hj.2.2⟩, for_run walks_rng R1 q1 fun _ _ _ _ _ _ _ _ => trivial⟩
      · exact q1.elim
    · exact q1.elim
/-! ### while -/
def whGo (t : M Bool) (b : M Ct) : Nat → M Ct
  | 0, _ => .stuck
  | n + 1, en => match t en with
    | .ok true en1 => (match b en1 with
      | .ok .nx en2 => whGo t b n en2
      | .ok .ct en2 => whGo t b n en2
      | .ok .bk en2 => .ok .nx en2
      | .ok (.rt sv) en2 => .ok (.rt sv) en2
      | .exc x en2 => .exc x en2
      | .stuck => .stuck)
    | .ok false en1 => .ok .nx en1
    | .exc x en1 => .exc x en1
    | .stuck => .stuck
def mWhile (fuel : Nat) (t : M Bool) (b : M Ct) : M Ct := whGo t b fuel
theorem js_while (fuel : Nat) {c : Expr} {mt : M Bool} (hp : PassesOwn (model X.prog X.w) X.A X.env X.xe) (hc : PT X c (tT G mt)) (hb : PSs X body (tS G wb mb)) : PS X (.While c body [] pos) (tS G wb (mWhile fuel mt mb)) := (ps_while hp hc hb).imp fun E σ H h => by
  obtain ⟨en, L, R, q⟩ := h
  have kc : ∀ {σa σb σc : St}, Keeps wb σa σb → Keeps wb σb σc → Keeps wb σa σc := fun a b j hj => (b j hj).trans (a j hj)
  have pf : ∀ {r : Rs Ct} {σ1 H1 L1 σ3 H3 L3}, PostS G wb σ1 H1 L1 r E → Same (hid H1 L1) (hid H3 L3) → Keeps wb σ1 σ3 → PostS G wb σ3 H3 L3 r E := fun {r σ1 H1 L1 σ3 H3 L3} h a b => by
    refine PostS.from (w1 := wb) a b (PostS.less ?_ h)
    intro j z
    rcases List.mem_append.mp z with z | z <;> exact z
  refine ⟨fun m σ' H' => ∃ en' L', RelS G L' σ' H' en' ∧ PostS G wb σ' H' L' (whGo mt mb m en') E, ⟨fuel, en, L, R, q⟩, ?_⟩
  rintro m σ1 H1 ⟨en1, L1, R1, q1⟩
  cases m with
  | zero => exact q1.elim
  | succ n =>
    unfold whGo at q1
    refine ⟨en1, L1, R1, ?_⟩
    cases e : mt en1 with
    | stuck => rw [e] at q1; exact q1
    | exc x en2 => rw [e] at q1; exact PostX.at q1
    | ok b en2 =>
      rw [e] at q1
      intro H2 L2 R2 s2
      cases b with
      | false => exact q1 σ1 H2 L2 R2 s2 Keeps.refl
      | true =>
        rw [if_pos rfl]
        refine ⟨fun σ' H' => ∃ en' L', RelS G L' σ' H' en' ∧ PostS G wb σ' H' L' (whGo mt mb n en') E, fun σ' H' w => ⟨n, Nat.lt_succ_self n, w⟩, en2, L2, R2, ?_⟩
        dsimp only at q1
        cases e2 : mb en2 with
        | stuck => rw [e2] at q1; exact q1.elim
        | exc x en3 => rw [e2] at q1; exact PostX.from s2 q1
        | ok ct en3 =>
          rw [e2] at q1
          cases ct with
          | nx => exact fun σ3 H3 L3 R4 s3 k3 => ⟨en3, L3, R4, pf q1 (s2.trans s3) k3⟩
          | ct => exact fun σ3 H3 L3 R4 s3 k3 => ⟨en3, L3, R4, pf q1 (s2.trans s3) k3⟩
          | bk => exact fun σ3 H3 L3 R4 s3 k3 => q1 σ3 H3 L3 R4 (s2.trans s3) k3
          | rt sv => exact fun v σ3 H3 L3 R4 s3 r => q1 v σ3 H3 L3 R4 (s2.trans s3) r
end
end L2

namespace L2
open PySem PySem.Spec PyProof.Rows

/-! ### slots of a comprehension's own -/
def wipeEn (en : En) : List Nat → En
  | [] => en
  | i :: vs => (wipeEn en vs).set i none
theorem wipe_keeps (σ : St) : ∀ vs : List Nat, Keeps vs σ (wipe σ vs)
  | [] => Keeps.refl
  | i :: vs => fun j h => by
    show ((wipe σ vs).set i none)[j]? = _
    rw [List.getElem?_set_ne (fun z => h (by rw [z]; exact List.mem_cons_self))]
    exact wipe_keeps σ vs j fun z => h (List.mem_cons_of_mem _ z)
theorem wipeEn_out (en : En) : ∀ {vs : List Nat} {j : Nat}, j ∉ vs → (wipeEn en vs)[j]? = en[j]?
  | [], _, _ => rfl
  | i :: vs, j, h => by
    show ((wipeEn en vs).set i none)[j]? = _
    rw [List.getElem?_set_ne (fun z => h (by rw [z]; exact List.mem_cons_self))]
    exact wipeEn_out en fun z => h (List.mem_cons_of_mem _ z)
theorem wipeEn_in (en : En) : ∀ {vs : List Nat} {j : Nat} {sv : SV}, j ∈ vs → (wipeEn en vs)[j]? = some (some sv) → False
  | i :: vs, j, sv, h, e => by
    have e : ((wipeEn en vs).set i none)[j]? = some (some sv) := e
    by_cases hj : i = j
    · subst hj
      by_cases hl : i < (wipeEn en vs).length
      · rw [List.getElem?_set_self hl] at e
        cases e
      · rw [List.getElem?_eq_none (by rw [List.length_set]; omega)] at e
        cases e
    · rw [List.getElem?_set_ne hj] at e
      exact wipeEn_in en ((List.mem_cons.mp h).resolve_left fun z => hj z.symm) e
theorem RelS.wipe {G : Gs} {L : List Addr} {σ : St} {H : Hp} {en : En} (R : RelS G L σ H en) : ∀ vs : List Nat, RelS G L (L2.wipe σ vs) H (wipeEn en vs)
  | [] => R
  | i :: vs => (RelS.wipe R vs).forget (w := none)
theorem wipe_same {σ σ' : St} : ∀ {vs : List Nat}, σ.length = σ'.length → (∀ j, j ∉ vs → σ'[j]? = σ[j]?) → wipe σ' vs = wipe σ vs := fun {vs} hl h => by
  refine List.ext_getElem? fun j => ?_
  have key : ∀ (τ : St) (us : List Nat), j ∈ us → (wipe τ us)[j]? = if j < τ.length then some none else none := fun τ us => by
    induction us with
    | nil => intro m; cases m
    | cons i us ih =>
      intro m
      show ((wipe τ us).set i none)[j]? = _
      by_cases hj : i = j
      · subst hj
        by_cases hlt : i < τ.length
        · rw [List.getElem?_set_self (by rw [wipe_length]; exact hlt), if_pos hlt]
        · rw [List.getElem?_eq_none (by rw [List.length_set, wipe_length]; omega), if_neg hlt]
      · rw [List.getElem?_set_ne hj]
        exact ih ((List.mem_cons.mp m).resolve_left fun z => hj z.symm)
  by_cases m : j ∈ vs
  · rw [key _ _ m, key _ _ m, hl]
  · rw [wipe_keeps σ' vs j m, wipe_keeps σ vs j m, h j m]
theorem wipeEn_len (en : En) : ∀ vs : List Nat, (wipeEn en vs).length = en.length
  | [] => rfl
  | i :: vs => by
    show ((wipeEn en vs).set i none).length = _
    rw [List.length_set]
    exact wipeEn_len en vs
theorem wipeEn_same {en en' : En} {vs : List Nat} (hl : en.length = en'.length) (h : ∀ j, j ∉ vs → en'[j]? = en[j]?) : wipeEn en' vs = wipeEn en vs := by
  refine List.ext_getElem? fun j => ?_
  have key : ∀ (τ : En) (us : List Nat), j ∈ us → (wipeEn τ us)[j]? = if j < τ.length then some none else none := fun τ us => by
    induction us with
    | nil => intro m; cases m
    | cons i us ih =>
      intro m
      show ((wipeEn τ us).set i none)[j]? = _
      by_cases hj : i = j
      · subst hj
        by_cases hlt : i < τ.length
        · rw [List.getElem?_set_self (by rw [wipeEn_len]; exact hlt), if_pos hlt]
        · rw [List.getElem?_eq_none (by rw [List.length_set, wipeEn_len]; omega), if_neg hlt]
      · rw [List.getElem?_set_ne hj]
        exact ih ((List.mem_cons.mp m).resolve_left fun z => hj z.symm)
  by_cases m : j ∈ vs
  · rw [key _ _ m, key _ _ m, hl]
  · rw [wipeEn_out _ m, wipeEn_out _ m, h j m]
theorem setAll_out : ∀ {is : List Nat} {ds : List D} {en : En} {j : Nat}, j ∉ is → (setAll is ds en)[j]? = en[j]?
  | [], _, _, _, _ => by simp [setAll]
  | _ :: _, [], _, _, _ => by simp [setAll]
  | i :: is, d :: ds, en, j, h => by
    rw [setAll, setAll_out fun z => h (List.mem_cons_of_mem _ z), List.getElem?_set_ne (fun z => h (by rw [z]; exact List.mem_cons_self))]
theorem setAll_len : ∀ {is : List Nat} {ds : List D} {en : En}, (setAll is ds en).length = en.length
  | [], _, _ => by simp [setAll]
  | _ :: _, [], _ => by simp [setAll]
  | i :: is, d :: ds, en => by rw [setAll, setAll_len, List.length_set]
theorem setTg_out {tg : Tg} {d : D} {en en' : En} (e : setTg tg d en = some en') : en'.length = en.length ∧ ∀ j, j ∉ tg.slots → en'[j]? = en[j]? := by
  cases tg with
  | nm i =>
    cases e
    exact ⟨List.length_set .., fun j h => List.getElem?_set_ne (fun z => h (by rw [z]; exact List.mem_singleton.mpr rfl))⟩
  | tp is =>
    cases d with
    | tuple ds =>
      simp only [setTg] at e
      split at e
      · cases e
        exact ⟨setAll_len, fun j h => setAll_out h⟩
      · cases e
    | _ => cases e

/-! ### [e for x in ..] -/
open Classical in
noncomputable def compGo (tg : Tg) (mc : M Bool) (me : M SV) (en0 : En) : List D → List D → Option (List D)
  | [], acc => some acc
  | d :: r, acc => match setTg tg d en0 with
    | none => none
    | some en1 => match mc en1 with
      | .ok false en2 => if en2 = en1 then compGo tg mc me en0 r acc else none
      | .ok true en2 => if en2 = en1 then (match mkeep me en1 with
        | .ok (.d y) en3 => if en3 = en1 ∧ acc.length < sizeLine then compGo tg mc me en0 r (acc ++ [y]) else none
        | _ => none) else none
      | _ => none
/-- no slot of vs has an object of its own -/
def noOwn (en : En) (vs : List Nat) : Bool := vs.all fun i => match en[i]? with
  | some (some (.own _)) => false
  | _ => true
noncomputable def mComp (tg : Tg) (vs : List Nat) (mc : M Bool) (me : M SV) (ds : List D) : M SV := fun en => if noOwn en vs then (match compGo tg mc me (wipeEn en vs) ds [] with
  | some acc => .ok (.own (.lst acc)) en
  | none => .stuck) else .stuck
/-- what holds in a comprehension's block: D0 the list that is made, as it stands -/
def Gs.blk (G : Gs) (D0 : Addr) (xs : List V) : Gs := { G with W := fun _ _ _ _ => False, B := D0 :: G.B, HB := upd G.HB D0 (.lst xs) }
section
variable {G : Gs} {H H1 : Hp} {L : List Addr} {σ : St} {en : En} {D0 : Addr} {xs : List V}
theorem RelS.toBlk (R : RelS G L σ H en) (n : H D0 = none) : RelS (G.blk D0 []) (D0 :: L) σ (upd H D0 (.lst [])) en where
  own := (R.hide n (.inl ⟨[], rfl⟩)).own
  same := (R.hide n (.inl ⟨[], rfl⟩)).same
  len := R.len
  slot := (R.hide n (.inl ⟨[], rfl⟩)).slot
  apart := R.apart
  base := fun a m => by
    rcases List.mem_cons.mp m with rfl | m
    · exact ⟨List.mem_cons_self, by rw [upd_same]; exact upd_same.symm, own_out R (R.fresh_out n)⟩
    · obtain ⟨h1, h2, h3⟩ := (R.hide (o := .lst []) n (.inl ⟨[], rfl⟩)).base a m
      have hne : a ≠ D0 := fun z => R.fresh_base n (z ▸ m)
      exact ⟨h1, h2.trans (by show G.HB a = upd G.HB D0 (.lst []) a; rw [upd_ne hne]), h3⟩
theorem RelS.ofBlk (R : RelS (G.blk D0 xs) L σ H en) (n : D0 ∉ G.B) : RelS G L σ H en where
  own := R.own
  same := R.same
  len := R.len
  slot := R.slot
  apart := R.apart
  base := fun a m => by
    obtain ⟨h1, h2, h3⟩ := R.base a (List.mem_cons_of_mem _ m)
    have hne : a ≠ D0 := fun z => n (z ▸ m)
    exact ⟨h1, h2.trans (by show upd G.HB D0 (.lst xs) a = G.HB a; rw [upd_ne hne]), h3⟩
theorem RelS.pushBlk (R : RelS (G.blk D0 xs) L σ H en) (n : D0 ∉ G.B) {ys : List V} : RelS (G.blk D0 ys) L σ (upd H D0 (.lst ys)) en := by
  obtain ⟨m, _, h3⟩ := R.base D0 List.mem_cons_self
  refine ⟨fun a ma => ?_, by rw [hid_upd m]; exact R.same, R.len, fun i sv e => ?_, R.apart, fun a ma => ?_⟩
  · by_cases ha : a = D0
    · subst ha
      exact .inl ⟨ys, upd_same⟩
    · rw [upd_ne ha]
      exact R.own a ma
  · have q := R.slot i sv e
    cases sv with
    | d dd => obtain ⟨v, e1, h⟩ := q; exact ⟨v, e1, by rw [hid_upd m]; exact h⟩
    | own b =>
      obtain ⟨c, u, e1, mc, hc, h⟩ := q
      have hne : c ≠ D0 := fun z => h3 i b e (by rw [← z]; exact e1)
      exact ⟨c, u, e1, mc, by rw [upd_ne hne]; exact hc, by rw [hid_upd m]; exact h⟩
    | bor _ => exact q
  · rcases List.mem_cons.mp ma with rfl | mb
    · exact ⟨m, by rw [upd_same]; exact upd_same.symm, h3⟩
    · obtain ⟨h1, h2, h4⟩ := R.base a ma
      have hne : a ≠ D0 := fun z => n (z ▸ mb)
      refine ⟨h1, ?_, h4⟩
      rw [upd_ne hne, h2]
      show upd G.HB D0 (.lst xs) a = upd G.HB D0 (.lst ys) a
      rw [upd_ne hne, upd_ne hne]
end
section
variable {G : Gs} {J : It} {tg : Tg} {mc : M Bool} {me : M SV} {ds : List D} {H : Hp} {L : List Addr} {σ : St} {en : En} {Q : VK} {vs : List Nat} {tt : TT} {te : TE}
theorem comp_run {ok : Hp → List Addr → Prop} (W : Walks G.K J ok ds) (R : RelS G L σ H en) (q : PostE G σ H L (mComp tg vs mc me ds en) Q) (hsub : ∀ j ∈ tg.slots, j ∈ vs)
    (k : ∀ (G' : Gs) H' L', G'.K = G.K → RelS G' L' (wipe σ vs) H' (wipeEn en vs) → Same (hid H L) (hid H' L') → ok H' L')
    (ht : ∀ (D0 : Addr) (xs : List V) (σ' : St) (H' : Hp) Q, tT (G.blk D0 xs) mc σ' H' Q → tt σ' H' Q) (he : ∀ (D0 : Addr) (xs : List V) (σ' : St) (H' : Hp) Q, tE (G.blk D0 xs) (mkeep me) σ' H' Q → te σ' H' Q) :
    ∀ D0, H D0 = none → ∃ W : Nat → Nat → Hp → Prop, (∃ m, W 0 m (upd H D0 (.lst []))) ∧ ∀ i m H, W i m H →
      (J.stop i H ∧ Q (.ref D0) H) ∨ (J.go i H ∧ ∃ Nx : Hp → Prop, (∀ H', Nx H' → ∃ m', m' < m ∧ W (i + 1) m' H') ∧ ∀ x H', J.yld i H x H' → gOf G.K tg x (wipe σ vs) H' fun σ2 H2 => wipe σ2 vs = wipe σ vs ∧ tt σ2 H2 fun b H3 =>
        if b = true then te σ2 H3 fun y H4 => ∃ acc, H4 D0 = some (.lst acc) ∧ acc.length < sizeLine ∧ Nx (upd H4 D0 (.lst (acc ++ [y]))) else Nx H3) := by
  intro D0 nD
  have nB : D0 ∉ G.B := R.fresh_base nD
  have hw := (R.wipe vs)
  unfold mComp at q
  split at q
  · rename_i hno
    cases ec : compGo tg mc me (wipeEn en vs) ds [] with
    | none => rw [ec] at q; exact q.elim
    | some fin =>
      rw [ec] at q
      dsimp only at q
      let Inv : Nat → Nat → Hp → Prop := fun i m H' => i + m = ds.length ∧ ∃ (L' : List Addr) (acc : List D) (xs : List V), RelS (G.blk D0 xs) L' (wipe σ vs) H' (wipeEn en vs) ∧ Same (hid H L) (hid H' L') ∧ DqAll G.K (hid H' L') xs acc ∧
        compGo tg mc me (wipeEn en vs) (ds.drop i) acc = some fin
      refine ⟨Inv, ⟨ds.length, by omega, D0 :: L, [], [], hw.toBlk nD, hid_new nD, .nil, ec⟩, ?_⟩
      rintro i m H1 ⟨hm, L1, acc, xs, R1, s1, hacc, e1⟩
      have hD : H1 D0 = some (.lst xs) := (R1.base D0 List.mem_cons_self).2.1.trans upd_same
      have mD : D0 ∈ L1 := (R1.base D0 List.mem_cons_self).1
      have hok := k (G.blk D0 xs) H1 L1 rfl R1 s1
      by_cases hi : i < ds.length
      · obtain ⟨d, hd⟩ : ∃ d, ds[i]? = some d := ⟨ds[i], List.getElem?_eq_getElem hi⟩
        have hdrop : ds.drop i = d :: ds.drop (i + 1) := by
          rw [List.drop_eq_getElem_cons hi]
          rw [List.getElem?_eq_getElem hi] at hd
          cases hd
          rfl
        rw [hdrop] at e1
        unfold compGo at e1
        refine .inr ⟨W.go i H1 L1 hok hi, fun H' => ∃ (L' : List Addr) (acc : List D) (xs : List V), RelS (G.blk D0 xs) L' (wipe σ vs) H' (wipeEn en vs) ∧ Same (hid H L) (hid H' L') ∧ DqAll G.K (hid H' L') xs acc ∧
          compGo tg mc me (wipeEn en vs) (ds.drop (i + 1)) acc = some fin, fun H' n => ⟨m - 1, by omega, by omega, n⟩, fun x H2 hy => ?_⟩
        obtain ⟨s2, hx⟩ := W.yld i H1 L1 x H2 d hok hd hy R1.own
        have R2 := R1.grow s2
        cases e2 : setTg tg d (wipeEn en vs) with
        | none => rw [e2] at e1; cases e1
        | some en1 =>
          rw [e2] at e1
          dsimp only at e1
          obtain ⟨hl1, ho1⟩ := setTg_out e2
          refine g_run (G := G.blk D0 xs) R2 hx e2 fun σ2 R3 k3 => ?_
          have hwσ : wipe σ2 vs = wipe σ vs := by
            have := wipe_same (σ := wipe σ vs) (σ' := σ2) (vs := vs) (by rw [R2.len, R3.len, hl1]) fun j hj => k3 j fun z => hj (hsub j z)
            rw [this]
            exact wipe_same (by rw [wipe_length]) fun j hj => wipe_keeps σ vs j hj
          have hwe : wipeEn en1 vs = wipeEn en vs := by
            rw [wipeEn_same (en := wipeEn en vs) (en' := en1) hl1.symm fun j hj => ho1 j fun z => hj (hsub j z)]
            exact wipeEn_same (by rw [wipeEn_len]) fun j hj => wipeEn_out en hj
          have back : ∀ {xs' : List V} {L' : List Addr} {H' : Hp}, RelS (G.blk D0 xs') L' σ2 H' en1 → RelS (G.blk D0 xs') L' (wipe σ vs) H' (wipeEn en vs) := fun r => by
            have z := r.wipe vs
            rw [hwσ, hwe] at z
            exact z
          refine ⟨hwσ, ht D0 xs σ2 H2 _ ⟨en1, L1, R3, ?_⟩⟩
          have s12 : Same (hid H1 L1) (hid H2 L1) := hid_mono s2
          cases e3 : mc en1 with
          | stuck => rw [e3] at e1; cases e1
          | exc _ _ => rw [e3] at e1; cases e1
          | ok b en2 =>
            rw [e3] at e1
            intro H3 L3 R4 s3
            cases b with
            | false =>
              dsimp only at e1
              split at e1
              · rename_i he2
                subst he2
                rw [if_neg Bool.false_ne_true]
                exact ⟨L3, acc, xs, back R4, s1.trans (s12.trans s3), DqAll.mono (s12.trans s3) _ hacc, e1⟩
              · cases e1
            | true =>
              dsimp only at e1
              split at e1
              · rename_i he2
                subst he2
                rw [if_pos rfl]
                refine he D0 xs σ2 H3 _ ⟨en2, L3, R4, ?_⟩
                cases e4 : mkeep me en2 with
                | stuck => rw [e4] at e1; cases e1
                | exc _ _ => rw [e4] at e1; cases e1
                | ok sv en3 =>
                  rw [e4] at e1
                  cases sv with
                  | own _ => cases e1
                  | bor _ => cases e1
                  | d y =>
                    dsimp only at e1
                    split at e1
                    · rename_i hc
                      obtain ⟨he3, hlen⟩ := hc
                      subst he3
                      intro v H4 L4 R5 s4 hv
                      have hD4 : H4 D0 = some (.lst xs) := (R5.base D0 List.mem_cons_self).2.1.trans upd_same
                      have mD4 : D0 ∈ L4 := (R5.base D0 List.mem_cons_self).1
                      have st : Same (hid H1 L1) (hid H4 L4) := s12.trans (s3.trans s4)
                      refine ⟨xs, hD4, by rw [hacc.length]; exact hlen, L4, acc ++ [y], xs ++ [v], (back R5).pushBlk nB, by rw [hid_upd mD4]; exact s1.trans st, ?_, e1⟩
                      rw [hid_upd mD4]
                      exact (DqAll.mono st _ hacc).append (.cons hv .nil)
                    · cases e1
              · cases e1
      · have hi' : i = ds.length := by omega
        have hdrop : ds.drop i = [] := List.drop_eq_nil_of_le (by omega)
        rw [hdrop] at e1
        cases e1
        refine .inl ⟨W.stop i H1 L1 hok hi', ?_⟩
        have hbase := (R1.base D0 List.mem_cons_self).2.2
        have R2 : RelS G L1 (wipe σ vs) H1 (wipeEn en vs) := R1.ofBlk nB
        have nown : ∀ (j : Nat) (c : OB), en[j]? = some (some (SV.own c)) → j ∉ vs := fun j c ej mj => by
          have z := List.all_eq_true.mp hno j mj
          simp only [ej] at z
          cases z
        have R3 : RelS G L1 σ H1 en := by
          refine ⟨R2.own, R2.same, R.len, fun j sv ej => ?_, R.apart, fun a ma => ?_⟩
          · by_cases mj : j ∈ vs
            · have z := R.slot j sv ej
              cases sv with
              | d dd => obtain ⟨v, q1, q2⟩ := z; exact ⟨v, q1, Dq.mono s1 _ q2⟩
              | own c => exact absurd mj (nown j c ej)
              | bor _ => exact z
            · have z := R2.slot j sv (by rw [wipeEn_out _ mj]; exact ej)
              rw [wipe_keeps σ vs j mj] at z
              exact z
          · obtain ⟨h1, h2, h3⟩ := R2.base a ma
            refine ⟨h1, h2, fun j c ej => ?_⟩
            have mj := nown j c ej
            have z := h3 j c (by rw [wipeEn_out _ mj]; exact ej)
            rw [wipe_keeps σ vs j mj] at z
            exact z
        refine q _ H1 L1 R3 s1 ⟨D0, .lst xs, rfl, mD, nB, hD, hacc, fun j c ej => ?_⟩
        have mj := nown j c ej
        have z := hbase j c (by rw [wipeEn_out _ mj]; exact ej)
        rw [wipe_keeps σ vs j mj] at z
        exact z
  · exact q.elim
end
/-- over a list, a tuple, a text -/
noncomputable def mLc (tg : Tg) (vs : List Nat) (mi : M SV) (mc : M Bool) (me : M SV) : M SV := mbind (mfrz mi) fun sv en => match sv with
  | .d (.list ds) => mComp tg vs mc me ds en
  | .d (.tuple ds) => mComp tg vs mc me ds en
  | .d (.str z) => mComp tg vs mc me (signs z) en
  | .bor i => (match en[i]? with
    | some (some (.own (.lst ds))) => if vs.contains i then .stuck else mComp tg vs mc me ds en
    | _ => .stuck)
  | _ => .stuck
noncomputable def mLcR (tg : Tg) (vs : List Nat) (mas : M (List SV)) (mc : M Bool) (me : M SV) : M SV := mbind mas fun svs en => match looks en svs with
  | some [.int j] => if -(2 ^ 62) ≤ j ∧ j < 2 ^ 62 then mComp tg vs mc me (rngD 0 j.toNat) en else .stuck
  | _ => .stuck
section
variable {X : Cx} {G : Gs} {elt t iter : Expr} {ifs : List Expr} {scope : Scope} {own : List (Str × Nat)} {mi me : M SV} {mc : M Bool} {tg : Tg} {pos : Pos} {tt : TT} {te : TE}
theorem lc_imp (hsub : ∀ j ∈ tg.slots, j ∈ own.map (·.2)) (ht : ∀ (D0 : Addr) (xs : List V) (σ' : St) (H' : Hp) Q, tT (G.blk D0 xs) mc σ' H' Q → tt σ' H' Q) (he : ∀ (D0 : Addr) (xs : List V) (σ' : St) (H' : Hp) Q, tE (G.blk D0 xs) (mkeep me) σ' H' Q → te σ' H' Q)
    (σ : St) (H : Hp) (Q : VK) (h : tE G (mLc tg (own.map (·.2)) mi mc me) σ H Q) : tLc (iAny G.K (tE G (mfrz mi))) (gOf G.K tg) tt te (own.map (·.2)) σ H Q := by
  obtain ⟨en, L, R, q⟩ := h
  refine (seqE R q).mono fun v H1 ⟨en1, L1, sv, R1, s1, r1, q1⟩ => ?_
  cases sv with
  | own _ => exact q1.elim
  | bor i =>
    obtain ⟨e1, b, e2⟩ := r1
    simp only [e2] at q1
    cases b with
    | dct _ => exact q1.elim
    | lst ds =>
      dsimp only at q1
      split at q1
      · exact q1.elim
      · rename_i hni
        obtain ⟨a, xs, e3, ma, ho, hr⟩ := slot_lst R1 e2
        rw [e1] at e3
        cases e3
        have mi' : i ∉ own.map (·.2) := fun z => hni (List.contains_iff_mem.mpr z)
        refine .inl ⟨a, xs, rfl, .of ho, comp_run walks_list R1 q1 hsub (fun G' H' L' hK R' s' => ?_) ht he⟩
        obtain ⟨a', xs', e4, _, ho', hr'⟩ := slot_lst R' (i := i) (ds := ds) (by rw [wipeEn_out _ mi']; exact e2)
        rw [wipe_keeps σ _ i mi', e1] at e4
        cases e4
        rw [hK] at hr'
        exact ⟨xs', ho', hr'⟩
  | d d =>
    cases d with
    | list ds =>
      cases r1 with
      | lst hs ha => exact .inl ⟨_, _, rfl, .of (hid_same _ _ hs), comp_run walks_list R1 q1 hsub (fun G' H' L' hK R' s' => ⟨_, hid_same _ _ (s' _ _ hs), DqAll.mono s' _ ha⟩) ht he⟩
    | tuple ds =>
      cases r1 with
      | tup hs ha => exact .inr (.inl ⟨_, _, rfl, sqT_mono hid_same hs, comp_run walks_tup R1 q1 hsub (fun G' H' L' hK R' s' => ⟨_, sqT_mono hid_same (sqT_mono s' hs), DqAll.mono s' _ ha⟩) ht he⟩)
    | str z =>
      cases r1
      exact .inr (.inr ⟨z, rfl, comp_run walks_str R1 q1 hsub (fun _ _ _ _ _ _ => trivial) ht he⟩)
    | _ => exact q1.elim
theorem lcR_imp (hsub : ∀ j ∈ tg.slots, j ∈ own.map (·.2)) (ht : ∀ (D0 : Addr) (xs : List V) (σ' : St) (H' : Hp) Q, tT (G.blk D0 xs) mc σ' H' Q → tt σ' H' Q) (he : ∀ (D0 : Addr) (xs : List V) (σ' : St) (H' : Hp) Q, tE (G.blk D0 xs) (mkeep me) σ' H' Q → te σ' H' Q)
    {mas : M (List SV)} (σ : St) (H : Hp) (Q : VK) (h : tE G (mLcR tg (own.map (·.2)) mas mc me) σ H Q) : tLc (iRng1 (tA G mas)) (gOf G.K tg) tt te (own.map (·.2)) σ H Q := by
  obtain ⟨en, L, R, q⟩ := h
  refine (seqAE R q).mono fun vs H1 ⟨en1, L1, svs, R1, s1, r1, q1⟩ => ?_
  cases e : looks en1 svs with
  | none => simp only [e] at q1; exact q1.elim
  | some ds =>
    simp only [e] at q1
    have o := RVs.opd R1 (Same.refl _) r1 e
    split at q1
    · rename_i j heq
      cases heq
      split at q1
      · rename_i hj
        cases o with
        | cons h t => cases t; exact ⟨j, by rw [h.int], hj.1, hj.2, comp_run walks_rng R1 q1 hsub (fun _ _ _ _ _ _ => trivial) ht he⟩
      · exact q1.elim
    · exact q1.elim
end
end L2

namespace L2
open PySem PySem.Spec PyProof.Rows

theorem PE.ex {ι : Sort u} {X : Cx} {e : Expr} {t : ι → TE} (h : ∀ i, PE X e (t i)) : PE X e (fun σ H Q => ∃ i, t i σ H Q) := ⟨fun pins s σ H Q I ⟨i, q⟩ => (h i).run pins s σ H Q I q⟩
theorem PTs.ex {ι : Sort u} {X : Cx} {e : List Expr} {t : ι → TT} (h : ∀ i, PTs X e (t i)) : PTs X e (fun σ H Q => ∃ i, t i σ H Q) := ⟨fun pins s σ H Q I ⟨i, q⟩ => (h i).run pins s σ H Q I q⟩
theorem PTs.imp {X : Cx} {e : List Expr} {t u : TT} (h : PTs X e t) (k : ∀ σ H Q, u σ H Q → t σ H Q) : PTs X e u := ⟨fun pins s σ H Q I q => h.run pins s σ H Q I (k _ _ _ q)⟩
def mYes : M Bool := mpure true
section
variable {X : Cx} {G : Gs}
theorem jts_nil : PTs X [] (tT G mYes) := pts_nil.imp fun σ H Q ⟨en, L, R, q⟩ => q H L R (Same.refl _)
theorem jts_one {c : Expr} {m : M Bool} (h : PT X c (tT G m)) : PTs X [c] (tT G m) := pts_one h
end
/-! ### list comprehensions -/
section
variable {X : Cx} {G : Gs} {elt t iter : Expr} {ifs : List Expr} {scope : Scope} {own : List (Str × Nat)} {mi me : M SV} {mc : M Bool} {tg : Tg} {pos : Pos}
/-- what stands in the block -/
structure InBlk (X : Cx) (G : Gs) (scope : Scope) (t elt : Expr) (ifs : List Expr) (tg : Tg) (mc : M Bool) (me : M SV) : Prop where
  g : ∀ (s : Shared) (H : Hp) (C : Addr) (cl : List (Str × Addr)) (fp : List Addr), PG (X.blk s H scope (compEnvC scope cl C X.env) fp) t (gOf X.K tg)
  c : ∀ (s : Shared) (H : Hp) (C : Addr) (cl : List (Str × Addr)) (fp : List Addr) (D0 : Addr) (xs : List V), PTs (X.blk s H scope (compEnvC scope cl C X.env) fp) ifs (tT (G.blk D0 xs) mc)
  e : ∀ (s : Shared) (H : Hp) (C : Addr) (cl : List (Str × Addr)) (fp : List Addr) (D0 : Addr) (xs : List V), PE (X.blk s H scope (compEnvC scope cl C X.env) fp) elt (tE (G.blk D0 xs) me)
abbrev exT (G : Gs) (mc : M Bool) : TT := fun σ H Q => ∃ p : Addr × List V, tT (G.blk p.1 p.2) mc σ H Q
abbrev exE (G : Gs) (me : M SV) : TE := fun σ H Q => ∃ p : Addr × List V, tE (G.blk p.1 p.2) (mkeep me) σ H Q
theorem je_lc (hc : X.calm = true) (hN : X.N.Nodup) (hK : X.K = G.K) (hi : PE X iter (tE G mi)) (ok : BlkOk X.N X.env.scope scope own) (B : InBlk X G scope t elt ifs tg mc me) (hsub : ∀ j ∈ tg.slots, j ∈ own.map (·.2))
    (hs : ∀ x, foldedSetIterable iter X.env x = pure x := by intro _; rfl) : PE X (.ListComp elt [⟨t, iter, ifs, 0⟩] scope pos) (tE G (mLc tg (own.map (·.2)) mi mc me)) :=
  (pe_lc (tt := exT G mc) (te := exE G me) hc hN (pi_any (je_frz hi)) ok B.g (fun s H C cl fp => PTs.ex fun p => B.c s H C cl fp p.1 p.2) (fun s H C cl fp => PE.ex fun p => je_keep (B.e s H C cl fp p.1 p.2)) hs).imp fun σ H Q h => by
    rw [hK]
    exact lc_imp hsub (fun D0 xs _ _ _ q => ⟨(D0, xs), q⟩) (fun D0 xs _ _ _ q => ⟨(D0, xs), q⟩) σ H Q h
theorem je_lcR {a : Expr} {mas : M (List SV)} {p pos' : Pos} (hc : X.calm = true) (hN : X.N.Nodup) (hK : X.K = G.K) (hgl : Gl X "range") (hm : X.mg "range" = none) (ha : PA X [a] (tA G mas)) (ok : BlkOk X.N X.env.scope scope own) (B : InBlk X G scope t elt ifs tg mc me) (hsub : ∀ j ∈ tg.slots, j ∈ own.map (·.2))
    (hse : starEach [a] X.env = [(false, eval a X.env)] := by rfl) (hs : ∀ x, foldedSetIterable (.Call (.Name "range" p) [a] [] pos') X.env x = pure x := by intro _; rfl) : PE X (.ListComp elt [⟨t, .Call (.Name "range" p) [a] [] pos', ifs, 0⟩] scope pos) (tE G (mLcR tg (own.map (·.2)) mas mc me)) :=
  (pe_lc (tt := exT G mc) (te := exE G me) hc hN (pi_range1 hgl hm ha hse) ok B.g (fun s H C cl fp => PTs.ex fun p => B.c s H C cl fp p.1 p.2) (fun s H C cl fp => PE.ex fun p => je_keep (B.e s H C cl fp p.1 p.2)) hs).imp fun σ H Q h => by
    rw [hK]
    exact lcR_imp hsub (fun D0 xs _ _ _ q => ⟨(D0, xs), q⟩) (fun D0 xs _ _ _ q => ⟨(D0, xs), q⟩) σ H Q h
/-- name = [..] -/
theorem js_setLc (i : Nat) {y : Str} {py spos : Pos} (hc : X.calm = true) (hN : X.N.Nodup) (hy : X.N[i]? = some y) (hyl : X.env.scope.names.lookup y = some .local) (hsw : swapsWith (.ListComp elt [⟨t, iter, ifs, 0⟩] scope pos) (some (.Name y py)) spos.line X.env = pure true) (hK : X.K = G.K) (hi : PE X iter (tE G mi))
    (ok : BlkOk X.N X.env.scope scope own) (B : InBlk X G scope t elt ifs tg mc me) (hsub : ∀ j ∈ tg.slots, j ∈ own.map (·.2))
    (hs : ∀ x, foldedSetIterable iter X.env x = pure x := by intro _; rfl) : PS X (.Assign [.Name y py] (.ListComp elt [⟨t, iter, ifs, 0⟩] scope pos) spos) (tS G [i] (mSet i (mLc tg (own.map (·.2)) mi mc me))) :=
  (ps_setLc (tt := exT G mc) (te := exE G me) hc hN hy hyl hsw (pi_any (je_frz hi)) ok B.g (fun s H C cl fp => PTs.ex fun p => B.c s H C cl fp p.1 p.2) (fun s H C cl fp => PE.ex fun p => je_keep (B.e s H C cl fp p.1 p.2)) hs).imp fun E σ H h => by
    rw [hK]
    exact lc_imp hsub (fun D0 xs _ _ _ q => ⟨(D0, xs), q⟩) (fun D0 xs _ _ _ q => ⟨(D0, xs), q⟩) σ H _ (set_imp E σ H h)
theorem js_setLcR (i : Nat) {a : Expr} {mas : M (List SV)} {p pos' : Pos} {y : Str} {py spos : Pos} (hc : X.calm = true) (hN : X.N.Nodup) (hy : X.N[i]? = some y) (hyl : X.env.scope.names.lookup y = some .local) (hsw : swapsWith (.ListComp elt [⟨t, .Call (.Name "range" p) [a] [] pos', ifs, 0⟩] scope pos) (some (.Name y py)) spos.line X.env = pure true) (hK : X.K = G.K) (hgl : Gl X "range") (hm : X.mg "range" = none) (ha : PA X [a] (tA G mas))
    (ok : BlkOk X.N X.env.scope scope own) (B : InBlk X G scope t elt ifs tg mc me) (hsub : ∀ j ∈ tg.slots, j ∈ own.map (·.2)) (hse : starEach [a] X.env = [(false, eval a X.env)] := by rfl)
    (hs : ∀ x, foldedSetIterable (.Call (.Name "range" p) [a] [] pos') X.env x = pure x := by intro _; rfl) : PS X (.Assign [.Name y py] (.ListComp elt [⟨t, .Call (.Name "range" p) [a] [] pos', ifs, 0⟩] scope pos) spos) (tS G [i] (mSet i (mLcR tg (own.map (·.2)) mas mc me))) :=
  (ps_setLc (tt := exT G mc) (te := exE G me) hc hN hy hyl hsw (pi_range1 hgl hm ha hse) ok B.g (fun s H C cl fp => PTs.ex fun p => B.c s H C cl fp p.1 p.2) (fun s H C cl fp => PE.ex fun p => je_keep (B.e s H C cl fp p.1 p.2)) hs).imp fun E σ H h => by
    rw [hK]
    exact lcR_imp hsub (fun D0 xs _ _ _ q => ⟨(D0, xs), q⟩) (fun D0 xs _ _ _ q => ⟨(D0, xs), q⟩) σ H _ (set_imp E σ H h)
end
/-! ### a op b op c -/
def mChain (f g : D → D → M SV) (ma mb mc : M SV) : M SV := mbind (mfrz ma) fun a => mbind (mfrz mb) fun b => fun en => match look en a, look en b with
  | some x, some y => (mbind (f x y) fun r => match r with
    | .d (.bool true) => mOp1 (fun z => g y z) mc
    | .d (.bool false) => mpure (.d (.bool false))
    | _ => mstuck) en
  | _, _ => .stuck
/-- the tests' own functions leave the state -/
def Quiet (f : D → D → M SV) : Prop := ∀ x y en, f x y en = .stuck ∨ ∃ d, f x y en = .ok (.d d) en
section
variable {X : Cx} {G : Gs} {a b c : Expr} {ma mb mc : M SV} {r r' : R2} {f g : D → D → M SV} {pos : Pos}
theorem chain_imp (F : Fits2 G r f) (F' : Fits2 G r' g) (hq : Quiet f) (hK : ∀ d, isFlat d = true → True) (hfl : ∀ x y en d, f x y en = .ok (.d d) en → isFlat y = true) (σ : St) (H : Hp) (Q : VK) (h : tE G (mChain f g ma mb mc) σ H Q) : tChain r r' (tE G (mfrz ma)) (tE G (mfrz mb)) (tE G (mfrz mc)) σ H Q := by
  obtain ⟨en, L, R, q⟩ := h
  refine (seqE R q).mono fun x H1 ⟨en1, L1, sv1, R1, s1, r1, q1⟩ => ?_
  refine (seqE R1 q1).mono fun y H2 ⟨en2, L2, sv2, R2, s2, r2, q2⟩ => ?_
  cases e1 : look en2 sv1 with
  | none => simp only [e1] at q2; exact q2.elim
  | some d1 =>
    cases e2 : look en2 sv2 with
    | none => simp only [e1, e2] at q2; exact q2.elim
    | some d2 =>
      simp only [e1, e2] at q2
      have o1 := RV.opd R2 s2 r1 e1
      have o2 := RV.opd R2 (Same.refl _) r2 e2
      refine F σ H2 L2 en2 x y d1 d2 _ R2 o1 o2 ?_
      rcases hq d1 d2 en2 with e3 | ⟨d, e3⟩
      · unfold mbind at q2; rw [e3] at q2; exact q2.elim
      · rw [e3]
        unfold mbind at q2
        rw [e3] at q2
        dsimp only at q2
        intro v H3 L3 R3 s3 hv
        have q3 := q2.from s3
        cases d with
        | bool k =>
          cases hv
          refine ⟨k, rfl, ?_⟩
          cases k with
          | false => exact q3 _ H3 L3 R3 (Same.refl _) (.bl false)
          | true =>
            rw [if_pos rfl]
            have hf := hfl _ _ _ _ e3
            have o2' : Dq G.K (hid H3 L3) y d2 := Dq.mono s3 _ (o2.flat hf)
            refine op1_imp (r := fun w H4 Q => r' y w H4 Q) (f := fun z => g d2 z) (ma := mc) (fun σ' H' L' en' w dw Q' R' ow q' => ?_) σ H3 Q ⟨en2, L3, R3, q3⟩
            have oy : Opd G.K H' L' y d2 := .inl (by
              have hz : ∀ {K : Kf} {H H' : Hp}, Dq K H y d2 → isFlat d2 = true → Dq K H' y d2 := fun h f => by
                cases h <;> first | (cases f; done) | constructor
              exact hz o2' hf)
            exact F' σ' H' L' en' y w d2 dw Q' R' oy ow q'
        | _ => exact q3.elim
theorem je_chain {op op' : CmpOp} (ho : OpR X (compareOp op) r) (ho' : OpR X (compareOp op') r') (F : Fits2 G r f) (F' : Fits2 G r' g) (hq : Quiet f) (hfl : ∀ x y en d, f x y en = .ok (.d d) en → isFlat y = true) (ha : PE X a (tE G ma)) (hb : PE X b (tE G mb)) (hc : PE X c (tE G mc))
    (hm : lastMarks [op, op'] [b, c] = false := by with_unfolding_all rfl) : PE X (.Compare a [op, op'] [b, c] pos) (tE G (mChain f g ma mb mc)) := (pe_chain ho ho' (je_frz ha) (je_frz hb) (je_frz hc) hm).imp (chain_imp F F' hq (fun _ _ => trivial) hfl)
theorem jt_chain {op op' : CmpOp} (ho : OpR X (compareOp op) r) (ho' : OpR X (compareOp op') r') (F : Fits2 G r f) (F' : Fits2 G r' g) (hq : Quiet f) (hfl : ∀ x y en d, f x y en = .ok (.d d) en → isFlat y = true) (ha : PE X a (tE G ma)) (hb : PE X b (tE G mb)) (hc : PE X c (tE G mc))
    (hm : lastMarks [op, op'] [b, c] = false := by with_unfolding_all rfl) : PT X (.Compare a [op, op'] [b, c] pos) (tT G (mB (mChain f g ma mb mc))) := (pt_chain ho ho' (je_frz ha) (je_frz hb) (je_frz hc) hm).imp (test_imp (chain_imp F F' hq (fun _ _ => trivial) hfl))
end
theorem quiet_of {g : D → D → Option D} {f : D → D → M SV} (h : ∀ x y, f x y = ivD (g x y)) : Quiet f := fun x y en => by
  rw [h]
  unfold ivD
  cases g x y with
  | none => exact .inl rfl
  | some d => exact .inr ⟨d, rfl⟩
theorem quiet_le : Quiet dLe := fun x y en => by
  unfold dLe
  split
  · exact .inr ⟨_, rfl⟩
  · exact .inr ⟨_, rfl⟩
  · exact .inl rfl
theorem flat_le : ∀ x y en d, dLe x y en = .ok (.d d) en → isFlat y = true := fun x y en d e => by
  unfold dLe at e
  split at e
  · rfl
  · rfl
  · cases e
theorem quiet_lt : Quiet dLt := fun x y en => by
  unfold dLt
  split
  · exact .inr ⟨_, rfl⟩
  · exact .inr ⟨_, rfl⟩
  · exact .inl rfl
theorem flat_lt : ∀ x y en d, dLt x y en = .ok (.d d) en → isFlat y = true := fun x y en d e => by
  unfold dLt at e
  split at e
  · rfl
  · rfl
  · cases e
end L2

namespace L2
open PySem PySem.Spec PyProof.Rows

/-! ### * of a list -/
def rMulL : R2 := fun x y H Q => rMulA x y H Q ∨ rRep x y H Q
theorem op_mulL {X : Cx} : OpR X (binaryOp .Mult) rMulL := op_mulA.or op_rep
def repD (ds : List D) (k : Nat) : List D := (List.replicate k ds).flatten
def dMulL : D → D → M SV
  | .list ds, .int k => if (-(2 ^ 63) ≤ k ∧ k < 2 ^ 63) ∧ ds.length * k.toNat ≤ sizeLine then mpure (.own (.lst (repD ds k.toNat))) else mstuck
  | x, y => dMulA x y
theorem DqAll.rep {K : Kf} {H : Hp} {vs : List V} {ds : List D} (h : DqAll K H vs ds) : ∀ k : Nat, DqAll K H (List.replicate k vs).flatten (List.replicate k ds).flatten
  | 0 => .nil
  | k + 1 => by
    rw [List.replicate_succ, List.replicate_succ, List.flatten_cons, List.flatten_cons]
    exact h.append (DqAll.rep h k)
section
variable {G : Gs}
theorem fit_mulL : Fits2 G rMulL dMulL := by
  intro σ H L en x y dx dy Q R ox oy q
  unfold dMulL at q
  split at q
  · rename_i ds k
    split at q
    · rename_i h
      obtain ⟨a, xs, rfl, h1, h2⟩ := ox.list
      exact .inr ⟨a, k, xs, rfl, oy.int, h1, h.1.1, h.1.2, by rw [h2.length]; exact h.2, fun p n => post_lst R n (h2.rep k.toNat) q⟩
    · exact q.elim
  · exact .inl (fit_mulA σ H L en x y _ _ Q R ox oy q)
end
/-! ### xs.insert(i, y) -/
def mInsert (i : Nat) (mk me : M SV) : M Ct := fun en => match en[i]? with
  | some (some (.own (.lst _))) => mbind (mfrz mk) (fun sk => mbind (mkeep me) fun sv en => match look en sk, sv, en[i]? with
    | some (.int k), .d d, some (some (.own (.lst ds))) => if ds.length < sizeLine ∧ 0 ≤ k ∧ k < 2 ^ 63 then .ok .nx (en.set i (some (.own (.lst (ds.take k.toNat ++ [d] ++ ds.drop k.toNat))))) else .stuck
    | _, _, _ => .stuck) en
  | _ => .stuck
section
variable {X : Cx} {G : Gs} {e e2 : Expr} {me mk : M SV} {pos : Pos}
theorem js_insert (i : Nat) {x : Str} {p apos cpos : Pos} (hK : X.K = G.K) (hN : X.N[i]? = some x) (hv : Vis X.env.scope x) (hk : PE X e (tE G mk)) (he : PE X e2 (tE G me)) (hd : (x == ("__debug__" : Str)) = false := by decide) (hcd : (x == ("__classdict__" : Str)) = false := by decide)
    (hbase : attributeBase (.Name x p) "insert" X.env (eval (.Name x p) X.env) = eval (.Name x p) X.env := by rfl)
    (hfew : ((backTo cpos (starEach [e, e2] X.env)).all (fun x => !x.1) && (backToKw cpos (keywordEach [] X.env)).all (fun x => x.1.isSome) && decide (([e, e2] : List Expr).length + ([] : List Keyword).length + (if ([] : List Keyword).isEmpty then 0 else 1) < 30)) = true := by rfl)
    (hline : (apos.endLine == cpos.line) = true := by rfl) (hse : starEach [e, e2] X.env = (false, eval e X.env) :: starEach [e2] X.env := by rfl) (hse2 : starEach [e2] X.env = (false, eval e2 X.env) :: starEach [] X.env := by rfl)
    (hpl : (backTo cpos (starEach [e2] X.env)).any (·.1) = false := by rfl)
    (hs : swapsWith (.Call (.Attribute (.Name x p) "insert" apos) [e, e2] [] cpos) none pos.line X.env = pure false := by rfl) :
    PS X (.Expr (.Call (.Attribute (.Name x p) "insert" apos) [e, e2] [] cpos) pos) (tS G [] (mInsert i mk me)) :=
  (ps_expr (pe_bm PySem.F.plainAttrs_list PySem.F.slot_list_insert PySem.F.type_list_insert mt_insert (pe_var hN hv hd hcd) (pa_cons (je_frz hk) (pa_cons (je_keep he) pa_nil hse2) hse) hbase hfew hline hse hpl) hs).imp fun E σ H h => by
    obtain ⟨en, L, R, q⟩ := h
    unfold mInsert at q
    split at q
    · rename_i ds0 e0
      obtain ⟨a, xs0, e1, m0, ho0, hr0⟩ := slot_lst R e0
      refine ⟨.ref a, e1, .inl ⟨rfl, xs0, .of ho0⟩, ?_⟩
      refine (seqES R q).mono fun k H1 ⟨en1, L1, sk, R1, s1, r1, q1⟩ => ?_
      refine (seqES R1 q1).mono fun y H2 ⟨en2, L2, sv, R2, s2, r2, q2⟩ => ?_
      split at q2
      · rename_i kk d ds ek e2'
        split at q2
        · rename_i hc
          obtain ⟨a', xs, e3, m, ho, hr⟩ := slot_lst R2 e2'
          rw [e1] at e3
          cases e3
          have ok := RV.opd R2 s2 r1 ek
          refine ⟨a, xs, kk, y, rfl, by rw [ok.int], ho, by rw [hr.length]; exact hc.1, hc.2.1, hc.2.2, ?_⟩
          exact q2 σ _ L2 (R2.put e2' e1 m (b' := .lst (ds.take kk.toNat ++ [d] ++ ds.drop kk.toNat)) (((hr.take kk.toNat).append (.cons r2 .nil)).append (hr.drop kk.toNat))) (by rw [hid_upd m]; exact Same.refl _) Keeps.refl
        · exact q2.elim
      · exact q2.elim
    · exact q.elim
end
/-! ### slices -/
def cutD (ds : List D) (lo hi : Option Int) : List D := (ds.drop (HT.sIx ds.length 0 lo)).take (HT.sIx ds.length ds.length hi - HT.sIx ds.length 0 lo)
def rSlAll (K : Kf) : V → Option Int → Option Int → Hp → VK → Prop := fun x lo hi H Q => rSlL K x lo hi H Q ∨ rSlA K x lo hi H Q ∨ rSlS x lo hi H Q
theorem sl_all {X : Cx} : SlR X (rSlAll X.K) := sl_list.or (sl_tupA.or sl_str)
def dSl : D → Option Int → Option Int → M SV
  | .list ds, lo, hi => mpure (.own (.lst (cutD ds lo hi)))
  | .tuple ds, lo, hi => mpure (.d (.tuple (cutD ds lo hi)))
  | .str z, lo, hi => if z.length ≤ sizeLine then mpure (.d (.str (cutS z lo hi))) else mstuck
  | .dict [(.none, .list ds)], lo, hi => mpure (.own (.lst (cutD ds lo hi)))
  | _, _, _ => mstuck
theorem DqAll.cut {K : Kf} {H : Hp} {vs : List V} {ds : List D} (h : DqAll K H vs ds) (lo hi : Option Int) : DqAll K H (cutV vs lo hi) (cutD ds lo hi) := by
  unfold cutV cutD
  rw [h.length]
  exact (h.drop _).take _
section
variable {G : Gs}
theorem sl_fit {σ : St} {H : Hp} {L : List Addr} {en : En} {x : V} {dx : D} {lo hi : Option Int} {Q : VK} (R : RelS G L σ H en) (ox : Opd G.K H L x dx) (q : PostE G σ H L (dSl dx lo hi en) Q) : rSlAll G.K x lo hi H Q := by
  unfold dSl at q
  split at q
  · obtain ⟨a, xs, rfl, h1, h2⟩ := ox.list'
    exact .inl ⟨a, xs, rfl, h1, fun p n => post_lst R n (h2.cut lo hi) q⟩
  · obtain ⟨a, xs, rfl, h1, h2⟩ := ox.tupleD
    refine .inr (.inl ⟨a, xs, rfl, sqT_mono hid_same h1, fun h => ?_, fun _ p n => post_tup R n (h2.cut lo hi) q⟩)
    refine post_d R (.tup h1 ?_) q
    have e : cutV xs lo hi = xs := by
      unfold cutV
      rw [h.1, h.2, List.drop_zero, Nat.sub_zero, List.take_length]
    have z := h2.cut lo hi
    rw [e] at z
    exact z
  · split at q
    · rename_i h
      exact .inr (.inr ⟨_, ox.str, h, post_d R (.str _) q⟩)
    · exact q.elim
  · rename_i ds
    have dqi : ∀ ns : List Int, DqAll G.K (hid H L) (ns.map V.int) (ns.map .int) := fun ns => by
      induction ns with
      | nil => exact .nil
      | cons i r ih => exact .cons (.int i) ih
    rcases ox.dct with ⟨a, ns, rfl, e2, hs⟩ | ⟨a, kvs, ks, rfl, e2, _⟩
    · injection e2 with e2 _
      injection e2 with _ e2
      injection e2 with e2
      subst e2
      exact .inl ⟨a, _, rfl, hs, fun p n => post_lst R n ((dqi ns).cut lo hi) q⟩
    · cases ks with
      | nil => cases e2
      | cons p r =>
        injection e2 with e2 _
        injection e2 with e2 _
        cases h1 : p.1 <;> (rw [h1] at e2; exact nomatch e2)
  · exact q.elim
def mSl2 (ma : M SV) (lo hi : Option (M SV)) : M SV := mbind (mfrz ma) fun a => match lo, hi with
  | none, none => fun en => match look en a with
    | some x => dSl x none none en
    | none => .stuck
  | some ml, none => mbind (mfrz ml) fun l en => match look en a, look en l with
    | some x, some (.int i) => dSl x (some i) none en
    | _, _ => .stuck
  | none, some mh => mbind (mfrz mh) fun h en => match look en a, look en h with
    | some x, some (.int j) => dSl x none (some j) en
    | _, _ => .stuck
  | some ml, some mh => mbind (mfrz ml) fun l en => match look en l with
    | some (.int i) => mbind (mfrz mh) (fun h en => match look en a, look en h with
      | some x, some (.int j) => dSl x (some i) (some j) en
      | _, _ => .stuck) en
    | _ => .stuck
variable {X : Cx} {e lo hi : Expr} {ma ml mh : M SV} {pos p2 : Pos}
theorem je_sl (hK : X.K = G.K) (he : PE X e (tE G ma)) : PE X (.Subscript e (.Slice none none none p2) pos) (tE G (mSl2 ma none none)) := (pe_slice sl_all (je_frz he) po_none po_none).imp fun σ H Q h => by
  obtain ⟨en, L, R, q⟩ := h
  refine (seqE R q).mono fun x H1 ⟨en1, L1, sv1, R1, s1, r1, q1⟩ => ?_
  rw [hK]
  cases e1 : look en1 sv1 with
  | none => simp only [e1] at q1; exact q1.elim
  | some dx =>
    simp only [e1] at q1
    exact sl_fit R1 (RV.opd R1 (Same.refl _) r1 e1) q1
theorem je_slL (hK : X.K = G.K) (he : PE X e (tE G ma)) (hl : PE X lo (tE G ml)) : PE X (.Subscript e (.Slice (some lo) none none p2) pos) (tE G (mSl2 ma (some ml) none)) := (pe_slice sl_all (je_frz he) (po_some (je_frz hl)) po_none).imp fun σ H Q h => by
  obtain ⟨en, L, R, q⟩ := h
  refine (seqE R q).mono fun x H1 ⟨en1, L1, sv1, R1, s1, r1, q1⟩ => ?_
  refine (seqE R1 q1).mono fun y H2 ⟨en2, L2, sv2, R2, s2, r2, q2⟩ => ?_
  rw [hK]
  split at q2
  · rename_i dx i e1 e2
    have oy := RV.opd R2 (Same.refl _) r2 e2
    exact ⟨i, oy.int, sl_fit R2 (RV.opd R2 s2 r1 e1) q2⟩
  · exact q2.elim
theorem je_slH (hK : X.K = G.K) (he : PE X e (tE G ma)) (hh : PE X hi (tE G mh)) : PE X (.Subscript e (.Slice none (some hi) none p2) pos) (tE G (mSl2 ma none (some mh))) := (pe_slice sl_all (je_frz he) po_none (po_some (je_frz hh))).imp fun σ H Q h => by
  obtain ⟨en, L, R, q⟩ := h
  refine (seqE R q).mono fun x H1 ⟨en1, L1, sv1, R1, s1, r1, q1⟩ => ?_
  refine (seqE R1 q1).mono fun y H2 ⟨en2, L2, sv2, R2, s2, r2, q2⟩ => ?_
  rw [hK]
  split at q2
  · rename_i dx i e1 e2
    have oy := RV.opd R2 (Same.refl _) r2 e2
    exact ⟨i, oy.int, sl_fit R2 (RV.opd R2 s2 r1 e1) q2⟩
  · exact q2.elim
theorem je_slLH (hK : X.K = G.K) (he : PE X e (tE G ma)) (hl : PE X lo (tE G ml)) (hh : PE X hi (tE G mh)) : PE X (.Subscript e (.Slice (some lo) (some hi) none p2) pos) (tE G (mSl2 ma (some ml) (some mh))) := (pe_slice sl_all (je_frz he) (po_some (je_frz hl)) (po_some (je_frz hh))).imp fun σ H Q h => by
  obtain ⟨en, L, R, q⟩ := h
  refine (seqE R q).mono fun x H1 ⟨en1, L1, sv1, R1, s1, r1, q1⟩ => ?_
  refine (seqE R1 q1).mono fun y H2 ⟨en2, L2, sv2, R2, s2, r2, q2⟩ => ?_
  split at q2
  · rename_i i e2
    have oy := RV.opd R2 (Same.refl _) r2 e2
    refine ⟨i, oy.int, ?_⟩
    refine (seqE R2 q2).mono fun z H3 ⟨en3, L3, sv3, R3, s3, r3, q3⟩ => ?_
    rw [hK]
    split at q3
    · rename_i dx j e1 e3
      have oz := RV.opd R3 (Same.refl _) r3 e3
      exact ⟨j, oz.int, sl_fit R3 (RV.opd R3 (s2.trans s3) r1 e1) q3⟩
    · exact q3.elim
  · exact q2.elim
end
/-! ### f(k = v, ..): no argument by its place -/
section
variable {X : Cx} {G : Gs} {e : Expr} {kws : List Keyword} {m : M SV} {r : M (List SV)} {nm : Option Str} {kpos : Pos}
theorem jk_nil : PK X [] (tA G mNil) := ⟨fun pos pins s σ H Q I h => pk_nil.run pos pins s σ H Q I (by
  obtain ⟨en, L, R, q⟩ := h
  exact q _ H L R (Same.refl _) .nil)⟩
theorem cons_imp (σ : St) (H : Hp) (Q : List V → Hp → Prop) (h : tA G (mCons m r) σ H Q) : tCons (tE G (mfrz m)) (tA G r) σ H Q := by
  obtain ⟨en, L, R, q⟩ := h
  refine (seqA R q).mono fun v H1 ⟨en1, L1, sv1, R1, s1, r1, q1⟩ => ?_
  refine (seqAA R1 q1).mono fun vs H2 ⟨en2, L2, svs, R2, s2, r2, q2⟩ => ?_
  by_cases hl : lentOk en2 sv1 = true
  · simp only [hl, if_true] at q2
    have n : ∀ b, sv1 ≠ .own b := fun b z => by subst z; cases hl
    refine q2 (v :: vs) H2 L2 R2 (Same.refl _) (.cons ⟨RV.later R2 s2 r1 n fun i e => ?_, n⟩ r2)
    subst e
    unfold lentOk at hl
    cases q : en2[i]? with
    | none => simp [q] at hl
    | some o => cases o with
      | none => simp [q] at hl
      | some s => cases s with
        | own b => exact ⟨b, rfl⟩
        | d _ => simp [q] at hl
        | bor _ => simp [q] at hl
  · simp only [hl] at q2
    exact q2.elim
theorem jk_cons (ha : PE X e (tE G m)) (hr : PK X kws (tA G r)) : PK X (⟨nm, e, kpos⟩ :: kws) (tA G (mCons m r)) :=
  ⟨fun pos pins s σ H Q I h => (pk_cons (je_frz ha) hr).run pos pins s σ H Q I (cons_imp σ H Q h)⟩
variable {k : Nat} {f : Addr} {fd : FuncData} {ps ks : List Str} {F : Fm} {mas : M (List SV)} {x : Str} {p pos : Pos}
/-- names in the parameters' own order -/
def KwB (K : Kf) (fd : FuncData) (ps : List Str) : Prop := ∀ (s : Shared) (us : List Value), K.In s.heap → us.length = ps.length → BindsTo s fd ⟨[], ps.zip us⟩ (ps.zip us)
theorem je_callKw (hF : FnOk X.prog X.w X.K X.mg X.base (L2N.CX X.prog X.w) k f fd ps (spF G.K G.mg ps.length F)) (hr : Room k X.A) (tk : L2N.Takes X G.W) (hg : Gl X x) (hm : X.mg x = some (.ref f)) (hk : PySem.W.keepIn X.K (.ref f) = true) (hb : KwB X.K fd ps)
    (hn : ArgN mas ps.length) (hkw : PK X kws (tA G mas)) (hall : (backToKw pos (keywordEach kws X.env)).all (·.1.isSome) = true := by rfl) (hks : (backToKw pos (keywordEach kws X.env)).filterMap (·.1) = ps := by rfl) (hdb : (x == ("__debug__" : Str)) = false := by decide)
    (hpl : ((backTo pos (starEach [] X.env)).any (·.1) || (backToKw pos (keywordEach kws X.env)).any (·.1.isNone)) = false := by rfl) :
    PE X (.Call (.Name x p) [] kws pos) (tE G (mCall F mas)) := by
  refine ⟨fun pins s σ H Q I h => ?_⟩
  refine wpAny_Call_Name_kw (ld_glob I hg hm ?_ hdb)
  refine PySem.W.callWith_KW0 (h₀ := X.base) I.ok.mod.kin hk hall ?_ hpl
  have h' : tCallS (spF G.K G.mg ps.length F) (WE G.W) (tA G mas) σ H Q := call_imp hn σ H Q h
  refine thn (hkw.run pos pins s σ H _ I h') fun ws s2 ⟨zs, H2, I2, rz, q2⟩ => ⟨I2.kIn, ?_⟩
  rw [hks]
  have hl : ws.length = ps.length := by rw [← rz.length]; exact q2.1
  refine wpAny_call (codeAny_mono (hF.run X.A X.stack s2 H2 ⟨[], ps.zip ws⟩ ws zs Q (WE G.W σ) hr I2.env0 (hb s2 ws I2.kIn hl) rz q2) fun r s' hq => ?_)
  cases r with
  | error er => exact (L2N.passAt tk σ) pins H2 s2 er s' I2 hq
  | ok fl =>
    cases fl with
    | ret u => exact I2.after hq
    | next => exact False.elim hq
    | brk => exact False.elim hq
    | cont => exact False.elim hq
end
end L2

namespace L2
open PySem PySem.Spec PyProof.Rows

/-! ### an exception with an own __init__, made where nothing is handled -/
section
variable {X : Cx} {e : Expr} {es : List Expr} {ta : TA} {p pos : Pos} {CX : CXT} {x : Str} {C fI : Addr} {k : Nat} {fd : FuncData} {ps : List Str} {sp : Sp}
theorem mkN (T : OexC X.K C)
    (iC : W.findIn X.K (.ref C) "__init__" = some (some (.ref fI))) (tI : W.typeIn X.K (.ref fI) = some (.type "function"))
    (F1 : FnOk X.prog X.w X.K X.mg X.base CX k fI fd ps sp) (hr : Room (k + 1) X.A) (hb : Binds X.K fd ps []) (hx : Passes CX X fun _ _ _ => False)
    (hg : Gl X x) (hm : X.mg x = some (.ref C)) (ha : PA X (e :: es) ta) (hdb : (x == ("__debug__" : Str)) = false := by decide)
    (he : starEach (e :: es) X.env = (false, eval e X.env) :: starEach es X.env := by rfl) (hpl : (backTo pos (starEach es X.env)).any (·.1) = false := by rfl) :
    L2N.PMk X (.Call (.Name x p) (e :: es) [] pos) (tMkO C sp [] ta) := by
  intro pins s σ H Q I h
  obtain ⟨nm, q, N, bs, bm, sn, sub, ab, col, dd, k0, k1, k2, k3, k5, hC, hbm⟩ := T.cls
  refine wpAny_Call_Name_kw (ld_glob I hg hm ?_ hdb)
  refine W.callWith_K (h₀ := X.base) I.ok.mod.kin T.kC ?_ he hpl
  refine thn (ha.run pos pins s σ H _ I h) fun us s1 hh => ?_
  obtain ⟨vs, H1, I1, r1, hl, q1⟩ := hh
  refine ⟨I1.kIn, ?_⟩
  obtain ⟨hp, g, dr, tk, os⟩ := s1
  have fr : H1 (hp.objs.size + 1) = none := I1.hok.fresh (Nat.le_succ _)
  have kk : ∀ b o, hp.get? b = some o → ((hp.push (W.kdv_tup us)).push (HandSPX.excO C hp.objs.size)).get? b = some o := fun b o z => Heap.get?_push_of_some _ (Heap.get?_push_of_some _ z)
  have hget : ((hp.push (W.kdv_tup us)).push (HandSPX.excO C hp.objs.size)).get? (hp.objs.size + 1) = some (HandSPX.excO C hp.objs.size) := by heap_get
  have I2 := I1.laid (t' := tk) kk (Nat.le_succ _) (exo_ok hget)
  have hq := q1 _ fr
  have hul : us.length = vs.length := (Paired.length r1).symm
  have hus : us.length ≤ sizeLine := by
    rw [sizeLine_eq, hul]
    omega
  have hpl2 : (Value.ref (hp.objs.size + 1) :: us ++ []).length = ps.length := by
    have z := F1.len _ _ _ _ hq
    simp only [List.length_cons, List.length_append, List.length_nil, Nat.add_zero] at z ⊢
    omega
  have b2 := hb ⟨(hp.push (W.kdv_tup us)).push (HandSPX.excO C hp.objs.size), g, dr, tk, os⟩ (.ref (hp.objs.size + 1) :: us) I2.kIn hpl2
  rw [List.append_nil] at b2 hq
  refine wpAny_call (HandSPX.call_own F.excBase_ValueError (fun Y => HandSPX.refsVE_contains Y bm hbm) (I1.kIn _ _ hC) (W.looks_findIn I1.kIn iC) (fun self => W.bind_fn I1.kIn self tI) hus ?_)
  refine codeAny_mono (F1.run _ X.stack ⟨(hp.push (W.kdv_tup us)).push (HandSPX.excO C hp.objs.size), g, dr, tk, os⟩ _ ⟨.ref (hp.objs.size + 1) :: us, []⟩ (.ref (hp.objs.size + 1) :: us) (V.ref (hp.objs.size + 1) :: vs) _ _ (hr.make C us []) (I2.env0.make C us []) b2 (.cons (by exact rfl) r1) hq) ?_
  intro r s' hq'
  cases r with
  | error er => exact hx pins σ _ _ er s' I2 hq'
  | ok fl =>
    cases fl with
    | next => exact False.elim hq'
    | brk => exact False.elim hq'
    | cont => exact False.elim hq'
    | ret u =>
      obtain ⟨v, H2, os2, bare2, un2, hok2, rv, ev, d, fs, ea, ed, hd1, q2⟩ := hq'
      subst ev
      obtain ⟨h2, g2, d2, t2, os'⟩ := s'
      obtain ⟨t0, G, J, kG, ge, hoe, na⟩ := mk_end0 (g2 := g2) (d2 := d2) (t2 := t2) I1 (Nat.le_succ _) kk un2 hok2 os2 bare2 ea ed hd1
      refine ⟨rv, hp.objs.size + 1, _, _, ⟨G, g2, d2, t2, os'⟩, _, .ref C, some d, rfl, J, kG, ge, hoe, ⟨rfl, rfl, fun vs hv => ?_⟩, rfl, rfl, na, rfl, bare2, raises_own T.exC T.tyC, q2⟩
      cases hv
      rfl
end
/-! ### the __init__ of an exception: its fields, one or two -/
def spI (C : Addr) (nms : List Str) : Sp := fun vs H Q _ => ∃ (a : Addr) (xs : List V), vs = .ref a :: xs ∧ xs.length = nms.length ∧ H a = some (exo a C none) ∧
  ∀ (d : Addr) (H' : Hp), H d = none → d ≠ a → H' a = some (exo a C (some d)) → H' d = some (exd d (nms.zip xs).reverse) → (∀ b, b ≠ a → b ≠ d → H' b = H b) → Q .non H'
section
variable {P : Program} {w : World} {K : Kf} {mg : Str → Option Value} {base : Heap} {x qual : Str} {st : Stmt} {f C : Addr} {fd : FuncData} {N ps : List Str} {k : Nat}
theorem ok_init1 {n1 : Str} (F : Fun K x qual st f fd) (S : FnScope N ps (defScope st)) (hN : N.length = 2) (hp : ps.length = 2) (T : OexC K C) (no : W.findIn K (.ref C) n1 = some none)
    (hb : ∀ (cdv : Value) (A : Around) (outer : List Env) (s : Shared) (H : Hp) (E : XK), PSs (cxOf (L2N.CX P w) P w K mg base N qual (defScope st) f cdv A outer s H E) (defBody st) (tOst K n1 (tVar 0) (tVar 1))) :
    FnOk P w K mg base (L2N.CX P w) (k + 1) f fd ps (spI C [n1]) := by
  refine okN F S (fun vs H Q E h => ?_) fun cdv A outer s H vs Q E hr h => ?_
  · obtain ⟨a, xs, rfl, hl, _⟩ := h
    rw [hp, List.length_cons, hl]
    rfl
  · obtain ⟨a, xs, rfl, hl, h1, h2⟩ := h
    obtain ⟨y, rfl⟩ : ∃ y, xs = [y] := by
      match xs, hl with
      | [y], _ => exact ⟨y, rfl⟩
    refine ⟨_, hb cdv A outer s H E, y, by unfold start; simp, .ref a, by unfold start; simp, a, C, rfl, T, no, .inl ⟨h1, fun d hd hne => ?_⟩⟩
    exact h2 d _ hd hne upd_same (by rw [upd_ne hne, upd_same]; rfl) fun b n1 n2 => by rw [upd_ne n1, upd_ne n2]
theorem ok_init2 {n1 n2 : Str} (F : Fun K x qual st f fd) (S : FnScope N ps (defScope st)) (hN : N.length = 3) (hp : ps.length = 3) (T : OexC K C) (no1 : W.findIn K (.ref C) n1 = some none) (no2 : W.findIn K (.ref C) n2 = some none)
    (hb : ∀ (cdv : Value) (A : Around) (outer : List Env) (s : Shared) (H : Hp) (E : XK), PSs (cxOf (L2N.CX P w) P w K mg base N qual (defScope st) f cdv A outer s H E) (defBody st) (tSeq (tOst K n1 (tVar 0) (tVar 1)) (tOst K n2 (tVar 0) (tVar 2)))) :
    FnOk P w K mg base (L2N.CX P w) (k + 1) f fd ps (spI C [n1, n2]) := by
  refine okN F S (fun vs H Q E h => ?_) fun cdv A outer s H vs Q E hr h => ?_
  · obtain ⟨a, xs, rfl, hl, _⟩ := h
    rw [hp, List.length_cons, hl]
    rfl
  · obtain ⟨a, xs, rfl, hl, h1, h2⟩ := h
    obtain ⟨y, z, rfl⟩ : ∃ y z, xs = [y, z] := by
      match xs, hl with
      | [y, z], _ => exact ⟨y, z, rfl⟩
    refine ⟨_, hb cdv A outer s H E, y, by unfold start; simp, .ref a, by unfold start; simp, a, C, rfl, T, no1, .inl ⟨h1, fun d hd hne => ?_⟩⟩
    refine ⟨z, by unfold start; simp, .ref a, by unfold start; simp, a, C, rfl, T, no2, .inr ⟨d, [(n1, y)], upd_same, by rw [upd_ne hne, upd_same], by simp, ?_⟩⟩
    exact h2 d _ hd hne (by rw [upd_ne (Ne.symm hne), upd_same]) upd_same fun b m1 m2 => by rw [upd_ne m2, upd_ne m1, upd_ne m2]
end
/-! ### raise -/
def dataOf : List SV → Option (List D)
  | [] => some []
  | .d d :: r => match dataOf r with
    | some ds => some (d :: ds)
    | none => none
  | _ => none
def mRaise (cls : Str) (nms : List Str) (mas : M (List SV)) : M Ct := mbind mas fun svs en => match dataOf svs with
  | some ds => .exc ⟨cls, (nms.zip ds).reverse⟩ en
  | none => .stuck
theorem RVs.data {G : Gs} {H : Hp} {L : List Addr} {σ : St} {en : En} : ∀ {vs : List V} {svs : List SV} {ds : List D}, RVs G L σ H en vs svs → dataOf svs = some ds → DqAll G.K (hid H L) vs ds
  | _, _, _, .nil, e => by cases e; exact .nil
  | _, .d d :: r, ds, .cons h t, e => by
    unfold dataOf at e
    cases q : dataOf r with
    | none => rw [q] at e; cases e
    | some es =>
      rw [q] at e
      cases e
      exact .cons h.1 (RVs.data t q)
  | _, .own _ :: _, _, .cons h t, e => by cases e
  | _, .bor _ :: _, _, .cons h t, e => by cases e
theorem zip_rel {K : Kf} {H : Hp} : ∀ {nms : List Str} {vs : List V} {ds : List D}, DqAll K H vs ds → Paired (fun p q => p.1 = q.1 ∧ Dq K H p.2 q.2) (nms.zip vs) (nms.zip ds)
  | [], _, _, _ => .nil
  | _ :: _, _, _, .nil => .nil
  | _ :: _, _, _, .cons h t => .cons ⟨rfl, h⟩ (zip_rel t)
theorem pairApp {α β : Type} {r : α → β → Prop} : ∀ {a c : List α} {b d : List β}, Paired r a b → Paired r c d → Paired r (a ++ c) (b ++ d)
  | _, _, _, _, .nil, h => h
  | _, _, _, _, .cons h t, g => .cons h (pairApp t g)
theorem pairRev {α β : Type} {r : α → β → Prop} : ∀ {a : List α} {b : List β}, Paired r a b → Paired r a.reverse b.reverse
  | _, _, .nil => .nil
  | _, _, .cons h t => by
    rw [List.reverse_cons, List.reverse_cons]
    exact pairApp (pairRev t) (.cons h .nil)
section
variable {X : Cx} {G : Gs} {e : Expr} {es : List Expr} {mas : M (List SV)} {p pos pos2 : Pos} {x : Str} {C fI : Addr} {k : Nat} {fd : FuncData} {ps nms : List Str}
theorem raise_imp (hn : ArgN mas nms.length) (hlen : nms.length ≤ 1000) (hm : G.mg x = some (.ref C)) (D : Ends) (σ : St) (H : Hp) (h : tS G [] (mRaise x nms mas) D σ H) :
    tMkO C (spI C nms) [] (tA G mas) σ H fun cls d H' => G.W cls d σ H' := by
  obtain ⟨en, L, R, q⟩ := h
  unfold mRaise at q
  refine ⟨en, L, R, ?_⟩
  unfold mbind at q
  cases e0 : mas en with
  | stuck => rw [e0] at q; exact q
  | exc x en' => rw [e0] at q; exact PostX.at q
  | ok svs en1 =>
    rw [e0] at q
    intro vs H1 L1 R1 s1 r1
    have q1 := q.from0 s1
    have hl : vs.length = nms.length := by rw [Paired.length r1]; exact hn _ _ _ e0
    refine ⟨by rw [hl]; exact hlen, fun a na => ⟨a, vs, by rw [List.append_nil], hl, upd_same, fun d H' hd hda ha hdd ho => ⟨rfl, d, _, ha, hdd, ?_, ?_⟩⟩⟩
    · rw [upd_ne hda] at hd
      exact hd
    · have hd1 : H1 d = none := by rw [upd_ne hda] at hd; exact hd
      have eH : upd (del H' a) d (.xd (nms.zip vs).reverse) = upd H1 d (.xd (nms.zip vs).reverse) := by
        funext b
        by_cases hb : b = d
        · subst hb; rw [upd_same, upd_same]
        · rw [upd_ne hb, upd_ne hb]
          by_cases hba : b = a
          · subst hba
            rw [na]
            exact del_same
          · rw [del_ne hba, ho b hba hb, upd_ne hba]
      rw [eH]
      dsimp only at q1
      cases e1 : dataOf svs with
      | none => rw [e1] at q1; exact q1.elim
      | some ds =>
        rw [e1] at q1
        have hds := RVs.data r1 e1
        refine q1 (.ref C) (some d) σ (upd H1 d (.xd (nms.zip vs).reverse)) L1 Keeps.refl (R1.grow (same_new hd1)) (hid_mono (same_new hd1)) ?_
        refine ⟨C, d, (nms.zip vs).reverse, hm, rfl, rfl, by rw [hid_out (R1.fresh_out hd1), upd_same], pairRev ?_⟩
        exact Paired.mapP (zip_rel hds) fun _ _ ⟨z1, z2⟩ => ⟨z1, Dq.mono (hid_mono (same_new hd1)) _ z2⟩
theorem js_raise (hc : X.calm = true) (tk : L2N.Takes X G.W) (T : OexC X.K C) (iC : W.findIn X.K (.ref C) "__init__" = some (some (.ref fI))) (tI : W.typeIn X.K (.ref fI) = some (.type "function"))
    (F1 : FnOk X.prog X.w X.K X.mg X.base (L2N.CX X.prog X.w) k fI fd ps (spI C nms)) (hr : Room (k + 1) X.A) (hb : Binds X.K fd ps []) (hmg : X.mg = G.mg) (hn : ArgN mas nms.length) (hlen : nms.length ≤ 1000) (hg : Gl X x) (hm : X.mg x = some (.ref C)) (ha : PA X (e :: es) (tA G mas)) (hdb : (x == ("__debug__" : Str)) = false := by decide)
    (he : starEach (e :: es) X.env = (false, eval e X.env) :: starEach es X.env := by rfl) (hpl : (backTo pos (starEach es X.env)).any (·.1) = false := by rfl) :
    PS X (.Raise (some (.Call (.Name x p) (e :: es) [] pos)) none pos2) (tS G [] (mRaise x nms mas)) :=
  (L2N.ps_raise hc tk (mkN T iC tI F1 hr hb (L2N.passes_call tk fun _ _ _ _ h => h.elim) hg hm ha hdb he hpl)).imp (raise_imp hn hlen (hmg ▸ hm))
end
end L2

namespace L2
open PySem PySem.Spec PyProof.Rows

/-! ### try .. except X as n -/
def noBor (en : En) : Bool := en.all fun o => match o with
  | some (.bor _) => false
  | _ => true
theorem noBor_at {en : En} (h : noBor en = true) {j k : Nat} (e : en[j]? = some (some (.bor k))) : False := by
  have z := List.all_eq_true.mp h _ (List.mem_of_getElem? e)
  cases z
/-- kn: the classes that may come, and whether each is caught -/
def mTry (kn : List (Str × Bool)) (i : Nat) (mb : M Ct) (mh : Xc → M Ct) : M Ct := fun en => match mb en with
  | .exc x en1 => (match kn.lookup x.cls with
    | some true => if noBor en1 then (match mh x (en1.set i (some (.bor 0))) with
      | .ok c en2 => if noBor (en2.set i none) then (match c with
        | .rt (.bor _) => .stuck
        | c => .ok c (en2.set i none)) else .stuck
      | _ => .stuck) else .stuck
    | some false => .exc x en1
    | none => .stuck)
  | r => r
def Gs.wish (G : Gs) (W : WX) : Gs := { G with W := W }
def Gs.held (G : Gs) (H0 : Hp) (a : Addr) : Gs := { G with W := fun _ _ _ _ => False, H0 := H0, px := some a }
section
variable {G : Gs} {H H' : Hp} {L L' : List Addr} {σ : St} {en : En} {v : V} {sv : SV} {W : WX} {H0 : Hp} {a : Addr} {i : Nat}
theorem RelS.wish (R : RelS G L σ H en) : RelS (G.wish W) L σ H en := ⟨R.own, R.same, R.len, R.slot, R.apart, R.base⟩
theorem RelS.ofWish (R : RelS (G.wish W) L σ H en) : RelS G L σ H en := ⟨R.own, R.same, R.len, R.slot, R.apart, R.base⟩
theorem RV.ofWish (h : RV (G.wish W) L σ H en v sv) : RV G L σ H en v sv := by
  cases sv <;> exact h
theorem RV.ofHeld (h : RV (G.held H0 a) L σ H en v sv) : RV G L σ H en v sv := by
  cases sv <;> exact h
theorem RelS.catch (R : RelS G L σ H en) (nb : noBor en = true) (a : Addr) (i : Nat) : RelS (G.held (hid H L) a) L (σ.set i (some (.ref a))) H (en.set i (some (.bor 0))) := by
  have key : ∀ (j : Nat) (b : OB), (en.set i (some (.bor 0)))[j]? = some (some (SV.own b)) → j ≠ i ∧ en[j]? = some (some (SV.own b)) := fun j b e => by
    by_cases hj : j = i
    · subst hj
      by_cases hl : j < en.length
      · rw [List.getElem?_set_self hl] at e
        cases e
      · rw [List.getElem?_eq_none (by rw [List.length_set]; omega)] at e
        cases e
    · rw [List.getElem?_set_ne (Ne.symm hj)] at e
      exact ⟨hj, e⟩
  refine ⟨R.own, Same.refl _, by rw [List.length_set, List.length_set]; exact R.len, fun j sv e => ?_, fun j k b c a' hjk ej ek => ?_, fun b m => ?_⟩
  · by_cases hj : j = i
    · subst hj
      have hl : j < en.length := by
        by_cases hl : j < en.length
        · exact hl
        · rw [List.getElem?_eq_none (by rw [List.length_set]; omega)] at e
          cases e
      rw [List.getElem?_set_self hl] at e
      cases e
      exact ⟨a, rfl, List.getElem?_set_self (by rw [R.len]; exact hl)⟩
    · rw [List.getElem?_set_ne (Ne.symm hj)] at e
      rw [List.getElem?_set_ne (Ne.symm hj)]
      have z := R.slot j sv e
      cases sv with
      | d d => exact z
      | own b => exact z
      | bor k => exact (noBor_at nb e).elim
  · obtain ⟨n1, e1⟩ := key j b ej
    obtain ⟨n2, e2⟩ := key k c ek
    rw [List.getElem?_set_ne (Ne.symm n1), List.getElem?_set_ne (Ne.symm n2)]
    exact R.apart j k b c a' hjk e1 e2
  · obtain ⟨h1, h2, h3⟩ := R.base b m
    refine ⟨h1, h2, fun j c e => ?_⟩
    obtain ⟨n1, e1⟩ := key j c e
    rw [List.getElem?_set_ne (Ne.symm n1)]
    exact h3 j c e1
theorem RelS.let_go (R : RelS (G.held H0 a) L σ H en) (s : Same G.H0 H0) (i : Nat) (nb : noBor (en.set i none) = true) : RelS G L (σ.set i none) H (en.set i none) := by
  have key : ∀ (j : Nat) (sv : SV), (en.set i none)[j]? = some (some sv) → j ≠ i ∧ en[j]? = some (some sv) := fun j b e => by
    by_cases hj : j = i
    · subst hj
      by_cases hl : j < en.length
      · rw [List.getElem?_set_self hl] at e
        cases e
      · rw [List.getElem?_eq_none (by rw [List.length_set]; omega)] at e
        cases e
    · rw [List.getElem?_set_ne (Ne.symm hj)] at e
      exact ⟨hj, e⟩
  refine ⟨R.own, s.trans R.same, by rw [List.length_set, List.length_set]; exact R.len, fun j sv e => ?_, fun j k b c a' hjk ej ek => ?_, fun b m => ?_⟩
  · obtain ⟨n1, e1⟩ := key j sv e
    rw [List.getElem?_set_ne (Ne.symm n1)]
    have z := R.slot j sv e1
    cases sv with
    | d d => exact z
    | own b => exact z
    | bor k => exact (noBor_at nb e).elim
  · obtain ⟨n1, e1⟩ := key j _ ej
    obtain ⟨n2, e2⟩ := key k _ ek
    rw [List.getElem?_set_ne (Ne.symm n1), List.getElem?_set_ne (Ne.symm n2)]
    exact R.apart j k b c a' hjk e1 e2
  · obtain ⟨h1, h2, h3⟩ := R.base b m
    refine ⟨h1, h2, fun j c e => ?_⟩
    obtain ⟨n1, e1⟩ := key j _ e
    rw [List.getElem?_set_ne (Ne.symm n1)]
    exact h3 j c e1
end
/-- what the suite sees -/
def tHeld (G : Gs) (wh : List Nat) (mh : Xc → M Ct) (a : Addr) (cls : Value) (d : Option Addr) : TS := fun E σ H =>
  ∃ (x : Xc) (H0 : Hp), XR G.K G.mg x cls d H0 ∧ tS (G.held H0 a) wh (mh x) E σ H
section
variable {X : Cx} {G : Gs} {wb wh : List Nat} {kn : List (Str × Bool)} {mb : M Ct} {mh : Xc → M Ct} {i : Nat} {c : Value}
theorem try_imp (hex : ∀ y b, kn.lookup y = some b → ∃ Cy, G.mg y = some (.ref Cy) ∧ W.exmOne G.K (.ref Cy) c = some b) (D : Ends) (σ : St) (H : Hp) (h : tS G (wb ++ i :: wh) (mTry kn i mb mh) D σ H) :
    tS (G.wish (wAs G.K c i (tHeld G wh mh) G.W D)) wb mb D σ H := by
  obtain ⟨en, L, R, q⟩ := h
  refine ⟨en, L, R.wish, ?_⟩
  have lw : ∀ {σ' : St}, Keeps wb σ σ' → Keeps (wb ++ i :: wh) σ σ' := fun k => k.mono fun j m => List.mem_append_left _ m
  unfold mTry at q
  cases e : mb en with
  | stuck => rw [e] at q; exact q
  | ok ct en1 =>
    rw [e] at q
    cases ct with
    | nx => exact fun σ' H' L' R' s' k' => q σ' H' L' R'.ofWish s' (lw k')
    | bk => exact fun σ' H' L' R' s' k' => q σ' H' L' R'.ofWish s' (lw k')
    | ct => exact fun σ' H' L' R' s' k' => q σ' H' L' R'.ofWish s' (lw k')
    | rt sv => exact fun v σ' H' L' R' s' r => q v σ' H' L' R'.ofWish s' r.ofWish
  | exc x en1 =>
    rw [e] at q
    dsimp only at q
    intro cls d σ' H' L' k' R' s' hx
    have R1 : RelS G L' σ' H' en1 := R'.ofWish
    obtain ⟨C, dd, fv, a1, a2, a3, a4, a5⟩ := hx
    cases ek : kn.lookup x.cls with
    | none => rw [ek] at q; exact q.elim
    | some b =>
      rw [ek] at q
      obtain ⟨Cy, g1, g2⟩ := hex _ _ ek
      have hC : Cy = C := by
        rw [show G.mg x.cls = some (.ref C) from a1] at g1
        cases g1
        rfl
      subst hC
      refine ⟨b, by rw [a2]; exact g2, fun hb a na => ?_, fun hb => ?_⟩
      · subst hb
        dsimp only at q
        split at q
        · rename_i nb
          refine ⟨x, hid H' L', ⟨Cy, dd, fv, a1, a2, a3, a4, a5⟩, _, L', R1.catch nb a i, ?_⟩
          have sH : Same G.H0 (hid H' L') := R1.same
          cases e2 : mh x (en1.set i (some (.bor 0))) with
          | stuck => rw [e2] at q; exact q
          | exc y en2 => rw [e2] at q; exact q.elim
          | ok ct en2 =>
            rw [e2] at q
            dsimp only at q
            split at q
            · rename_i nb2
              have kk : ∀ {σ'' : St}, Keeps wh (σ'.set i (some (.ref a))) σ'' → Keeps (wb ++ i :: wh) σ (σ''.set i none) := fun {σ''} k2 j hj => by
                have n1 : j ∉ wb := fun m => hj (List.mem_append_left _ m)
                have n2 : i ≠ j := fun z => hj (List.mem_append_right _ (z ▸ List.mem_cons_self))
                have n3 : j ∉ wh := fun m => hj (List.mem_append_right _ (List.mem_cons_of_mem _ m))
                rw [List.getElem?_set_ne n2, k2 j n3, List.getElem?_set_ne n2]
                exact k' j n1
              cases ct with
              | nx => exact fun σ'' H'' L'' R2 s2 k2 => q _ H'' L'' (R2.let_go sH i nb2) (s'.trans s2) (kk k2)
              | bk => exact fun σ'' H'' L'' R2 s2 k2 => q _ H'' L'' (R2.let_go sH i nb2) (s'.trans s2) (kk k2)
              | ct => exact fun σ'' H'' L'' R2 s2 k2 => q _ H'' L'' (R2.let_go sH i nb2) (s'.trans s2) (kk k2)
              | rt sv =>
                cases sv with
                | bor _ => exact q.elim
                | d d => exact fun v σ'' H'' L'' R2 s2 r => q v _ H'' L'' (R2.let_go sH i nb2) (s'.trans s2) r
                | own o =>
                  intro v σ'' H'' L'' R2 s2 r
                  obtain ⟨p, ho, r1, r2, r3, r4, r5, r6⟩ := r
                  refine q v _ H'' L'' (R2.let_go sH i nb2) (s'.trans s2) ⟨p, ho, r1, r2, r3, r4, r5, fun j c ej => ?_⟩
                  by_cases hj : j = i
                  · subst hj
                    by_cases hl : j < en2.length
                    · rw [List.getElem?_set_self hl] at ej
                      cases ej
                    · rw [List.getElem?_eq_none (by rw [List.length_set]; omega)] at ej
                      cases ej
                  · rw [List.getElem?_set_ne (Ne.symm hj)] at ej ⊢
                    exact r6 j c ej
            · exact q.elim
        · exact q.elim
      · subst hb
        dsimp only at q
        exact q cls d σ' H' L' (lw k') R1 s' ⟨Cy, dd, fv, a1, a2, a3, a4, a5⟩
theorem js_try {n x : Str} {body suite : List Stmt} {b₀ : Stmt} {np pos pos' : Pos} (hs : X.stack = X.env :: X.outer) (hf : X.env.frame = some X.env.locals) (hN : X.N.Nodup) (hi : X.N[i]? = some n) (hln : X.env.kindOf n = some .local) (hc : Names X x c) (tk : L2N.Takes X G.W) (hK : X.K = G.K)
    (hex : ∀ y b, kn.lookup y = some b → ∃ Cy, G.mg y = some (.ref Cy) ∧ W.exmOne G.K (.ref Cy) c = some b)
    (hb : ∀ (W : WX) (pn : List (Addr × Obj)) (xe : Value → Shared → Prop), L2N.Takes (X.tr pn xe) (G.wish W).W → PassesOwn (model X.prog X.w) X.A X.env xe → PSs (X.tr pn xe) body (tS (G.wish W) wb mb))
    (hh : ∀ (a : Addr) (oe : Obj) (cls : Value) (d : Option Addr) (pn : List (Addr × Obj)) (x : Xc) (H0 : Hp), L2N.Zn cls d oe → (∃ vs, oe.data = .fields vs) → XR G.K G.mg x cls d H0 → PSs (X.suite a ((a, oe) :: pn)) (b₀ :: suite) (tS (G.held H0 a) wh (mh x))) :
    PS X (.Try body [.ExceptHandler (some (.Name x np)) (some n) (b₀ :: suite) pos'] [] [] pos) (tS G (wb ++ i :: wh) (mTry kn i mb mh)) :=
  (L2N.ps_try_as (tb := fun W => tS (G.wish W) wb mb) (ts := tHeld G wh mh) (Wout := G.W) hs hf hN hi hln hc tk hb fun a oe cls d pn z f => ⟨fun pins s σ H E I q => by
    obtain ⟨x, H0, hx, q⟩ := q
    exact (hh a oe cls d pn x H0 z f hx).run pins s σ H E I q⟩).imp fun D σ H h => by
      rw [hK]
      exact try_imp hex D σ H h
end
/-! ### in the suite -/
theorem hot_suite {X : Cx} {a : Addr} {oe : Obj} {cls : Value} {d : Option Addr} {pn : List (Addr × Obj)} (z : L2N.Zn cls d oe) (f : ∃ vs, oe.data = .fields vs) : L2H.HotC (X.suite a ((a, oe) :: pn)) := by
  obtain ⟨vs, e⟩ := f
  exact ⟨(a, oe), ⟨rfl, vs, e, z.2.2 vs e⟩, List.mem_cons_self⟩
theorem takes_no {X : Cx} {W : WX} (h : ∀ cls d σ H, ¬ W cls d σ H) : L2N.Takes X W := fun u s' q => by
  obtain ⟨a, B, sI, pins, σ, H, cls, d, _, _, _, _, _, _, _, _, w⟩ := q
  exact (h _ _ _ _ w).elim
theorem takes_held {X : Cx} {G : Gs} {H0 : Hp} {a : Addr} : L2N.Takes X (G.held H0 a).W := takes_no fun _ _ _ _ h => h
/-- n.f, n the exception at hand -/
def mXf (c : Str) (i : Nat) (f : Str) (x : Xc) : M SV := fun en => if x.cls = c then (match en[i]?, x.fs.lookup f with
  | some (some (.bor _)), some d => .ok (.d d) en
  | _, _ => .stuck) else .stuck
theorem pair_lookup {K : Kf} {H : Hp} {f : Str} {d : D} : ∀ {fv : List (Str × V)} {fs : List (Str × D)}, Paired (fun p q => p.1 = q.1 ∧ Dq K H p.2 q.2) fv fs → fs.lookup f = some d → ∃ v, fv.lookup f = some v ∧ Dq K H v d
  | _, _, .nil, e => by cases e
  | (a, v) :: r, (b, w) :: t, .cons h g, e => by
    obtain ⟨h1, h2⟩ := h
    dsimp only at h1
    subst h1
    rw [List.lookup_cons] at e ⊢
    split at e
    · cases e
      exact ⟨v, rfl, h2⟩
    · exact pair_lookup g e
theorem je_xf {X : Cx} {G : Gs} {a C : Addr} {oe : Obj} {cls : Value} {d : Option Addr} {pn : List (Addr × Obj)} {H0 : Hp} {x : Xc} {c n f : Str} {p pos : Pos} (i : Nat) (T : XfC X.K C) (no : W.findIn X.K (.ref C) f = some none) (z : L2N.Zn cls d oe) (hf : ∃ vs, oe.data = .fields vs)
    (hx : XR G.K G.mg x cls d H0) (hm : G.mg c = some (.ref C)) (hN : X.N[i]? = some n) (hv : Vis X.env.scope n) (hd : (n == ("__debug__" : Str)) = false := by decide) (hcd : (n == ("__classdict__" : Str)) = false := by decide)
    (hb : attributeBase (.Name n p) f X.env (eval (.Name n p) X.env) = eval (.Name n p) X.env := by rfl) :
    PE (X.suite a ((a, oe) :: pn)) (.Attribute (.Name n p) f pos) (tE (G.held H0 a) (mXf c i f x)) :=
  (pe_xf T no ⟨z.1, z.2.1⟩ hf (pe_var (X := X.suite a ((a, oe) :: pn)) hN hv hd hcd) hb).imp fun σ H Q h => by
    obtain ⟨en, L, R, q⟩ := h
    unfold mXf at q
    split at q
    · rename_i hc
      split at q
      · rename_i k dd e1 e2
        obtain ⟨a', ea, es⟩ := R.slot i _ e1
        cases ea
        obtain ⟨C', d', fv, a1, a2, a3, a4, a5⟩ := hx
        rw [hc, hm] at a1
        cases a1
        obtain ⟨v, ev, hv⟩ := pair_lookup a5 e2
        refine ⟨.ref a, es, rfl, a2, d', fv, v, a3, hid_same _ _ (R.same _ _ a4), ev, ?_⟩
        exact q v H L R (Same.refl _) (Dq.mono R.same _ hv)
      · exact q.elim
    · exact q.elim
end L2

namespace L2
open PySem PySem.Spec PyProof.Rows

/-! ### small things -/

def dNeg : D → M SV
  | .int i => mpure (.d (.int (-i)))
  | _ => mstuck
section
variable {X : Cx} {G : Gs}
theorem fit_neg : Fits1 G (rU fun i => V.int (-i)) dNeg := fun σ H L en x dx Q R o q => by
  unfold dNeg at q
  split at q
  · rename_i i
    exact ⟨i, o.int, q _ H L R (Same.refl _) (.int _)⟩
  · exact q.elim
/-- a module's constant -/
theorem je_gl {x : Str} {v : V} {u : Value} {d : D} {pos : Pos} (hg : Gl X x) (hm : X.mg x = some u) (r : RelV v u) (hd : ∀ H, Dq G.K H v d) (hdb : (x == ("__debug__" : Str)) = false := by decide) : PE X (.Name x pos) (tE G (mC d)) := je_c (pe_glob hg hm r hdb) hd
/-- a def that is called no deeper -/
theorem fn_stuck {P : Program} {w : World} {K : Kf} {mg : Str → Option Value} {base : Heap} {CX : CXT} {k : Nat} {f : Addr} {fd : FuncData} {ps : List Str} : FnOk P w K mg base CX k f fd ps (spF K mg ps.length fun _ => .stuck) where
  len := fun vs H Q E h => h.1
  run := fun A outer s H args us vs Q E _ _ _ _ h => by
    obtain ⟨_, _, _, _, _, h⟩ := h
    exact h.elim
theorem fn_stuckH {P : Program} {w : World} {K : Kf} {mg : Str → Option Value} {base : Heap} {CX : CXT} {k : Nat} {f : Addr} {fd : FuncData} {ps : List Str} : L2H.FnH P w K mg base CX k f fd ps (spF K mg ps.length fun _ => .stuck) where
  len := fun vs H Q E h => h.1
  run := fun A outer s H args us vs Q E p _ _ _ _ _ _ h => by
    obtain ⟨_, _, _, _, _, h⟩ := h
    exact h.elim
theorem FnOk.up {P : Program} {w : World} {K : Kf} {mg : Str → Option Value} {base : Heap} {CX : CXT} {j k : Nat} {f : Addr} {fd : FuncData} {ps : List Str} {sp : Sp} (h : FnOk P w K mg base CX j f fd ps sp) (l : j ≤ k) : FnOk P w K mg base CX k f fd ps sp where
  len := h.len
  run := fun A outer s H args us vs Q E hr => h.run A outer s H args us vs Q E (hr.mono l)
end
theorem hr_65 {k : Nat} {A : Around} (h : Room k A) : A.units + 65 < cLine := by have := h.un; omega
theorem hr_64 {k : Nat} {A : Around} (h : Room k A) : A.units + 64 < cLine := by have := h.un; omega
theorem hr_1 {k : Nat} {A : Around} (h : Room k A) : A.units + 1 < cLine := by have := h.un; omega
theorem hrH_65 {k : Nat} {A : Around} (h : L2H.RoomH k A) : A.units + 65 < cLine := by have := h.un; omega
theorem hrH_64 {k : Nat} {A : Around} (h : L2H.RoomH k A) : A.units + 64 < cLine := by have := h.un; omega
theorem hrH_1 {k : Nat} {A : Around} (h : L2H.RoomH k A) : A.units + 1 < cLine := by have := h.un; omega
theorem hot_fn {CX : CXT} {P : Program} {w : World} {K : Kf} {mg : Str → Option Value} {base : Heap} {N : List Str} {qual : Str} {scope : Scope} {f : Addr} {cd : Value} {A : Around} {outer : List Env} {s : Shared} {H : Hp} {E : XK} {p : Addr × Obj} (h : L2H.Hot1 A p) : L2H.HotC (L2H.cxH CX P w K mg base N qual scope f cd A outer s H E p) :=
  ⟨p, h, List.mem_singleton.mpr rfl⟩
theorem ex_one {K : Kf} {mg : Str → Option Value} {c : Str} {C : Addr} (h : mg c = some (.ref C)) (e : W.exmOne K (.ref C) (.ref C) = some true) : ∀ y b, [(c, true)].lookup y = some b → ∃ Cy, mg y = some (.ref Cy) ∧ W.exmOne K (.ref Cy) (.ref C) = some b := fun y b q => by
  rw [List.lookup_cons] at q
  split at q
  · rename_i hy
    cases q
    have := eq_of_beq hy
    subst this
    exact ⟨C, h, e⟩
  · cases q
end L2

namespace L2
open PySem PySem.Spec PyProof.Rows

/-! ### the order of texts; the one sorted list -/
theorem ltCps_lt : ∀ a b : List Nat, ltCps a b = decide (a < b)
  | [], [] => rfl
  | [], _ :: _ => by simp [ltCps]
  | _ :: _, [] => by simp [ltCps]
  | a :: r, b :: t => by
    rw [ltCps, ltCps_lt r t]
    by_cases h : a < b
    · simp [h, List.cons_lt_cons_iff]
    · by_cases e : a = b
      · subst e
        simp [List.cons_lt_cons_iff]
      · simp [h, e, List.cons_lt_cons_iff]
def leS (a b : Str) : Bool := !ltCps b.cps.toList a.cps.toList
theorem leS_iff {a b : Str} : leS a b = true ↔ ¬ b.cps.toList < a.cps.toList := by
  unfold leS
  rw [ltCps_lt]
  simp
theorem str_ext {a b : Str} (h : a.cps.toList = b.cps.toList) : a = b := by
  cases a; cases b
  simp only [Str.mk.injEq]
  exact Array.toList_inj.mp h
theorem leS_antisymm {a b : Str} (h1 : leS a b = true) (h2 : leS b a = true) : a = b :=
  str_ext (List.le_antisymm (leS_iff.mp h1) (leS_iff.mp h2))
theorem leS_trans (a b c : Str) (h1 : leS a b = true) (h2 : leS b c = true) : leS a c = true :=
  leS_iff.mpr (List.le_trans (leS_iff.mp h1) (leS_iff.mp h2))
theorem leS_total (a b : Str) : (leS a b || leS b a) = true := by
  rcases List.le_total a.cps.toList b.cps.toList with h | h
  · simp [leS_iff.mpr h]
  · simp [leS_iff.mpr h]
theorem sortedS_pw : ∀ {xs : List Str}, sortedS xs = true → xs.Pairwise fun a b => leS a b = true
  | [], _ => .nil
  | x :: r, h => by
    have key : ∀ (r : List Str) (x : Str), risingS x r = true → (x :: r).Pairwise fun a b => leS a b = true := by
      intro r
      induction r with
      | nil => intro x _; exact List.pairwise_singleton _ _
      | cons y t ih =>
        intro x h
        rw [risingS, Bool.and_eq_true] at h
        have p := ih y h.2
        refine List.pairwise_cons.mpr ⟨fun z m => ?_, p⟩
        rcases List.mem_cons.mp m with rfl | m
        · exact h.1
        · exact leS_trans _ _ _ h.1 ((List.pairwise_cons.mp p).1 z m)
    exact key r x h
def sortStrs (xs : List Str) : List Str := xs.mergeSort leS
theorem sortStrs_pw (xs : List Str) : (sortStrs xs).Pairwise fun a b => leS a b = true := List.pairwise_mergeSort leS_trans leS_total xs
theorem sortStrs_perm (xs : List Str) : (sortStrs xs).Perm xs := List.mergeSort_perm _ _
theorem sortStrs_uniq {xs ys : List Str} (h : ys.Perm xs) (s : ys.Pairwise fun a b => leS a b = true) : ys = sortStrs xs :=
  List.Perm.eq_of_pairwise (le := fun a b => leS a b = true) (fun a b _ _ h1 h2 => leS_antisymm h1 h2) s (sortStrs_pw xs) (h.trans (sortStrs_perm xs).symm)
def sortInts (xs : List Int) : List Int := xs.mergeSort fun a b => decide (a ≤ b)
theorem sortInts_pw (xs : List Int) : (sortInts xs).Pairwise (· ≤ ·) := by
  have h := List.pairwise_mergeSort (le := fun a b : Int => decide (a ≤ b)) (fun a b c h1 h2 => by simp at *; omega) (fun a b => by simp; omega) xs
  exact h.imp fun h => by simpa using h
theorem sortInts_perm (xs : List Int) : (sortInts xs).Perm xs := List.mergeSort_perm _ _
theorem sortInts_uniq {xs ys : List Int} (h : ys.Perm xs) (s : ys.Pairwise (· ≤ ·)) : ys = sortInts xs :=
  List.Perm.eq_of_pairwise (le := (· ≤ ·)) (fun a b _ _ h1 h2 => Int.le_antisymm h1 h2) s (sortInts_pw xs) (h.trans (sortInts_perm xs).symm)
/-! ### sorted(..) -/
def strsOf : List D → Option (List Str)
  | [] => some []
  | .str x :: r => (strsOf r).map (x :: ·)
  | _ => none
def intsOf : List D → Option (List Int)
  | [] => some []
  | .int x :: r => (intsOf r).map (x :: ·)
  | _ => none
theorem strsOf_eq : ∀ {ds : List D} {xs : List Str}, strsOf ds = some xs → ds = xs.map .str
  | [], _, e => by cases e; rfl
  | .str x :: r, xs, e => by
    unfold strsOf at e
    cases q : strsOf r with
    | none => rw [q] at e; cases e
    | some ys => rw [q] at e; cases e; rw [strsOf_eq q]; rfl
  | .int _ :: _, _, e => by cases e
  | .none :: _, _, e => by cases e
  | .bool _ :: _, _, e => by cases e
  | .list _ :: _, _, e => by cases e
  | .tuple _ :: _, _, e => by cases e
  | .dict _ :: _, _, e => by cases e
theorem intsOf_eq : ∀ {ds : List D} {xs : List Int}, intsOf ds = some xs → ds = xs.map .int
  | [], _, e => by cases e; rfl
  | .int x :: r, xs, e => by
    unfold intsOf at e
    cases q : intsOf r with
    | none => rw [q] at e; cases e
    | some ys => rw [q] at e; cases e; rw [intsOf_eq q]; rfl
  | .str _ :: _, _, e => by cases e
  | .none :: _, _, e => by cases e
  | .bool _ :: _, _, e => by cases e
  | .list _ :: _, _, e => by cases e
  | .tuple _ :: _, _, e => by cases e
  | .dict _ :: _, _, e => by cases e
theorem dqAll_strs {K : Kf} {H : Hp} : ∀ {xs : List Str} {vs : List V}, DqAll K H vs (xs.map .str) → vs = xs.map .str
  | [], _, .nil => rfl
  | x :: r, _, .cons h t => by cases h; rw [dqAll_strs t]; rfl
theorem dqAll_ints {K : Kf} {H : Hp} : ∀ {xs : List Int} {vs : List V}, DqAll K H vs (xs.map .int) → vs = xs.map .int
  | [], _, .nil => rfl
  | x :: r, _, .cons h t => by cases h; rw [dqAll_ints t]; rfl
theorem strs_dq {K : Kf} {H : Hp} : ∀ xs : List Str, DqAll K H (xs.map .str) (xs.map .str)
  | [] => .nil
  | x :: r => .cons (.str x) (strs_dq r)
theorem ints_dq {K : Kf} {H : Hp} : ∀ xs : List Int, DqAll K H (xs.map .int) (xs.map .int)
  | [] => .nil
  | x :: r => .cons (.int x) (ints_dq r)
def keysOf (kds : List (D × D)) : List D := kds.map (·.1)
/-- of a list of texts or of ints, or of a dict's keys, texts -/
def sortD : D → Option (List D)
  | .list ds => (match strsOf ds with
    | some xs => if xs.length < 64 then some ((sortStrs xs).map .str) else none
    | none => (match intsOf ds with
      | some ns => some ((sortInts ns).map .int)
      | none => none))
  | .dict kds => (match strsOf (keysOf kds) with
    | some xs => if xs.length < 64 then some ((sortStrs xs).map .str) else none
    | none => none)
  | _ => none
def dSorted (d : D) : M SV := fun en => match sortD d with
  | some l => .ok (.own (.lst l)) en
  | none => .stuck
def rSortA (K : Kf) : List V → Hp → VK → Prop := fun vs H Q => rSortedS K vs H Q ∨ rSortedI K vs H Q ∨ ∃ (a : Addr) (kvs : List (Key × V)) (ks : List Str), vs = [.ref a] ∧ Rd H a (.dK kvs) ∧ kvs.map (·.1) = ks.map Sum.inr ∧ ks.length < 64 ∧ ∀ ys p, ys.Perm ks → sortedS ys = true → H p = none → Q (.ref p) (upd H p (.lst (ys.map V.str)))
theorem cr_sortA {X : Cx} (hc : X.calm = true) : CallR X (.builtin "sorted") (rSortA X.K) := cr_sortedS.or (cr_sortedI.or (call_sortedD hc))
theorem keys_strs {K : Kf} {H : Hp} : ∀ {kvs : List (Key × V)} {ks : List (Key × D)} {xs : List Str}, KD K H kvs ks → keysOf (ks.map fun p => (kD p.1, p.2)) = xs.map .str → kvs.map (·.1) = xs.map Sum.inr
  | _, _, [], .nil, _ => rfl
  | _, _, _ :: _, .nil, e => by cases e
  | _, _, [], .cons _ _, e => by cases e
  | p :: _, q :: _, x :: xs, .cons ⟨h1, h2⟩ t, e => by
    simp only [keysOf, List.map_cons, List.cons.injEq] at e
    rw [List.map_cons, List.map_cons, keys_strs t e.2]
    congr 1
    rw [h1]
    cases h : q.1 with
    | inl i => rw [h] at e; cases e.1
    | inr s => rw [h] at e; cases e.1; rfl
section
variable {G : Gs}
theorem fit_sorted : FitsC G (rSortA G.K) (d1 dSorted) := fit1 fun σ H L en x d Q R o q => by
  unfold dSorted at q
  cases e : sortD d with
  | none => rw [e] at q; exact q.elim
  | some l =>
    rw [e] at q
    dsimp only at q
    unfold sortD at e
    split at e
    · rename_i ds
      obtain ⟨a, ys, rfl, ho, hr⟩ := o.list'
      split at e
      · rename_i xs e1
        have e2 := strsOf_eq e1
        subst e2
        have e3 := dqAll_strs hr
        subst e3
        split at e
        · rename_i hl
          cases e
          refine .inl ⟨a, xs, rfl, ho, hl, fun zs p hp hs hn => ?_⟩
          rw [sortStrs_uniq hp (sortedS_pw hs)]
          exact post_lst R hn (strs_dq _) q
        · cases e
      · split at e
        · rename_i ns e1
          cases e
          have e2 := intsOf_eq e1
          subst e2
          have e3 := dqAll_ints hr
          subst e3
          refine .inr (.inl ⟨a, ns, rfl, ho, fun zs p hp hs hn => ?_⟩)
          rw [sortInts_uniq hp hs]
          exact post_lst R hn (ints_dq _) q
        · cases e
    · rename_i kds
      split at e
      · rename_i xs e1
        have e2 := strsOf_eq e1
        split at e
        · rename_i hl
          cases e
          rcases o.dct with ⟨a, ns, rfl, e3, hs⟩ | ⟨a, kvs, ks, rfl, e3, ho, hk⟩
          · subst e3
            cases xs with
            | nil => cases e2
            | cons x r => cases e2
          · subst e3
            refine .inr (.inr ⟨a, kvs, xs, rfl, .inl ho, keys_strs hk e2, hl, fun zs p hp hs hn => ?_⟩)
            rw [sortStrs_uniq hp (sortedS_pw hs)]
            exact post_lst R hn (strs_dq _) q
        · cases e
      · cases e
    · cases e
end
end L2

namespace L2
open PySem PySem.Spec PyProof.Rows

/-! ### dicts -/
def putD (kds : List (Key × D)) (k : Key) (d : D) : List (Key × D) :=
  if (kds.any fun kv => decide (kv.1 = k)) = true then kds.map fun kv => if kv.1 = k then (kv.1, d) else kv else kds ++ [(k, d)]
def valD (kds : List (Key × D)) (k : Key) : Option D := (kds.find? fun kv => decide (kv.1 = k)).map (·.2)
theorem KD.any {K : Kf} {H : Hp} {k : Key} : ∀ {kvs : List (Key × V)} {kds : List (Key × D)}, KD K H kvs kds → (kvs.any fun kv => decide (kv.1 = k)) = (kds.any fun kv => decide (kv.1 = k))
  | _, _, .nil => rfl
  | _, _, .cons ⟨h1, _⟩ t => by rw [List.any_cons, List.any_cons, KD.any t, h1]
theorem KD.length {K : Kf} {H : Hp} {kvs : List (Key × V)} {kds : List (Key × D)} (h : KD K H kvs kds) : kvs.length = kds.length := Paired.length h
theorem KD.mapPut {K : Kf} {H : Hp} {k : Key} {v : V} {d : D} (hv : Dq K H v d) : ∀ {kvs : List (Key × V)} {kds : List (Key × D)}, KD K H kvs kds → KD K H (kvs.map fun kv => if kv.1 = k then (kv.1, v) else kv) (kds.map fun kv => if kv.1 = k then (kv.1, d) else kv)
  | _, _, .nil => .nil
  | a :: _, b :: _, .cons ⟨h1, h2⟩ t => by
    refine .cons ?_ (KD.mapPut hv t)
    dsimp only
    by_cases e : a.1 = k
    · rw [if_pos e, if_pos (h1 ▸ e)]
      exact ⟨h1, hv⟩
    · rw [if_neg e, if_neg (h1 ▸ e)]
      exact ⟨h1, h2⟩
theorem KD.put {K : Kf} {H : Hp} {k : Key} {v : V} {d : D} {kvs : List (Key × V)} {kds : List (Key × D)} (h : KD K H kvs kds) (hv : Dq K H v d) : KD K H (putK kvs k v) (putD kds k d) := by
  unfold putK putD
  rw [h.any (k := k)]
  split
  · exact h.mapPut hv
  · exact pairApp h (.cons ⟨rfl, hv⟩ .nil)
theorem KD.val {K : Kf} {H : Hp} {k : Key} : ∀ {kvs : List (Key × V)} {kds : List (Key × D)}, KD K H kvs kds → (valV kvs k = none ∧ valD kds k = none) ∨ ∃ v d, valV kvs k = some v ∧ valD kds k = some d ∧ Dq K H v d
  | _, _, .nil => .inl ⟨rfl, rfl⟩
  | a :: _, b :: _, .cons ⟨h1, h2⟩ t => by
    unfold valV valD
    rw [List.find?_cons, List.find?_cons]
    by_cases e : a.1 = k
    · rw [h1] at e
      simp only [h1, e, decide_true]
      exact .inr ⟨_, _, rfl, rfl, h2⟩
    · have e2 : ¬ b.1 = k := h1 ▸ e
      simp only [e, e2, decide_false]
      exact KD.val t
theorem slot_dct {G : Gs} {H : Hp} {L : List Addr} {σ : St} {en : En} {i : Nat} {kds : List (Key × D)} (R : RelS G L σ H en) (e : en[i]? = some (some (.own (.dct kds)))) : ∃ a kvs, σ[i]? = some (some (.ref a)) ∧ a ∈ L ∧ H a = some (.dK kvs) ∧ KD G.K (hid H L) kvs kds := by
  obtain ⟨a, o, e1, m, ho, hr⟩ := R.slot i _ e
  cases o with
  | dK kvs => exact ⟨a, kvs, e1, m, ho, hr⟩
  | _ => exact hr.elim
/-! d[k] = v, d in slot i -/
def mDPut (i : Nat) (mk mv : M SV) : M Ct := mbind (mkeep mv) fun sv en => match en[i]? with
  | some (some (.own (.dct _))) => mbind (mfrz mk) (fun sk en => match look en sk, sv, en[i]? with
    | some y, .d z, some (some (.own (.dct kds))) => (match keyD y with
      | some k => if kds.length < sizeLine then .ok .nx (en.set i (some (.own (.dct (putD kds k z))))) else .stuck
      | none => .stuck)
    | _, _, _ => .stuck) en
  | _ => .stuck
section
variable {X : Cx} {G : Gs} {ek ev : Expr} {mk mv : M SV} {pos pos' : Pos}
theorem js_dput (i : Nat) {x : Str} {p : Pos} (hK : X.K = G.K) (hu : X.A.units + 1 < cLine) (hN : X.N[i]? = some x) (hv : Vis X.env.scope x) (hk : PE X ek (tE G mk)) (he : PE X ev (tE G mv)) (hd : (x == ("__debug__" : Str)) = false := by decide) (hcd : (x == ("__classdict__" : Str)) = false := by decide)
    (hs : swapsWith ev (some (.Subscript (.Name x p) ek pos')) pos.line X.env = pure false := by rfl) :
    PS X (.Assign [.Subscript (.Name x p) ek pos'] ev pos) (tS G [] (mDPut i mk mv)) :=
  (ps_dput hu (pe_var hN hv hd hcd) (je_frz hk) (je_keep he) hs).imp fun D σ H h => by
    obtain ⟨en, L, R, q⟩ := h
    refine (seqES R q).mono fun v H1 ⟨en1, L1, sv, R1, s1, r1, q1⟩ => ?_
    split at q1
    · rename_i kds0 e0
      obtain ⟨a, kvs0, e1, m0, ho0, hr0⟩ := slot_dct R1 e0
      refine ⟨.ref a, e1, ?_⟩
      refine (seqES R1 q1).mono fun y H2 ⟨en2, L2, sk, R2, s2, r2, q2⟩ => ?_
      split at q2
      · rename_i dy z kds ey e2 _
        split at q2
        · rename_i k ek
          split at q2
          · rename_i hl
            obtain ⟨a', kvs, e3, m, ho, hr⟩ := slot_dct R2 e2
            rw [e1] at e3
            cases e3
            obtain ⟨rfl, _⟩ := key_of_D (RV.opd R2 (Same.refl _) r2 ey) ek
            refine ⟨a, _, rfl, DPut.k ho (by rw [hr.length]; exact hl), ?_⟩
            exact q2 σ _ L2 (R2.put e2 e1 m (b' := .dct (putD kds k z)) (hr.put (Dq.mono s2 _ r1))) (by rw [hid_upd m]; exact Same.refl _) Keeps.refl
          · exact q2.elim
        · exact q2.elim
      · exact q2.elim
    · exact q1.elim
end
/-! ### a hold: an object that nobody else changes -/
def Gs.hold (G : Gs) (a : Addr) (o : HO) : Gs := { G with B := a :: G.B, HB := upd G.HB a o }
section
variable {G : Gs} {H H1 : Hp} {L : List Addr} {σ : St} {en : En} {a : Addr} {o o' : HO} {v : V} {sv : SV}
theorem RelS.hold (R : RelS G L σ H en) (m : a ∈ L) (nb : a ∉ G.B) (ho : H a = some o) (no : ∀ (i : Nat) (c : OB), en[i]? = some (some (SV.own c)) → σ[i]? ≠ some (some (V.ref a))) : RelS (G.hold a o) L σ H en where
  own := R.own
  same := R.same
  len := R.len
  slot := R.slot
  apart := R.apart
  base := fun b mb => by
    rcases List.mem_cons.mp mb with rfl | mb
    · exact ⟨m, by rw [ho]; exact upd_same.symm, no⟩
    · obtain ⟨h1, h2, h3⟩ := R.base b mb
      have hne : b ≠ a := fun z => nb (z ▸ mb)
      exact ⟨h1, h2.trans (by show G.HB b = upd G.HB a o b; rw [upd_ne hne]), h3⟩
theorem RelS.ofHold (R : RelS (G.hold a o) L σ H en) (nb : a ∉ G.B) : RelS G L σ H en where
  own := R.own
  same := R.same
  len := R.len
  slot := R.slot
  apart := R.apart
  base := fun b mb => by
    obtain ⟨h1, h2, h3⟩ := R.base b (List.mem_cons_of_mem _ mb)
    have hne : b ≠ a := fun z => nb (z ▸ mb)
    exact ⟨h1, h2.trans (by show upd G.HB a o b = G.HB b; rw [upd_ne hne]), h3⟩
theorem RelS.held (R : RelS (G.hold a o) L σ H en) : a ∈ L ∧ H a = some o ∧ ∀ (i : Nat) (c : OB), en[i]? = some (some (SV.own c)) → σ[i]? ≠ some (some (V.ref a)) := by
  obtain ⟨h1, h2, h3⟩ := R.base a List.mem_cons_self
  exact ⟨h1, h2.trans upd_same, h3⟩
theorem RV.ofHold (h : RV (G.hold a o) L σ H en v sv) : RV G L σ H en v sv := by
  cases sv with
  | d d => exact h
  | own b =>
    obtain ⟨p, u, h1, h2, h3, h4, h5, h6⟩ := h
    exact ⟨p, u, h1, h2, fun z => h3 (List.mem_cons_of_mem _ z), h4, h5, h6⟩
  | bor i => exact h
/-- an expression under a hold, then the rest -/
theorem seqHold {ma : M SV} {f : SV → M SV} {Q : VK} (R : RelS (G.hold a o) L σ H en) (nb : a ∉ G.B) (q : PostE G σ H L (mbind ma f en) Q) :
    tE (G.hold a o) ma σ H fun x H1 => ∃ en1 L1 sv, RelS (G.hold a o) L1 σ H1 en1 ∧ Same (hid H L) (hid H1 L1) ∧ RV G L1 σ H1 en1 x sv ∧ PostE G σ H1 L1 (f sv en1) Q := by
  refine ⟨en, L, R, ?_⟩
  unfold mbind at q
  cases e : ma en with
  | ok sv en' =>
    rw [e] at q
    exact fun v H' L' a b c => ⟨en', L', sv, a, b, c.ofHold, q.from b⟩
  | exc x en' =>
    rw [e] at q
    exact fun cls d σ' H' L' h1 h2 h3 h4 => q cls d σ' H' L' h1 (h2.ofHold nb) h3 h4
  | stuck =>
    rw [e] at q
    exact q
end
/-! ### d.get(k, x) -/
def getOr (kds : List (Key × D)) (y z : D) : M SV := fun en => match keyD y with
  | some k => .ok (.d ((valD kds k).getD z)) en
  | none => .stuck
def mGet2 (mo mk mx : M SV) : M SV := mbind mo fun so en => match so with
  | .own (.dct kds) => mbind (mfrz mk) (fun sk => mbind (mkeep mx) fun sx en => match look en sk, sx with
    | some y, .d z => getOr kds y z en
    | _, _ => .stuck) en
  | .bor i => (match en[i]? with
    | some (some (.own (.dct _))) => mbind (mfrz mk) (fun sk => mbind (mkeep mx) fun sx en => match look en sk, sx, en[i]? with
      | some y, .d z, some (some (.own (.dct kds))) => getOr kds y z en
      | _, _, _ => .stuck) en
    | _ => .stuck)
  | _ => .stuck
theorem getD_dq {K : Kf} {H : Hp} {k : Key} {kvs : List (Key × V)} {kds : List (Key × D)} {w : V} {z : D} (h : KD K H kvs kds) (hw : Dq K H w z) : Dq K H ((valV kvs k).getD w) ((valD kds k).getD z) := by
  rcases h.val (k := k) with ⟨e1, e2⟩ | ⟨v, d, e1, e2, q⟩
  · rw [e1, e2]; exact hw
  · rw [e1, e2]; exact q
section
variable {X : Cx} {G : Gs} {eo ek ex : Expr} {mo mk mx : M SV} {apos cpos : Pos}
/-- the key and the other value are read under any hold -/
theorem je_get2 (hu : X.A.units + 1 < cLine) (ho : PE X eo (tE G mo)) (hk : PE X ek (tE G mk)) (hx : PE X ex (tE G mx)) (hk' : ∀ a o, PE X ek (tE (G.hold a o) mk)) (hx' : ∀ a o, PE X ex (tE (G.hold a o) mx)) (m : M2 X eo "get" apos ek ex cpos) :
    PE X (.Call (.Attribute eo "get" apos) [ek, ex] [] cpos) (tE G (mGet2 mo mk mx)) :=
  (pe_dget2 (ty := fun σ H Q => tE G (mfrz mk) σ H Q ∨ ∃ p : Addr × HO, tE (G.hold p.1 p.2) (mfrz mk) σ H Q) (tx := fun σ H Q => tE G (mkeep mx) σ H Q ∨ ∃ p : Addr × HO, tE (G.hold p.1 p.2) (mkeep mx) σ H Q) hu ho
    ⟨fun pins s σ H Q I q => q.elim (fun q => (je_frz hk).run pins s σ H Q I q) fun ⟨p, q⟩ => (je_frz (hk' p.1 p.2)).run pins s σ H Q I q⟩
    ⟨fun pins s σ H Q I q => q.elim (fun q => (je_keep hx).run pins s σ H Q I q) fun ⟨p, q⟩ => (je_keep (hx' p.1 p.2)).run pins s σ H Q I q⟩ m).imp fun σ H Q h => by
    obtain ⟨en, L, R, q⟩ := h
    refine (seqE R q).mono fun x H1 ⟨en1, L1, so, R1, s1, r1, q1⟩ => ?_
    cases so with
    | d _ => exact q1.elim
    | own b =>
      cases b with
      | lst _ => exact q1.elim
      | dct kds =>
        obtain ⟨a, o, rfl, ma, nb, ho, hr, no⟩ := r1
        cases o with
        | dK kvs =>
          refine ⟨a, rfl, .inl ⟨kvs, .inl ho⟩, .inr ⟨(a, .dK kvs), ?_⟩⟩
          have Rh := R1.hold ma nb ho no
          refine (seqHold Rh nb q1).mono fun y H2 ⟨en2, L2, sk, R2, s2, r2, q2⟩ => .inr ⟨(a, .dK kvs), ?_⟩
          refine (seqHold R2 nb q2).mono fun w H3 ⟨en3, L3, sx, R3, s3, r3, q3⟩ => ?_
          split at q3
          · rename_i dy z ey
            unfold getOr at q3
            split at q3
            · rename_i k ek
              have R3' := R3.ofHold nb
              obtain ⟨rfl, _⟩ := key_of_D (RV.opd R3' s3 r2 ey) ek
              refine ⟨_, DGet.k R3.held.2.1, ?_⟩
              exact post_d R3' (getD_dq (hr.mono (s2.trans s3)) r3) q3
            · exact q3.elim
          · exact q3.elim
        | _ => exact hr.elim
    | bor i =>
      obtain ⟨e1, b, e2⟩ := r1
      dsimp only at q1
      split at q1
      · rename_i kds0 e0
        obtain ⟨a, kvs0, e3, m0, ho0, hr0⟩ := slot_dct R1 e0
        rw [e1] at e3
        cases e3
        refine ⟨a, rfl, .inl ⟨kvs0, .inl ho0⟩, .inl ?_⟩
        refine (seqE R1 q1).mono fun y H2 ⟨en2, L2, sk, R2, s2, r2, q2⟩ => .inl ?_
        refine (seqE R2 q2).mono fun w H3 ⟨en3, L3, sx, R3, s3, r3, q3⟩ => ?_
        split at q3
        · rename_i dy z kds ey e4
          unfold getOr at q3
          split at q3
          · rename_i k ek
            obtain ⟨a', kvs, e5, m, ho, hr⟩ := slot_dct R3 e4
            rw [e1] at e5
            cases e5
            obtain ⟨rfl, _⟩ := key_of_D (RV.opd R3 s3 r2 ey) ek
            exact ⟨_, DGet.k ho, post_d R3 (getD_dq hr r3) q3⟩
          · exact q3.elim
        · exact q3.elim
      · exact q1.elim
end
end L2

namespace L2
open PySem PySem.Spec PyProof.Rows

/-! ### {k: v for x in ..} -/
open Classical in
noncomputable def dcGo (tg : Tg) (mc : M Bool) (mk mv : M SV) (en0 : En) : List D → List (Key × D) → Option (List (Key × D))
  | [], acc => some acc
  | d :: r, acc => match setTg tg d en0 with
    | none => none
    | some en1 => match mc en1 with
      | .ok false en2 => if en2 = en1 then dcGo tg mc mk mv en0 r acc else none
      | .ok true en2 => if en2 = en1 then (match mkeep mk en1 with
        | .ok (.d y) en3 => if en3 = en1 then (match mkeep mv en1 with
          | .ok (.d z) en4 => (match keyD y with
            | some k => if en4 = en1 ∧ acc.length < sizeLine then dcGo tg mc mk mv en0 r (putD acc k z) else none
            | none => none)
          | _ => none) else none
        | _ => none) else none
      | _ => none
noncomputable def mDcGo (tg : Tg) (vs : List Nat) (mc : M Bool) (mk mv : M SV) (ds : List D) : M SV := fun en => if noOwn en vs then (match dcGo tg mc mk mv (wipeEn en vs) ds [] with
  | some acc => .ok (.own (.dct acc)) en
  | none => .stuck) else .stuck
def Gs.blkD (G : Gs) (D0 : Addr) (kvs : List (Key × V)) : Gs := { G with W := fun _ _ _ _ => False, B := D0 :: G.B, HB := upd G.HB D0 (.dK kvs) }
section
variable {G : Gs} {H H1 : Hp} {L : List Addr} {σ : St} {en : En} {D0 : Addr} {kvs : List (Key × V)}
theorem RelS.toBlkD (R : RelS G L σ H en) (n : H D0 = none) : RelS (G.blkD D0 []) (D0 :: L) σ (upd H D0 (.dK [])) en where
  own := (R.hide n (.inr ⟨[], rfl⟩)).own
  same := (R.hide n (.inr ⟨[], rfl⟩)).same
  len := R.len
  slot := (R.hide n (.inr ⟨[], rfl⟩)).slot
  apart := R.apart
  base := fun a m => by
    rcases List.mem_cons.mp m with rfl | m
    · exact ⟨List.mem_cons_self, by rw [upd_same]; exact upd_same.symm, own_out R (R.fresh_out n)⟩
    · obtain ⟨h1, h2, h3⟩ := (R.hide (o := .dK []) n (.inr ⟨[], rfl⟩)).base a m
      have hne : a ≠ D0 := fun z => R.fresh_base n (z ▸ m)
      exact ⟨h1, h2.trans (by show G.HB a = upd G.HB D0 (.dK []) a; rw [upd_ne hne]), h3⟩
theorem RelS.ofBlkD (R : RelS (G.blkD D0 kvs) L σ H en) (n : D0 ∉ G.B) : RelS G L σ H en where
  own := R.own
  same := R.same
  len := R.len
  slot := R.slot
  apart := R.apart
  base := fun a m => by
    obtain ⟨h1, h2, h3⟩ := R.base a (List.mem_cons_of_mem _ m)
    have hne : a ≠ D0 := fun z => n (z ▸ m)
    exact ⟨h1, h2.trans (by show upd G.HB D0 (.dK kvs) a = G.HB a; rw [upd_ne hne]), h3⟩
theorem RelS.pushBlkD (R : RelS (G.blkD D0 kvs) L σ H en) (n : D0 ∉ G.B) {kws : List (Key × V)} : RelS (G.blkD D0 kws) L σ (upd H D0 (.dK kws)) en := by
  obtain ⟨m, _, h3⟩ := R.base D0 List.mem_cons_self
  refine ⟨fun a ma => ?_, by rw [hid_upd m]; exact R.same, R.len, fun i sv e => ?_, R.apart, fun a ma => ?_⟩
  · by_cases ha : a = D0
    · subst ha
      exact .inr ⟨kws, upd_same⟩
    · rw [upd_ne ha]
      exact R.own a ma
  · have q := R.slot i sv e
    cases sv with
    | d dd => obtain ⟨v, e1, h⟩ := q; exact ⟨v, e1, by rw [hid_upd m]; exact h⟩
    | own b =>
      obtain ⟨c, u, e1, mc, hc, h⟩ := q
      have hne : c ≠ D0 := fun z => h3 i b e (by rw [← z]; exact e1)
      exact ⟨c, u, e1, mc, by rw [upd_ne hne]; exact hc, by rw [hid_upd m]; exact h⟩
    | bor _ => exact q
  · rcases List.mem_cons.mp ma with rfl | mb
    · exact ⟨m, by rw [upd_same]; exact upd_same.symm, h3⟩
    · obtain ⟨h1, h2, h4⟩ := R.base a ma
      have hne : a ≠ D0 := fun z => n (z ▸ mb)
      refine ⟨h1, ?_, h4⟩
      rw [upd_ne hne, h2]
      show upd G.HB D0 (.dK kvs) a = upd G.HB D0 (.dK kws) a
      rw [upd_ne hne, upd_ne hne]
end
section
variable {G : Gs} {J : It} {tg : Tg} {mc : M Bool} {mk mv : M SV} {ds : List D} {H : Hp} {L : List Addr} {σ : St} {en : En} {Q : VK} {vs : List Nat} {tt : TT} {tk tv : TE}
theorem dc_run {ok : Hp → List Addr → Prop} (W : Walks G.K J ok ds) (R : RelS G L σ H en) (q : PostE G σ H L (mDcGo tg vs mc mk mv ds en) Q) (hsub : ∀ j ∈ tg.slots, j ∈ vs)
    (k : ∀ (G' : Gs) H' L', G'.K = G.K → RelS G' L' (wipe σ vs) H' (wipeEn en vs) → Same (hid H L) (hid H' L') → ok H' L')
    (ht : ∀ (D0 : Addr) (xs : List (Key × V)) (σ' : St) (H' : Hp) Q, tT (G.blkD D0 xs) mc σ' H' Q → tt σ' H' Q) (hk : ∀ (D0 : Addr) (xs : List (Key × V)) (σ' : St) (H' : Hp) Q, tE (G.blkD D0 xs) (mkeep mk) σ' H' Q → tk σ' H' Q)
    (hv : ∀ (D0 : Addr) (xs : List (Key × V)) (σ' : St) (H' : Hp) Q, tE (G.blkD D0 xs) (mkeep mv) σ' H' Q → tv σ' H' Q) :
    ∀ D0, H D0 = none → ∃ W : Nat → Nat → Hp → Prop, (∃ m, W 0 m (upd H D0 (.dK []))) ∧ ∀ i m H, W i m H →
      (J.stop i H ∧ Q (.ref D0) H) ∨ (J.go i H ∧ ∃ Nx : Hp → Prop, (∀ H', Nx H' → ∃ m', m' < m ∧ W (i + 1) m' H') ∧ ∀ x H', J.yld i H x H' → gOf G.K tg x (wipe σ vs) H' fun σ2 H2 => wipe σ2 vs = wipe σ vs ∧ tt σ2 H2 fun b H3 =>
        if b = true then tk σ2 H3 fun y H4 => tv σ2 H4 fun z H5 => ∃ kvs k, y = kV k ∧ H5 D0 = some (.dK kvs) ∧ kvs.length < sizeLine ∧ Nx (upd H5 D0 (.dK (putK kvs k z))) else Nx H3) := by
  intro D0 nD
  have nB : D0 ∉ G.B := R.fresh_base nD
  have hw := (R.wipe vs)
  unfold mDcGo at q
  split at q
  · rename_i hno
    cases ec : dcGo tg mc mk mv (wipeEn en vs) ds [] with
    | none => rw [ec] at q; exact q.elim
    | some fin =>
      rw [ec] at q
      dsimp only at q
      let Inv : Nat → Nat → Hp → Prop := fun i m H' => i + m = ds.length ∧ ∃ (L' : List Addr) (acc : List (Key × D)) (xs : List (Key × V)), RelS (G.blkD D0 xs) L' (wipe σ vs) H' (wipeEn en vs) ∧ Same (hid H L) (hid H' L') ∧ KD G.K (hid H' L') xs acc ∧
        dcGo tg mc mk mv (wipeEn en vs) (ds.drop i) acc = some fin
      refine ⟨Inv, ⟨ds.length, by omega, D0 :: L, [], [], hw.toBlkD nD, hid_new nD, .nil, ec⟩, ?_⟩
      rintro i m H1 ⟨hm, L1, acc, xs, R1, s1, hacc, e1⟩
      have hD : H1 D0 = some (.dK xs) := (R1.base D0 List.mem_cons_self).2.1.trans upd_same
      have mD : D0 ∈ L1 := (R1.base D0 List.mem_cons_self).1
      have hok := k (G.blkD D0 xs) H1 L1 rfl R1 s1
      by_cases hi : i < ds.length
      · obtain ⟨d, hd⟩ : ∃ d, ds[i]? = some d := ⟨ds[i], List.getElem?_eq_getElem hi⟩
        have hdrop : ds.drop i = d :: ds.drop (i + 1) := by
          rw [List.drop_eq_getElem_cons hi]
          rw [List.getElem?_eq_getElem hi] at hd
          cases hd
          rfl
        rw [hdrop] at e1
        unfold dcGo at e1
        refine .inr ⟨W.go i H1 L1 hok hi, fun H' => ∃ (L' : List Addr) (acc : List (Key × D)) (xs : List (Key × V)), RelS (G.blkD D0 xs) L' (wipe σ vs) H' (wipeEn en vs) ∧ Same (hid H L) (hid H' L') ∧ KD G.K (hid H' L') xs acc ∧
          dcGo tg mc mk mv (wipeEn en vs) (ds.drop (i + 1)) acc = some fin, fun H' n => ⟨m - 1, by omega, by omega, n⟩, fun x H2 hy => ?_⟩
        obtain ⟨s2, hx⟩ := W.yld i H1 L1 x H2 d hok hd hy R1.own
        have R2 := R1.grow s2
        cases e2 : setTg tg d (wipeEn en vs) with
        | none => rw [e2] at e1; cases e1
        | some en1 =>
          rw [e2] at e1
          dsimp only at e1
          obtain ⟨hl1, ho1⟩ := setTg_out e2
          refine g_run (G := G.blkD D0 xs) R2 hx e2 fun σ2 R3 k3 => ?_
          have hwσ : wipe σ2 vs = wipe σ vs := by
            have := wipe_same (σ := wipe σ vs) (σ' := σ2) (vs := vs) (by rw [R2.len, R3.len, hl1]) fun j hj => k3 j fun z => hj (hsub j z)
            rw [this]
            exact wipe_same (by rw [wipe_length]) fun j hj => wipe_keeps σ vs j hj
          have hwe : wipeEn en1 vs = wipeEn en vs := by
            rw [wipeEn_same (en := wipeEn en vs) (en' := en1) hl1.symm fun j hj => ho1 j fun z => hj (hsub j z)]
            exact wipeEn_same (by rw [wipeEn_len]) fun j hj => wipeEn_out en hj
          have back : ∀ {xs' : List (Key × V)} {L' : List Addr} {H' : Hp}, RelS (G.blkD D0 xs') L' σ2 H' en1 → RelS (G.blkD D0 xs') L' (wipe σ vs) H' (wipeEn en vs) := fun r => by
            have z := r.wipe vs
            rw [hwσ, hwe] at z
            exact z
          refine ⟨hwσ, ht D0 xs σ2 H2 _ ⟨en1, L1, R3, ?_⟩⟩
          have s12 : Same (hid H1 L1) (hid H2 L1) := hid_mono s2
          cases e3 : mc en1 with
          | stuck => rw [e3] at e1; cases e1
          | exc _ _ => rw [e3] at e1; cases e1
          | ok b en2 =>
            rw [e3] at e1
            intro H3 L3 R4 s3
            cases b with
            | false =>
              dsimp only at e1
              split at e1
              · rename_i he2
                subst he2
                rw [if_neg Bool.false_ne_true]
                exact ⟨L3, acc, xs, back R4, s1.trans (s12.trans s3), hacc.mono (s12.trans s3), e1⟩
              · cases e1
            | true =>
              dsimp only at e1
              split at e1
              · rename_i he2
                subst he2
                rw [if_pos rfl]
                refine hk D0 xs σ2 H3 _ ⟨en2, L3, R4, ?_⟩
                cases e4 : mkeep mk en2 with
                | stuck => rw [e4] at e1; cases e1
                | exc _ _ => rw [e4] at e1; cases e1
                | ok sv en3 =>
                  rw [e4] at e1
                  cases sv with
                  | own _ => cases e1
                  | bor _ => cases e1
                  | d y =>
                    dsimp only at e1
                    split at e1
                    · rename_i he3
                      subst he3
                      intro u H4 L4 R5 s4 hu
                      refine hv D0 xs σ2 H4 _ ⟨en3, L4, R5, ?_⟩
                      cases e5 : mkeep mv en3 with
                      | stuck => rw [e5] at e1; cases e1
                      | exc _ _ => rw [e5] at e1; cases e1
                      | ok sv en4 =>
                        rw [e5] at e1
                        cases sv with
                        | own _ => cases e1
                        | bor _ => cases e1
                        | d z =>
                          dsimp only at e1
                          split at e1
                          · rename_i kk ek
                            split at e1
                            · rename_i hc
                              obtain ⟨he4, hlen⟩ := hc
                              subst he4
                              intro v H5 L5 R6 s5 hv5
                              have hD5 : H5 D0 = some (.dK xs) := (R6.base D0 List.mem_cons_self).2.1.trans upd_same
                              have mD5 : D0 ∈ L5 := (R6.base D0 List.mem_cons_self).1
                              have st : Same (hid H1 L1) (hid H5 L5) := s12.trans (s3.trans (s4.trans s5))
                              obtain ⟨rfl, _⟩ := key_of_D (L := L4) (.inl hu) ek
                              refine ⟨xs, kk, rfl, hD5, by rw [hacc.length]; exact hlen, L5, putD acc kk z, putK xs kk v, (back R6).pushBlkD nB, by rw [hid_upd mD5]; exact s1.trans st, ?_, e1⟩
                              rw [hid_upd mD5]
                              exact (hacc.mono st).put hv5
                            · cases e1
                          · cases e1
                    · cases e1
              · cases e1
      · have hi' : i = ds.length := by omega
        have hdrop : ds.drop i = [] := List.drop_eq_nil_of_le (by omega)
        rw [hdrop] at e1
        cases e1
        refine .inl ⟨W.stop i H1 L1 hok hi', ?_⟩
        have hbase := (R1.base D0 List.mem_cons_self).2.2
        have R2 : RelS G L1 (wipe σ vs) H1 (wipeEn en vs) := R1.ofBlkD nB
        have nown : ∀ (j : Nat) (c : OB), en[j]? = some (some (SV.own c)) → j ∉ vs := fun j c ej mj => by
          have z := List.all_eq_true.mp hno j mj
          simp only [ej] at z
          cases z
        have R3 : RelS G L1 σ H1 en := by
          refine ⟨R2.own, R2.same, R.len, fun j sv ej => ?_, R.apart, fun a ma => ?_⟩
          · by_cases mj : j ∈ vs
            · have z := R.slot j sv ej
              cases sv with
              | d dd => obtain ⟨v, q1, q2⟩ := z; exact ⟨v, q1, Dq.mono s1 _ q2⟩
              | own c => exact absurd mj (nown j c ej)
              | bor _ => exact z
            · have z := R2.slot j sv (by rw [wipeEn_out _ mj]; exact ej)
              rw [wipe_keeps σ vs j mj] at z
              exact z
          · obtain ⟨h1, h2, h3⟩ := R2.base a ma
            refine ⟨h1, h2, fun j c ej => ?_⟩
            have mj := nown j c ej
            have z := h3 j c (by rw [wipeEn_out _ mj]; exact ej)
            rw [wipe_keeps σ vs j mj] at z
            exact z
        refine q _ H1 L1 R3 s1 ⟨D0, .dK xs, rfl, mD, nB, hD, hacc, fun j c ej => ?_⟩
        have mj := nown j c ej
        have z := hbase j c (by rw [wipeEn_out _ mj]; exact ej)
        rw [wipe_keeps σ vs j mj] at z
        exact z
  · exact q.elim
end
noncomputable def mDc (tg : Tg) (vs : List Nat) (mi : M SV) (mc : M Bool) (mk mv : M SV) : M SV := mbind (mfrz mi) fun sv en => match sv with
  | .d (.list ds) => mDcGo tg vs mc mk mv ds en
  | .d (.tuple ds) => mDcGo tg vs mc mk mv ds en
  | .d (.str z) => mDcGo tg vs mc mk mv (signs z) en
  | .bor i => (match en[i]? with
    | some (some (.own (.lst ds))) => if vs.contains i then .stuck else mDcGo tg vs mc mk mv ds en
    | _ => .stuck)
  | _ => .stuck
section
variable {X : Cx} {G : Gs} {kx vx t iter : Expr} {ifs : List Expr} {scope : Scope} {own : List (Str × Nat)} {mi mk mv : M SV} {mc : M Bool} {tg : Tg} {pos : Pos} {tt : TT} {tk tv : TE}
theorem dc_imp (hsub : ∀ j ∈ tg.slots, j ∈ own.map (·.2)) (ht : ∀ (D0 : Addr) (xs : List (Key × V)) (σ' : St) (H' : Hp) Q, tT (G.blkD D0 xs) mc σ' H' Q → tt σ' H' Q) (hk : ∀ (D0 : Addr) (xs : List (Key × V)) (σ' : St) (H' : Hp) Q, tE (G.blkD D0 xs) (mkeep mk) σ' H' Q → tk σ' H' Q)
    (hv : ∀ (D0 : Addr) (xs : List (Key × V)) (σ' : St) (H' : Hp) Q, tE (G.blkD D0 xs) (mkeep mv) σ' H' Q → tv σ' H' Q)
    (σ : St) (H : Hp) (Q : VK) (h : tE G (mDc tg (own.map (·.2)) mi mc mk mv) σ H Q) : tDc (iAny G.K (tE G (mfrz mi))) (gOf G.K tg) tt tk tv (own.map (·.2)) σ H Q := by
  obtain ⟨en, L, R, q⟩ := h
  refine (seqE R q).mono fun v H1 ⟨en1, L1, sv, R1, s1, r1, q1⟩ => ?_
  cases sv with
  | own _ => exact q1.elim
  | bor i =>
    obtain ⟨e1, b, e2⟩ := r1
    simp only [e2] at q1
    cases b with
    | dct _ => exact q1.elim
    | lst ds =>
      dsimp only at q1
      split at q1
      · exact q1.elim
      · rename_i hni
        obtain ⟨a, xs, e3, ma, ho, hr⟩ := slot_lst R1 e2
        rw [e1] at e3
        cases e3
        have mi' : i ∉ own.map (·.2) := fun z => hni (List.contains_iff_mem.mpr z)
        refine .inl ⟨a, xs, rfl, .of ho, dc_run walks_list R1 q1 hsub (fun G' H' L' hK R' s' => ?_) ht hk hv⟩
        obtain ⟨a', xs', e4, _, ho', hr'⟩ := slot_lst R' (i := i) (ds := ds) (by rw [wipeEn_out _ mi']; exact e2)
        rw [wipe_keeps σ _ i mi', e1] at e4
        cases e4
        rw [hK] at hr'
        exact ⟨xs', ho', hr'⟩
  | d d =>
    cases d with
    | list ds =>
      cases r1 with
      | lst hs ha => exact .inl ⟨_, _, rfl, .of (hid_same _ _ hs), dc_run walks_list R1 q1 hsub (fun G' H' L' hK R' s' => ⟨_, hid_same _ _ (s' _ _ hs), DqAll.mono s' _ ha⟩) ht hk hv⟩
    | tuple ds =>
      cases r1 with
      | tup hs ha => exact .inr (.inl ⟨_, _, rfl, sqT_mono hid_same hs, dc_run walks_tup R1 q1 hsub (fun G' H' L' hK R' s' => ⟨_, sqT_mono hid_same (sqT_mono s' hs), DqAll.mono s' _ ha⟩) ht hk hv⟩)
    | str z =>
      cases r1
      exact .inr (.inr ⟨z, rfl, dc_run walks_str R1 q1 hsub (fun _ _ _ _ _ _ => trivial) ht hk hv⟩)
    | _ => exact q1.elim
/-- what stands in the block -/
structure InBlkD (X : Cx) (G : Gs) (scope : Scope) (t kx vx : Expr) (ifs : List Expr) (tg : Tg) (mc : M Bool) (mk mv : M SV) : Prop where
  g : ∀ (s : Shared) (H : Hp) (C : Addr) (cl : List (Str × Addr)) (fp : List Addr), PG (X.blk s H scope (compEnvC scope cl C X.env) fp) t (gOf X.K tg)
  c : ∀ (s : Shared) (H : Hp) (C : Addr) (cl : List (Str × Addr)) (fp : List Addr) (D0 : Addr) (xs : List (Key × V)), PTs (X.blk s H scope (compEnvC scope cl C X.env) fp) ifs (tT (G.blkD D0 xs) mc)
  k : ∀ (s : Shared) (H : Hp) (C : Addr) (cl : List (Str × Addr)) (fp : List Addr) (D0 : Addr) (xs : List (Key × V)), PE (X.blk s H scope (compEnvC scope cl C X.env) fp) kx (tE (G.blkD D0 xs) mk)
  v : ∀ (s : Shared) (H : Hp) (C : Addr) (cl : List (Str × Addr)) (fp : List Addr) (D0 : Addr) (xs : List (Key × V)), PE (X.blk s H scope (compEnvC scope cl C X.env) fp) vx (tE (G.blkD D0 xs) mv)
theorem je_dc (hc : X.calm = true) (hN : X.N.Nodup) (hK : X.K = G.K) (hi : PE X iter (tE G mi)) (ok : BlkOk X.N X.env.scope scope own) (B : InBlkD X G scope t kx vx ifs tg mc mk mv) (hsub : ∀ j ∈ tg.slots, j ∈ own.map (·.2))
    (hs : ∀ x, foldedSetIterable iter X.env x = pure x := by intro _; rfl) : PE X (.DictComp kx vx [⟨t, iter, ifs, 0⟩] scope pos) (tE G (mDc tg (own.map (·.2)) mi mc mk mv)) :=
  (pe_dc (tt := fun σ H Q => ∃ p : Addr × List (Key × V), tT (G.blkD p.1 p.2) mc σ H Q) (tk := fun σ H Q => ∃ p : Addr × List (Key × V), tE (G.blkD p.1 p.2) (mkeep mk) σ H Q) (tv := fun σ H Q => ∃ p : Addr × List (Key × V), tE (G.blkD p.1 p.2) (mkeep mv) σ H Q)
    hc hN (pi_any (je_frz hi)) ok B.g (fun s H C cl fp => PTs.ex fun p => B.c s H C cl fp p.1 p.2) (fun s H C cl fp => PE.ex fun p => je_keep (B.k s H C cl fp p.1 p.2)) (fun s H C cl fp => PE.ex fun p => je_keep (B.v s H C cl fp p.1 p.2)) hs).imp fun σ H Q h => by
    rw [hK]
    exact dc_imp hsub (fun D0 xs _ _ _ q => ⟨(D0, xs), q⟩) (fun D0 xs _ _ _ q => ⟨(D0, xs), q⟩) (fun D0 xs _ _ _ q => ⟨(D0, xs), q⟩) σ H Q h
end
end L2

namespace L2
open PySem PySem.Spec PyProof.Rows

/-! ### sorted(set(xs)), xs texts -/
def sortSet (xs : List Str) : List Str := sortStrs xs.eraseDups
def ssD : D → Option (List Str)
  | .list ds => (match strsOf ds with
    | some xs => if xs.length < 64 then some (sortSet xs) else none
    | none => none)
  | _ => none
def mSortSet (m : M SV) : M SV := mbind (mfrz m) fun sv en => match look en sv with
  | some d => (match ssD d with
    | some xs => .ok (.own (.lst (xs.map .str))) en
    | none => .stuck)
  | none => .stuck
section
variable {X : Cx} {G : Gs} {e : Expr} {m : M SV} {p p2 pos pos2 : Pos}
/-! ### an expression as a statement -/
def mExpr (m : M SV) : M Ct := mbind m fun _ => mpure .nx
theorem js_expr (he : PE X e (tE G m)) (hs : swapsWith e none pos.line X.env = pure false := by rfl) : PS X (.Expr e pos) (tS G [] (mExpr m)) := (ps_expr he hs).imp fun E σ H h => by
  obtain ⟨en, L, R, q⟩ := h
  refine (seqES R q).mono fun v H1 ⟨en1, L1, sv, R1, s1, r1, q1⟩ => ?_
  exact q1 σ H1 L1 R1 (Same.refl _) Keeps.refl
end
end L2

namespace L2
open PySem PySem.Spec PyProof.Rows

/-! ### the law's own call -/
def spLaw (K : Kf) : Sp := fun vs H Q _ => ∃ (a : Addr) (ns : List Int), vs = [.ref a] ∧ ns.length ≤ 63 ∧ SqL K H a (ns.map V.int) ∧ ∀ H', Q (.bl true) H'
theorem fn_law {P : Program} {w : World} {K : Kf} {mg : Str → Option Value} {base : Heap} {k : Nat} {f : Addr} {fd : FuncData} {ps : List Str} {F : Fm} (hp : ps.length = 1) (h : FnOk P w K mg base (L2N.CX P w) k f fd ps (spF K mg 1 F))
    (math : ∀ ns : List Int, ns.length ≤ 63 → ∃ en, F [scrD ns] = .ok (.d (.bool true)) en) : FnOk P w K mg base (L2N.CX P w) k f fd ps (spLaw K) where
  len := fun vs H Q E ⟨a, ns, e, _⟩ => by rw [e, hp]; rfl
  run := fun A outer s H args us vs Q E hr he hb hv ⟨a, ns, e, hl, hS, q⟩ => h.run A outer s H args us vs Q E hr he hb hv (by
    subst e
    obtain ⟨en, em⟩ := math ns hl
    refine ⟨rfl, [], [scrD ns], (fun a m => absurd m List.not_mem_nil), .cons (.scr ?_) .nil, ?_⟩
    · rw [hid_nil]; exact hS
    · rw [em]
      intro v H' _ r
      cases r
      exact q H')
theorem cx_no {P : Program} {w : World} {H : Hp} {s s' : Shared} {e : Value} (h : L2N.CX P w [] H s (fun _ _ _ => False) e s') : False := by
  obtain ⟨a, B, H', cls, d, _, _, _, _, _, _, _, z⟩ := h
  exact z
theorem exm_eq {K : Kf} {C : Addr} (e : W.subIn K (.ref C) (.type "BaseException") = some true) (j : W.isClsIn K C = true) (t : W.typeIn K (.ref C) = some (.type "type")) (s : W.subIn K (.ref C) (.ref C) = some true) : W.exmOne K (.ref C) (.ref C) = some true := by
  have j' : (W.clsIn K C).isSome = true := j
  unfold W.exmOne W.kitCls
  rw [e]
  simp only [beq_self_eq_true, if_true]
  rw [j', t]
  simp only [beq_self_eq_true, Bool.and_self, if_true]
  exact s
end L2

namespace L2
open PySem PySem.Spec PyProof.Rows

/-! ### a set of texts, with what its order rests on -/
def GoodT (w : World) (e : Int × Value) : Prop := ∃ x tk, e.2 = .str x tk ∧ e.1 = hashStr w x
def keyT (e : Int × Value) : Str := match e.2 with
  | .str x _ => x
  | _ => Str.empty
structure SetT (w : World) (h : Heap) (a : Addr) (xs : List Str) (n : Nat) (ob : Obj) (es : Array (Int × Value)) (ep : Nat) (t : SetTable) : Prop where
  at_ : h.get? a = some ob
  ex : ob.ExactSet
  dat : ob.data = .set es ep t
  good : ∀ e ∈ es.toList, GoodT w e
  nd : (es.toList.map keyT).Nodup
  mem : ∀ x, x ∈ xs ↔ x ∈ es.toList.map keyT
  few : es.size ≤ n
  fits : t.fits es.size = true
  ris : Ris t.place.toList
  led : w.params.followText "set-order" = true ∨ t.led = true
def HasT (w : World) (h : Heap) (a : Addr) (xs : List Str) (n : Nat) : Prop := ∃ ob es ep t, SetT w h a xs n ob es ep t
theorem HasT.keep {w : World} {h h' : Heap} {a : Addr} {xs : List Str} {n : Nat} (S : HasT w h a xs n) (k : ∀ o, h.get? a = some o → h'.get? a = some o) : HasT w h' a xs n := by
  obtain ⟨ob, es, ep, t, S⟩ := S
  exact ⟨ob, es, ep, t, { S with at_ := k _ S.at_ }⟩
theorem goodT_elems {P : Program} {w : World} {l : List (Int × Value)} (g : ∀ e ∈ l, GoodT w e) : ElemsOf (PySem.strKind P w) l := fun e m => by
  obtain ⟨x, tk, h1, h2⟩ := g e m
  rw [h1]
  exact ⟨⟨x, strKind_is _ _ _ _, h2⟩, rfl⟩
theorem goodT_key {P : Program} {w : World} {l : List (Int × Value)} (g : ∀ e ∈ l, GoodT w e) (x : Str) : x ∈ l.map keyT ↔ ∃ e ∈ l, (PySem.strKind P w).is x e.2 = true := by
  constructor
  · intro m
    obtain ⟨e, me, q⟩ := List.mem_map.mp m
    obtain ⟨y, tk, h1, _⟩ := g e me
    refine ⟨e, me, ?_⟩
    have : y = x := by rw [← q]; unfold keyT; rw [h1]
    rw [h1, this]
    exact strKind_is _ _ _ _
  · rintro ⟨e, me, q⟩
    obtain ⟨y, tk, h1, _⟩ := g e me
    refine List.mem_map.mpr ⟨e, me, ?_⟩
    have c : (PySem.strKind P w).is y e.2 = true := by rw [h1]; exact strKind_is _ _ _ _
    have := (PySem.strKind P w).inj _ _ _ c q
    unfold keyT
    rw [h1]
    exact this
section
variable {P : Program} {w : World} {A : Around} {E : Value → Shared → Prop} {s : Shared} {a : Addr} {xs : List Str} {n : Nat} {x : Str}
/-- what stands behind the table's new row -/
theorem add_end {g : Bool → Sem Unit} (hg : ∀ b s₁ (Q' : Unit → Shared → Prop), Q' () s₁ → wpAny (model P w) A (g b) Q' E s₁) {ob : Obj} {es es1 : Array (Int × Value)} {ep : Nat} {t t2 : SetTable}
    (h0 : s.heap.get? a = some ob) (hx : ob.ExactSet) (h1 : ob.data = .set es ep t) (g1 : ∀ e ∈ es1.toList, GoodT w e) (n1 : (es1.toList.map keyT).Nodup) (m1 : ∀ y, y ∈ x :: xs ↔ y ∈ es1.toList.map keyT)
    (f1 : es1.size ≤ n) (hn : n < scanBound) (f2 : t2.fits es1.size = true) (r2 : Ris t2.place.toList) (l2 : w.params.followText "set-order" = true ∨ t2.led = true) {old : Bool} {R : Option Bool → Shared → Prop}
    (k : ∀ h', Heap.SameBut a s.heap h' → HasT w h' a (x :: xs) n → R (some true) { s with heap := h' }) :
    wpAny (model P w) A (do
      storeSet a es1 t2
      if (!old && t2.tooFull) = true then do
        g (relayAll t2 es1 (SetTable.grown es1.size)).2.2
        storeSet a (relayAll t2 es1 (SetTable.grown es1.size)).1 (relayAll t2 es1 (SetTable.grown es1.size)).2.1
        pure (some true)
      else pure (some true)) R E s := by
  have b1 : es1.size < scanBound := Nat.lt_of_le_of_lt f1 hn
  have o1 := store_at (es' := es1) (t' := t2) h0 h1
  have c1 := Heap.SameBut.update s.heap a (Obj.putSet es1 t2)
  refine wpAny_bind (wpAny_storeSet_of h0 h1 ?_ (fits_of_scanBound b1))
  by_cases hf : (!old && t2.tooFull) = true
  · rw [if_pos hf]
    have pm := relayAll_perm t2 es1 (SetTable.grown es1.size); have f3 := relayAll_fits t2 es1 (SetTable.grown es1.size)
    have r3 := relayAll_ris t2 es1 (SetTable.grown es1.size); have l3 := relayAll_led t2 es1 (SetTable.grown es1.size)
    generalize relayAll t2 es1 (SetTable.grown es1.size) = Y at pm f3 r3 l3 ⊢
    obtain ⟨es2, t3, gv⟩ := Y
    dsimp only at pm f3 r3 l3 ⊢
    have z2 : es2.size = es1.size := by rw [← Array.length_toList, pm.length_eq, Array.length_toList]
    refine wpAny_bind (hg _ _ _ (wpAny_bind (wpAny_storeSet_of o1 rfl ?_ (fits_of_scanBound (by rw [z2]; exact b1)))))
    have o2 := store_at (es' := es2) (t' := t3) o1 rfl
    exact wpAny_pure (k _ (c1.trans (Heap.SameBut.update _ a _)) ⟨_, es2, _, t3, { at_ := o2, ex := hx, dat := rfl, good := fun e m => g1 e (pm.mem_iff.mp m), nd := (pm.map keyT).nodup_iff.mpr n1, mem := fun y => (m1 y).trans (pm.map keyT).mem_iff.symm, few := by rw [z2]; exact f1, fits := f3, ris := r3, led := l2.imp id fun q => by rw [l3]; exact q }⟩)
  · rw [if_neg hf]
    exact wpAny_pure (k _ c1 ⟨_, es1, _, t2, { at_ := o1, ex := hx, dat := rfl, good := g1, nd := n1, mem := m1, few := f1, fits := f2, ris := r2, led := l2 }⟩)
theorem addT {tk : Tok} {Q : Bool → Shared → Prop} (S : HasT w s.heap a xs n) (room : n + 1 < scanBound) (k : ∀ b h', Heap.SameBut a s.heap h' → HasT w h' a (x :: xs) (n + 1) → Q b { s with heap := h' }) :
    wpAny (model P w) A (setAddHashed a (.str x tk) ((PySem.strKind P w).hash x)) Q E s := by
  obtain ⟨ob, es, ep, t, S⟩ := S
  have hk : (PySem.strKind P w).is x (.str x tk) = true := strKind_is _ _ _ _
  have hs : (Value.str x tk).scannable = true := rfl
  have he := goodT_elems (P := P) S.good
  have hb : es.size < scanBound := by have := S.few; omega
  unfold setAddHashed setAddHashedIn
  refine wpAny_holding (wpAny_bind (wpAny_setState_of S.at_ S.dat S.fits ?_))
  dsimp only
  rw [byScan_of hs hb he, if_pos rfl]
  unfold setAddByScan
  refine wpAny_bind (wpAny_bind (wpAny_rule (wpAny_bind (wpAny_setScan_of hk S.at_ S.dat S.fits he ?_))))
  cases hf : List.findIdx? (fun e => (PySem.strKind P w).is x e.2) es.toList with
  | some j =>
    obtain ⟨lj, pj, _⟩ := List.findIdx?_eq_some_iff_getElem.mp hf
    have mx : x ∈ es.toList.map keyT := (goodT_key (P := P) S.good x).mpr ⟨_, List.getElem_mem lj, pj⟩
    refine wpAny_pure (wpAny_pure (k false s.heap (Heap.SameBut.refl a s.heap) ⟨ob, es, ep, t, { S with mem := fun y => ?_, few := Nat.le_succ_of_le S.few }⟩))
    rw [List.mem_cons, ← S.mem y]
    exact ⟨fun z => z.elim (fun q => by rw [q]; exact (S.mem x).mpr mx) id, .inr⟩
  | none =>
    dsimp only
    have nx : x ∉ es.toList.map keyT := fun z => by
      obtain ⟨e, me, q⟩ := (goodT_key (P := P) S.good x).mp z
      have c := List.findIdx?_eq_none_iff.mp hf e me
      rw [q] at c
      cases c
    have gw : ∀ (b : Bool) {s₁ : Shared} {Q' : Unit → Shared → Prop}, Q' () s₁ → wpAny (model P w) A (match b with
        | true => rule "set.scan.the-table-gave-way"
        | false => pure ()) Q' E s₁ := fun b s₁ Q' q => by cases b <;> first | exact wpAny_pure q | exact wpAny_rule q
    have pm := layNew_perm t es ((PySem.strKind P w).hash x) (.str x tk); have f1 := layNew_fits t es ((PySem.strKind P w).hash x) (.str x tk)
    have r1 := layNew_ris t es ((PySem.strKind P w).hash x) (.str x tk) S.ris; have l1 := layNew_led t es ((PySem.strKind P w).hash x) (.str x tk)
    generalize layNew t es ((PySem.strKind P w).hash x) (.str x tk) = Y at pm f1 r1 l1 ⊢
    obtain ⟨es1, t1, old, gv⟩ := Y
    dsimp only at pm f1 r1 l1 ⊢
    rw [Array.toList_push] at pm
    have pc : es1.toList.Perm (((PySem.strKind P w).hash x, Value.str x tk) :: es.toList) := pm.trans (List.perm_append_singleton _ _)
    have pk : (es1.toList.map keyT).Perm (x :: es.toList.map keyT) := pc.map keyT
    have g1 : ∀ e ∈ es1.toList, GoodT w e := fun e m => (List.mem_cons.mp (pc.mem_iff.mp m)).elim (fun q => by rw [q]; exact ⟨x, tk, rfl, rfl⟩) (S.good e)
    have n1 : (es1.toList.map keyT).Nodup := pk.nodup_iff.mpr (List.nodup_cons.mpr ⟨nx, S.nd⟩)
    have m1 : ∀ y, y ∈ x :: xs ↔ y ∈ es1.toList.map keyT := fun y => by rw [pk.mem_iff, List.mem_cons, List.mem_cons, S.mem y]
    have z1 : es1.size ≤ n + 1 := by
      rw [← Array.length_toList, pc.length_eq, List.length_cons, Array.length_toList]
      exact Nat.succ_le_succ S.few
    have ld : w.params.followText "set-order" = true ∨ t1.led = true := S.led.imp id fun q => by rw [l1]; exact q
    refine wpAny_bind (gw _ ?_)
    split
    · refine wpAny_bind ?_
      rw [hashByValue_scannable 8 hs]
      refine wpAny_pure (add_end (fun b s₁ Q' q => by cases b <;> first | exact wpAny_pure q | exact wpAny_rule q) S.at_ S.ex S.dat g1 n1 m1 z1 room ?_ ?_ ?_ ?_)
      · first | (split <;> first | exact f1 | exact SetTable.fits_plain_off f1) | exact f1
      · first | (split <;> exact r1) | exact r1
      · first | (split <;> exact ld) | exact ld
      · exact fun h' sb r => wpAny_pure (k true h' sb r)
    · refine wpAny_bind (wpAny_pure ?_)
      rw [if_pos rfl]
      exact add_end (fun b s₁ Q' q => by cases b <;> first | exact wpAny_pure q | exact wpAny_rule q) S.at_ S.ex S.dat g1 n1 m1 z1 room f1 r1 ld fun h' sb r => wpAny_pure (k true h' sb r)
end
end L2

namespace L2
open PySem PySem.Spec PyProof.Rows

section
variable {P : Program} {w : World} {A : Around} {E : Value → Shared → Prop} {s : Shared} {a : Addr} {xs : List Str} {n : Nat}
theorem strs_of_all : ∀ (vs : List Value), (∀ v ∈ vs, ∃ x t, v = .str x t) → ∃ ss, StrsAre vs ss
  | [], _ => ⟨[], .nil⟩
  | v :: r, h => by
    obtain ⟨x, t, rfl⟩ := h v List.mem_cons_self
    obtain ⟨ss, q⟩ := strs_of_all r fun u m => h u (List.mem_cons_of_mem _ m)
    exact ⟨x :: ss, .cons x t q⟩
theorem strsAre_key : ∀ {vs : List Value} {ss : List Str}, StrsAre vs ss → ss = vs.map fun v => keyT (0, v)
  | _, _, .nil => rfl
  | _, _, .cons x t h => by rw [List.map_cons, ← strsAre_key h]; rfl
/-- sorted(it) -/
theorem sortT {Q : Value → Shared → Prop} (S : HasT w s.heap a xs n) (hh : A.handled = none) (hn : n < scanBound)
    (k : ∀ s' p (out : Array Value) (c : Nat) (ys : List Str), (∀ b o, s.heap.get? b = some o → s'.heap.get? b = some o) → s'.gens = s.gens → s'.os = s.os → s.heap.objs.size ≤ p →
      s'.heap.get? p = some (seqObj "list" out c) → StrsAre out.toList ys → ys.length ≤ n → ys.Nodup → (∀ x, x ∈ ys ↔ x ∈ xs) → sortedS ys = true → Q (.ref p) s') :
    wpAny (model P w) A (call (.builtin "sorted") [.ref a]) Q E s := by
  obtain ⟨ob, es, ep, t, S⟩ := S
  have hb : es.size < scanBound := Nat.lt_of_le_of_lt S.few hn
  refine Calls.call_function_entry kind_sorted plain_sorted entry_sorted (args_sorted1 _) ?_
  unfold Builtin.«sorted»
  refine wpAny_bind (m := checkCount "sorted" 1 1 _) (wpAny_pure (wpAny_bind (collect_set (A := A.in1) hh ⟨ob, S.at_, S.ex.1, S.dat⟩ S.fits hb S.ris S.led fun s1 vs k1 hz g1 o1 pm => ?_)))
  obtain ⟨ss, hS⟩ := strs_of_all vs fun v m => by
    obtain ⟨e, me, q⟩ := List.mem_map.mp (pm.mem_iff.mp m)
    obtain ⟨x, tk, h1, _⟩ := S.good e me
    exact ⟨x, tk, by rw [← q]; exact h1⟩
  have pk : ss.Perm (es.toList.map keyT) := by
    rw [strsAre_key hS]
    have q := pm.map fun v => keyT (0, v)
    rw [List.map_map] at q
    exact q
  have hvl : vs.length ≤ sizeLine := by
    rw [pm.length_eq, List.length_map, Array.length_toList]
    exact fits_of_scanBound hb
  refine wpAny_bind (wpAny_newList ?_ hvl)
  have hoL : (s1.heap.push (seqObj "list" vs.toArray 0)).get? s1.heap.objs.size = some (seqObj "list" vs.toArray 0) := Heap.get?_push_size _ rfl
  refine wpAny_bind (wpAny_holding (wpAny_call_entry slot_list_sort ⟨_, hoL, rfl⟩ entry_list_sort (list_sort_treeKAny strKind_oneLt hoL hS.keysOf (fun v₁ v₂ rest e => keyKind_strs (by rw [← e]; exact hS)) hvl fun st' hp hs => ⟨_, rfl, ?_⟩) (args_list_sort _)))
  obtain ⟨ys, h1, h2, h3⟩ := sorted_out_str hS hp hs
  obtain ⟨c, hc⟩ := sortedHeap_at (vs := vs) (out := (arrOf st').map (·.2)) hoL
  have pn : ys.Perm (es.toList.map keyT) := h2.trans pk
  refine wpAny_pure ⟨_, rfl, k _ s1.heap.objs.size _ c ys (fun b u e => ?_) g1 o1 hz hc h1 (by rw [pn.length_eq, List.length_map, Array.length_toList]; exact S.few) (pn.nodup_iff.mpr S.nd) (fun x => by rw [pn.mem_iff, ← S.mem x]) h3⟩
  have q := k1 b u e
  have hlt := Heap.lt_size q
  show (sortedHeap (s1.heap.push (seqObj "list" vs.toArray 0)) s1.heap.objs.size vs _).get? b = some u
  rw [sortedHeap_old (Nat.ne_of_lt hlt) (by rw [size_push']; exact Nat.lt_succ_of_lt hlt)]
  exact Heap.get?_push_of_some _ q
theorem led_fresh (w : World) : w.params.followText "set-order" = true ∨ (SetTable.fresh 0 0 (!w.params.followText "set-order")).led = true := by
  cases h : w.params.followText "set-order"
  · exact .inr rfl
  · exact .inl rfl
theorem HasT.fresh {h : Heap} (w : World) : HasT w (h.push { cls := .type "set", dict := none, data := .set #[] 0 (.fresh 0 0 (!w.params.followText "set-order")) }) h.objs.size [] 0 :=
  ⟨_, #[], 0, _, { at_ := Heap.get?_push_size _ rfl, ex := ⟨rfl, rfl, rfl⟩, dat := rfl, good := fun e he => by simp at he, nd := by simp, mem := fun x => by simp, few := Nat.le_refl 0, fits := by rfl, ris := .nil, led := led_fresh w }⟩
theorem HasT.more {h : Heap} {ys : List Str} {m : Nat} (S : HasT w h a xs n) (e : ∀ x, x ∈ ys ↔ x ∈ xs) (l : n ≤ m) : HasT w h a ys m := by
  obtain ⟨ob, es, ep, t, S⟩ := S
  exact ⟨ob, es, ep, t, { S with mem := fun x => (e x).trans (S.mem x), few := Nat.le_trans S.few l }⟩
/-- the loop of set(xs) -/
theorem loopT {R : Result → Shared → Prop} {I : Addr} {fp wr : List Addr} {G : Array GenState → Array GenState → Prop} {n : Nat} {Pv : Nat → Value → Prop} {St : Nat → Shared → Prop} (W : WalksS P w A.in1 I fp wr G n Pv St) (a : Addr) (hf : a ∉ fp) (ts : List Str) (hl : ts.length = n) (hn : n + 1 < scanBound)
    (hv : ∀ i v, Pv i v → ∃ t, v = .str (ts.getD i Str.empty) t) : ∀ (k i : Nat) (s : Shared), n - i = k → i ≤ n → St i s → HasT w s.heap a (ts.take i) i →
      (∀ s', Moved (a :: wr) G s s' → HasT w s'.heap a ts n → R (.ok (.ret .none)) s') → codeAny (model P w) A (.builtin "set.update.loop" ⟨[.ref a, .ref I], []⟩) R s := by
  have nw : a ∉ wr := fun h => hf (W.sub _ h)
  have ws : ∀ b ∈ wr, b ∈ a :: wr := fun b => List.mem_cons_of_mem _
  intro k
  induction k with
  | zero =>
    intro i s hk hi hst S kR
    obtain rfl : i = n := by omega
    refine codeAny_builtin PyProof.Rows.F.entry_set_update_loop ?_
    rw [Around.under_plainId PyProof.Rows.F.plain_set_update_loop _]
    show wpAny _ A.in1 (pyNext (.ref I) >>= _) _ _ s
    refine wpAny_bind (W.done s _ _ hst fun s' mv => ?_)
    rw [List.take_of_length_le (by omega)] at S
    exact wpAny_pure (kR s' (mv.mono ws) (S.keep fun o e => mv.heap a o nw e))
  | succ k ih =>
    intro i s hk hi hst S kR
    have lt : i < n := by omega
    refine codeAny_builtin PyProof.Rows.F.entry_set_update_loop ?_
    rw [Around.under_plainId PyProof.Rows.F.plain_set_update_loop _]
    show wpAny _ A.in1 (pyNext (.ref I) >>= _) _ _ s
    refine wpAny_bind (W.item i s _ _ lt hst fun v s1 hp hst1 mv => ?_)
    obtain ⟨t, rfl⟩ := hv i v hp
    have S1 : HasT w s1.heap a (ts.take i) i := S.keep fun o e => mv.heap a o nw e
    show wpAny _ A.in1 (holding [Value.str (ts.getD i Str.empty) t] (setAdd a (.str (ts.getD i Str.empty) t)) >>= _) _ _ s1
    refine wpAny_bind (wpAny_holding ?_)
    unfold setAdd
    refine wpAny_holding (wpAny_bind ((PySem.strKind P w).pyHash (k := ts.getD i Str.empty) (strKind_is _ _ _ _) ?_))
    refine addT (s := { s1 with toks := s1.toks + 1 }) S1 (by omega) fun b h' sb S2 => ?_
    have e2 : ∀ x, x ∈ ts.take (i + 1) ↔ x ∈ ts.getD i Str.empty :: ts.take i := fun x => by
      have gi : ts.getD i Str.empty = ts[i] := by rw [List.getD_eq_getElem?_getD, List.getElem?_eq_getElem (by omega)]; rfl
      rw [List.take_add_one, List.getElem?_eq_getElem (by omega), gi, List.mem_append, List.mem_cons]
      simp only [Option.toList_some, List.mem_singleton]
      exact Or.comm
    refine wpAny_pure ⟨plainId_quiet PyProof.Rows.F.plain_set_update_loop _, ih (i + 1) _ (by omega) lt (W.frame _ s1 _ _ hst1 (Nat.le_succ _) fun b hb o e => ?_) (S2.more e2 (Nat.le_refl _)) fun s2 mv2 S3 => ?_⟩
    · rw [sb.2 b fun h : b = a => hf (by rw [← h]; exact hb)]; exact e
    · refine kR s2 (Moved.trans W.gtrans ((mv.mono ws).then_heap (Nat.le_succ _) fun b o hb e => ?_) mv2) S3
      rw [sb.2 b fun h : b = a => hb (by rw [h]; exact List.mem_cons_self)]; exact e
/-- set.__new__ with one thing beside the class -/
theorem newT (v : Value) {Q₁ : Value → Shared → Prop} (k : Q₁ (.ref s.heap.objs.size) { s with heap := s.heap.push { cls := .type "set", dict := none, data := .set #[] 0 (.fresh 0 0 (!w.params.followText "set-order")) } }) :
    codeAny (model P w) A (.call (.builtin "set.__new__") ⟨[.type "set", v], []⟩) (wants Q₁ E) s := by
  refine codeAny_of_tree ?_
  show wpAny _ A.in1 (do checkBuiltinCall "set.__new__" ⟨[.type "set", v], []⟩; again (.builtin "set.__new__" ⟨[.type "set", v], []⟩)) _ _ s
  refine wpAny_bind (wpAny_of_eq (PySem.F.newCall_set_1 v) (wpAny_pure ⟨plainId_quiet F.plain_set_new _, codeAny_builtin F.entry_set_new ?_⟩))
  rw [Around.under_plainId F.plain_set_new _]
  unfold Builtin.«set.__new__» Builtin.Frozenset.newClass
  have hsub := sub_set_self
  obtain ⟨hp, g, d, tk, os⟩ := s
  dsimp only
  wp_walk
  refine wpAny_askSetting (wpAny_pure ?_)
  dsimp only
  simp only [newObj]
  exact wpAny_bind (wpAny_alloc (wpAny_pure (wpAny_pure k)))
end
end L2

namespace L2
open PySem PySem.Spec PyProof.Rows

section
variable {P : Program} {w : World} {A : Around} {E : Value → Shared → Prop} {s : Shared}
/-- set(xs), xs a list of texts -/
theorem setT {l : Addr} {items : Array Value} {ts : List Str} {Q : Value → Shared → Prop} (hh : A.handled = none) (hl : s.heap.IsList l items) (hi : StrsAre items.toList ts) (hn : ts.length + 1 < scanBound)
    (k : ∀ (h' : Heap) (tk : Nat), HasT w h' s.heap.objs.size ts ts.length → (∀ b o, b < s.heap.objs.size → s.heap.get? b = some o → h'.get? b = some o) → Q (.ref s.heap.objs.size) { s with heap := h', toks := tk }) :
    wpAny (model P w) A (call (.type "set") [.ref l]) Q E s := by
  obtain ⟨c, tl, hmro⟩ := PySem.F.called_set.mro; have hmade := PySem.F.called_set.made; have hsub := PySem.F.called_set.sub
  refine wpAny_call (codeAny_of_tree ?_); show wpAny _ _ (callAny (.type "set") _) _ _ _
  refine wpAny_pure ⟨Code.quiet_builtin _ (by decide +kernel), codeAny_builtin PySem.F.entry_type_call ?_⟩; rw [Around.under_plain (weight_type_call_type "set" [.ref l] []) rfl]
  have h1 := PySem.F.called_set.notType; have h2 := PySem.F.called_set.canCreate; have hct := PySem.F.typeCall_set_1 (.ref l)
  repeat (any_goals (first | assumption | wp_step))
  let h1 : Heap := s.heap.push { cls := .type "set", dict := none, data := .set #[] 0 (.fresh 0 0 (!w.params.followText "set-order")) }
  refine codeAny_mono (newT (.ref l) (E := E) (Q₁ := fun ob s₁ => ob = .ref s.heap.objs.size ∧ s₁ = { s with heap := h1 }) ⟨rfl, rfl⟩) fun r s₁ hr => ?_
  cases r with
  | error e => exact hr
  | ok fl =>
    cases fl with
    | next => exact hr.elim
    | brk => exact hr.elim
    | cont => exact hr.elim
    | ret ob =>
      obtain ⟨rfl, rfl⟩ := hr
      have S0 : HasT w h1 s.heap.objs.size [] 0 := HasT.fresh w
      have o0 : h1.get? s.heap.objs.size = some { cls := .type "set", dict := none, data := .set #[] 0 (.fresh 0 0 (!w.params.followText "set-order")) } := Heap.get?_push_size _ rfl
      have hT : Shared.TypeIs { s with heap := h1 } (.ref s.heap.objs.size) "set" := ⟨_, o0, rfl⟩
      have hli := PySem.F.called_set.init.lookup; have hbi := PySem.F.called_set.init.bind (.ref s.heap.objs.size)
      repeat (any_goals (first | assumption | wp_step))
      refine codeAny_mono (codeAny_call_builtin (R := wants (fun r s₂ => r = .none ∧ ∃ h' tk, s₂ = { s with heap := h', toks := tk } ∧ HasT w h' s.heap.objs.size ts ts.length ∧ (∀ b o, b < s.heap.objs.size → s.heap.get? b = some o → h'.get? b = some o)) E) PySem.F.called_set.init.plain PySem.F.entry_set_init (check_set_init_1 hT ?_)) fun r₂ s₂ hr₂ => ?_
      · obtain ⟨⟨oc, od, odt, osl⟩, hol, hcl, nl, hdl⟩ := hl
        simp only at hcl hdl
        subst hcl; subst hdl
        have hol' : h1.get? l = some { cls := .type "list", dict := od, data := .seq items nl, slots := osl } := Heap.get?_push_of_some _ hol
        have hsls := PySem.F.sub_list_set; have hslf := PySem.F.sub_list_frozenset
        have hne : (Value.type "list" == Value.type "dict") = false := by decide
        have hl1 : h1.IsList l items := ⟨_, hol', rfl, nl, rfl⟩
        unfold Builtin.«set.__init__» noKeywords Builtin.Frozenset.updateFrom
        generalize hPI : pyIter = PI
        wp_walk
        subst hPI
        refine wpAny_pyIter_list hl1 (wpAny_bind (wpAny_runValue ?_))
        have ll : l < s.heap.objs.size := Heap.lt_size hol
        have hh3 : A.in1.in1.in1.handled = none := by simp [hh]
        have z1 : h1.objs.size = s.heap.objs.size + 1 := Heap.size_push ..
        have ni : l ≠ h1.objs.size := fun e => absurd (e.trans z1) (Nat.ne_of_lt (Nat.lt_succ_of_lt ll))
        have nf : s.heap.objs.size ∉ [h1.objs.size, l] := fun m => by
          rcases List.mem_cons.mp m with e | m
          · exact absurd (e.trans z1) (Nat.ne_of_lt (Nat.lt_succ_self _))
          · exact absurd (List.mem_singleton.mp m) (Nat.ne_of_gt ll)
        have hsz : ts.length = items.size := by rw [← StrsAre.len_eq hi, Array.length_toList]
        refine loopT ((Walks.list hh3 _ l ni items).toS) s.heap.objs.size nf ts hsz (by rw [← hsz]; exact hn) (fun i v hv => SS.strs_at hi i v (by rw [Array.getElem?_toList]; exact hv)) (items.size - 0) 0 _ (by omega) (Nat.zero_le _) ⟨⟨_, Heap.get?_push_size _ rfl, rfl, rfl⟩, (hl1.push _)⟩ ?_ ?_
        · exact S0.keep fun o e => Heap.get?_push_of_some _ e
        · rintro ⟨h', g', d', tk', os'⟩ hm S'
          obtain rfl : g' = s.gens := hm.gens
          obtain rfl : d' = s.drawn := hm.drawn
          obtain rfl : os' = s.os := hm.os
          refine wpAny_pure (wpAny_pure ⟨rfl, h', tk', rfl, by rw [hsz]; exact S', fun b o hb e => ?_⟩)
          refine hm.heap b o (fun m => ?_) (Heap.get?_push_of_some _ (Heap.get?_push_of_some _ e))
          rcases List.mem_cons.mp m with e | m
          · exact absurd e (Nat.ne_of_lt hb)
          · exact absurd ((List.mem_singleton.mp m).trans z1) (Nat.ne_of_lt (Nat.lt_succ_of_lt hb))
      · cases r₂ with
        | error e => exact hr₂
        | ok fl₂ =>
          cases fl₂ with
          | next => exact hr₂.elim
          | brk => exact hr₂.elim
          | cont => exact hr₂.elim
          | ret r =>
            obtain ⟨rfl, h', tk, rfl, S', hk'⟩ := hr₂
            repeat (any_goals (first | assumption | wp_step))
            exact k _ _ S' hk'
end
/-! ### over the layer -/
def SetTO (w : World) (a : Addr) (xs : List Str) (n : Nat) : HO := .ext fun h => HasT w h a xs n
section
variable {X : Cx}
theorem setTO_ok {w : World} {P : Program} {H : Hp} {h : Heap} {a : Addr} {xs : List Str} {n : Nat} (S : HasT w h a xs n) : ObjOk P w H h a (SetTO w a xs n) := by
  have ⟨o, _, _, _, z⟩ := S
  exact ⟨S, ⟨o, z.at_⟩, fun h1 h2 q k => HasT.keep q k⟩
theorem setTO_get {pins : List (Addr × Obj)} {σ : St} {H : Hp} {s : Shared} {a : Addr} {xs : List Str} {n : Nat} (I : Inv X pins σ H s) (h : H a = some (SetTO X.w a xs n)) : HasT X.w s.heap a xs n := (I.hok a _ h).1
def rSetT (K : Kf) (w : World) : List V → Hp → VK → Prop := fun vs H Q => ∃ (a : Addr) (xs : List Str), vs = [.ref a] ∧ SqL K H a (xs.map V.str) ∧ xs.length + 1 < scanBound ∧ ∀ p, H p = none → Q (.ref p) (upd H p (SetTO w p xs xs.length))
theorem cr_setT (hc : X.calm = true) : CallR X (.type "set") (rSetT X.K X.w) := by
  intro pins s σ H vs us Q I r h
  obtain ⟨a, xs, rfl, hs, hl, q⟩ := h
  obtain ⟨its, rv, hi, _⟩ := I.list hs
  rw [Vals.ref1 r]
  refine setT (I.ok.hd hc) hi.isList rv.strs hl fun h' tk S k => ?_
  exact ⟨.ref _, upd H s.heap.objs.size (SetTO X.w s.heap.objs.size xs xs.length), I.laid (t' := tk) (fun b o e => k b o (Heap.lt_size e) e) (Nat.le_refl _) (setTO_ok S), rfl, q _ (I.hok.fresh (Nat.le_refl _))⟩
def rSortT (w : World) : List V → Hp → VK → Prop := fun vs H Q => ∃ (a : Addr) (xs : List Str) (n : Nat), vs = [.ref a] ∧ H a = some (SetTO w a xs n) ∧ n < scanBound ∧
  ∀ (ys : List Str) (p : Addr), ys.Nodup → (∀ x, x ∈ ys ↔ x ∈ xs) → sortedS ys = true → H p = none → Q (.ref p) (upd H p (.lst (ys.map V.str)))
theorem cr_sortT' (hc : X.calm = true) : CallR X (.builtin "sorted") (rSortT X.w) := by
  intro pins s σ H vs us Q I r h
  obtain ⟨a, xs, n, rfl, ha, hn, q⟩ := h
  rw [Vals.ref1 r]
  refine sortT (setTO_get I ha) (I.ok.hd hc) hn fun s' p out c ys k g o hp ho hi hl nd hm hs => ?_
  have hlen : (ys.map V.str).length ≤ sizeLine := by rw [List.length_map]; exact Nat.le_trans hl (fits_of_scanBound hn)
  have fr : H p = none := I.hok.fresh hp
  have J : Inv X pins σ (upd H p (.lst (ys.map V.str))) { s with heap := s'.heap, gens := s'.gens, drawn := s'.drawn, toks := s'.toks } :=
    I.call (ch := []) (Un.laid k hp fr) (I.hok.laid k hp ⟨hlen, out.toList, c, vals_of_strs hi, ho⟩) (by rw [g]; exact I.bare) fun _ z => nomatch z
  obtain ⟨sh, sg, sd, st, so⟩ := s'
  obtain rfl : so = s.os := o
  exact ⟨.ref p, _, J, rfl, q ys p nd hm hs fr⟩
end
end L2

namespace L2
open PySem PySem.Spec PyProof.Rows

theorem nodup_dedup : ∀ (n : Nat) (xs : List Str), xs.length ≤ n → xs.eraseDups.Nodup
  | _, [], _ => by rw [List.eraseDups_nil]; exact .nil
  | 0, _ :: _, h => by simp at h
  | n + 1, x :: r, h => by
    rw [List.eraseDups_cons]
    refine List.nodup_cons.mpr ⟨fun m => ?_, nodup_dedup n _ (Nat.le_trans (List.length_filter_le _ _) (by simpa using h))⟩
    have := List.mem_filter.mp (List.mem_eraseDups.mp m)
    simp at this
theorem sortSet_uniq {xs ys : List Str} (nd : ys.Nodup) (m : ∀ x, x ∈ ys ↔ x ∈ xs) (s : ys.Pairwise fun a b => leS a b = true) : ys = sortSet xs :=
  sortStrs_uniq ((List.perm_ext_iff_of_nodup nd (nodup_dedup _ xs (Nat.le_refl _))).mpr fun x => (m x).trans List.mem_eraseDups.symm) s
theorem small_scan {n : Nat} (h : n < 64) : n + 1 < scanBound := by
  unfold scanBound
  omega
section
variable {X : Cx} {G : Gs} {e : Expr} {m : M SV} {p p2 pos pos2 : Pos}
theorem je_sortedSet (hc : X.calm = true) (hK : X.K = G.K) (h1 : Gl X "sorted") (h2 : X.mg "sorted" = none) (h3 : Gl X "set") (h4 : X.mg "set" = none) (he : PE X e (tE G m))
    (e1 : starEach [.Call (.Name "set" p2) [e] [] pos2] X.env = (false, eval (.Call (.Name "set" p2) [e] [] pos2) X.env) :: starEach [] X.env := by rfl) (e2 : starEach [e] X.env = (false, eval e X.env) :: starEach [] X.env := by rfl) :
    PE X (.Call (.Name "sorted" p) [.Call (.Name "set" p2) [e] [] pos2] [] pos) (tE G (mSortSet m)) :=
  (pe_callB (cr_sortT' hc) h1 h2 (by decide +kernel) (pa_cons (pe_callTy (cr_setT hc) h3 h4 (by decide +kernel) (pa_cons (je_frz he) pa_nil e2) (he := e2)) pa_nil e1) (he := e1)).imp fun σ H Q h => by
    obtain ⟨en, L, R, q⟩ := h
    refine (seqE R q).mono fun x H1 ⟨en1, L1, sv, R1, s1, r1, q1⟩ => ?_
    cases e1 : look en1 sv with
    | none => rw [e1] at q1; exact q1.elim
    | some d =>
      rw [e1] at q1
      dsimp only at q1
      cases e2 : ssD d with
      | none => rw [e2] at q1; exact q1.elim
      | some zs =>
        rw [e2] at q1
        dsimp only at q1
        have o := RV.opd R1 (Same.refl _) r1 e1
        unfold ssD at e2
        split at e2
        · rename_i ds
          split at e2
          · rename_i xs e3
            split at e2
            · rename_i hl
              cases e2
              have e4 := strsOf_eq e3
              subst e4
              obtain ⟨a, ys, rfl, ho, hr⟩ := o.list'
              have e5 := dqAll_strs hr
              subst e5
              refine ⟨a, xs, rfl, by rw [hK]; exact ho, small_scan hl, fun b hb => ?_⟩
              refine ⟨b, xs, xs.length, rfl, upd_same, by have := small_scan hl; omega, fun ys p nd hm hs hn => ?_⟩
              rw [sortSet_uniq nd hm (sortedS_pw hs)] at *
              have R2 := R1.grow (same_new (o := SetTO X.w b xs xs.length) hb)
              have s2 := hid_mono (L := L1) (same_new (o := SetTO X.w b xs xs.length) hb)
              exact post_lst R2 hn (strs_dq _) (q1.from s2)
            · cases e2
          · cases e2
        · cases e2
end
end L2

namespace PySem
open Sem (wp)
set_option maxHeartbeats 1000000 in
/-- enumerate(v), v of any kind whose iterator is one new object -/
theorem enum1_new {v : Value} {ob : Obj} {Z : Heap → Prop} (B : Begins v ob Z) :
    Meets (Builtin.«enumerate.__new__» ⟨[.type "enumerate", v], []⟩) fun _ R s => Z s.heap ∧ R (.ok (.ret (.ref (s.heap.push ob).objs.size)))
      { s with heap := (s.heap.push ob).push { cls := .type "enumerate", data := .fields #[.none, .bool false, .ref s.heap.objs.size, rawInt 0, .none, .none] } } :=
  .of_wp fun prog w A R s q => by
    obtain ⟨hp, gn, dd, tk, os⟩ := s
    obtain ⟨hz, q⟩ := q
    have hsub := sub_enumerate
    have it : ∀ {A' : Around} {E : Value → Shared → Prop} {Q : Value → Shared → Prop}, Q (.ref hp.objs.size) ⟨hp.push ob, gn, dd, tk, os⟩ → wpAny (model prog w) A' (pyIter v) Q E ⟨hp, gn, dd, tk, os⟩ :=
      fun z => B.iter prog w _ _ ⟨hp, gn, dd, tk, os⟩ _ hz z
    wp_walk using it
    refine wpAny_stack_any fun st => wpAny_pure ?_
    split
    · rename_i c _ _ _ _ _
      cases (c == Value.type "enumerate") <;> (wp_walk using it; exact ⟨_, rfl, q⟩)
    · wp_walk using it
      exact ⟨_, rfl, q⟩
theorem enum1_call {prog : Program} {w : World} {A : Around} {E : Value → Shared → Prop} {s : Shared} {v : Value} {ob : Obj} {Z : Heap → Prop} {Q : Value → Shared → Prop} (B : Begins v ob Z) (hz : Z s.heap)
    (k : ∀ h1 : Heap, IsEnum h1 (s.heap.objs.size + 1) s.heap.objs.size 0 .none → h1.get? s.heap.objs.size = some ob → (∀ b o, s.heap.get? b = some o → h1.get? b = some o) → Q (.ref (s.heap.objs.size + 1)) { s with heap := h1 }) :
    wpAny (model prog w) A (call (.type "enumerate") [v]) Q E s := by
  refine callType_new F.called_enumerate (by decide) (F.typeCall_enumerate_1 _) (F.newCall_enumerate_1 _) (fun obj => F.args_object_init_2 obj _) F.entry_enumerate_new (enum1_new B) ⟨hz, ?_⟩
  have e1 : (s.heap.push ob).objs.size = s.heap.objs.size + 1 := Heap.size_push ..
  show _ ∧ _
  rw [e1]
  have e2 : IsEnum ((s.heap.push ob).push { cls := .type "enumerate", data := .fields #[.none, .bool false, .ref s.heap.objs.size, rawInt 0, .none, .none] }) (s.heap.objs.size + 1) s.heap.objs.size 0 .none := by
    have z := Heap.get?_push_size (s.heap.push ob) (o := { cls := .type "enumerate", data := .fields #[.none, .bool false, .ref s.heap.objs.size, rawInt 0, .none, .none] }) rfl
    rw [e1] at z
    exact z
  exact ⟨⟨_, e2, rfl⟩, k _ e2 (Heap.get?_push_of_some _ (Heap.get?_push_size _ B.free)) fun b o x => Heap.get?_push_of_some _ (Heap.get?_push_of_some _ x)⟩
end PySem
namespace L2
open PySem PySem.Spec PyProof.Rows
/-! ### enumerate(tuple) -/
def IteT (K : Kf) (a : Addr) : It where
  go i H := ∃ (xs : List V) (x : V), SqT K H a xs ∧ xs[i]? = some x
  yld i H v H' := ∃ T x, v = .ref T ∧ H T = none ∧ H' = upd H T (.tup [.int (i : Nat), x]) ∧ ∀ xs, SqT K H a xs → xs[i]? = some x
  stop i H := ∃ xs : List V, SqT K H a xs ∧ xs.length ≤ i
theorem turn_enumT {P : Program} {w : World} {K : Kf} {elts : List Expr} {kk : Nat} {tpos : Pos} (a e it : Addr) :
    Turn P w K (.Tuple elts kk tpos) (IteT K a) [e, it] e (fun i h => (∃ old, IsEnum h e it ((i : Nat) : Int) old) ∧ h.IsTupleIter it a i ∧ e ≠ it ∧ a ≠ it ∧ a ≠ e) where
  mem := by simp
  obj := fun i h st b hb => by
    obtain ⟨⟨old, he⟩, ⟨o, ho, hc, hd⟩, _⟩ := st
    have e1 : b = e ∨ b = it := by simpa using hb
    rcases e1 with rfl | rfl
    · exact ⟨_, he, fun v q => nomatch q⟩
    · exact ⟨o, ho, fun v q => by rw [hd] at q; cases q⟩
  keep := fun i h h' st k => let ⟨⟨old, he⟩, hi, hn⟩ := st; ⟨⟨old, k e (by simp) _ he⟩, hi.at fun o q => k it (by simp) o q, hn⟩
  item := by
    intro X hP hw hK hc i pins s σ H E I hf st hg
    subst hP hw hK
    obtain ⟨⟨old, he⟩, hit, hne, hai, hae⟩ := st
    obtain ⟨xs, x, hq, hx⟩ := hg
    obtain ⟨its, rv, p, hz⟩ := I.tuple hq
    obtain ⟨u, hu, ru⟩ := rv.get hx
    have hel : e < s.heap.objs.size := Heap.lt_size he
    have hil : it < s.heap.objs.size := by obtain ⟨_, q, _⟩ := hit; exact Heap.lt_size q
    have hh : X.A.handled = none := I.ok.hd hc
    have hlt : i < its.toArray.size := by
      have := (List.getElem?_eq_some_iff.mp hu).1
      simpa using this
    refine wpAny_pyNext_enum_itemD (Draws.tuple (A := X.A.in1) hh it a hai its.toArray) he ⟨hit, p⟩ hlt hne (by simp [hne, Ne.symm hae]) fun y h1 tk hy ho st1 hT hsz hk => ?_
    have hyu : y = u := by
      have hy' : its.toArray[i]? = some y := hy
      rw [List.getElem?_toArray, hu] at hy'
      exact (Option.some.inj hy').symm
    subst hyu
    refine ⟨_, rfl, wpAny_letOwnedTupleGo_enum (s := { s with heap := h1, toks := tk + 1 }) ho fun h2 he2 sb => ?_⟩
    have hT2 : h2.get? s.heap.objs.size = some { cls := .type "tuple", data := .seq #[.int i tk, y] } := (sb.2 _ (Nat.ne_of_gt hel)).trans hT
    have new : ObjOk X.prog X.w (upd H s.heap.objs.size (.tup [.int (i : Nat), x])) h2 s.heap.objs.size (.tup [.int (i : Nat), x]) :=
      ⟨by show 2 ≤ sizeLine; decide, [.int i tk, y], .cons ⟨_, rfl⟩ (.cons ru .nil), ⟨_, hT2, rfl, _, rfl⟩⟩
    have I1 : Inv X pins σ (upd H s.heap.objs.size (.tup [.int (i : Nat), x])) { s with heap := h2, toks := tk + 1 } :=
      I.turnedNew (ch := [e, it]) (fun b ob hb q => (sb.2 b (fun z => hb (by simp [z]))).trans (hk b ob (fun z => hb (by simp [z])) (fun z => hb (by simp [z])) q)) hf (Nat.le_refl _) new
    refine ⟨.ref s.heap.objs.size, _, I1, rfl, ⟨_, x, rfl, I.hok.fresh (Nat.le_refl _), rfl, fun ys hy => by rw [I.tuple_inj hy hq]; exact hx⟩, ⟨⟨y, ?_⟩, st1.1.at fun o q => (sb.2 it (Ne.symm hne)).trans q, hne, hai, hae⟩, fun b hb => ?_⟩
    · have e1 : ((i + 1 : Nat) : Int) = (i : Int) + 1 := by omega
      rw [e1]; exact he2
    · have hb' : b < s.heap.objs.size := by
        have e1 : b = e ∨ b = it := by simpa using hb
        rcases e1 with rfl | rfl
        · exact hel
        · exact hil
      rw [upd_ne (Nat.ne_of_lt hb')]
      exact (hf b hb).1
  done := by
    intro X hP hw hK hc i pins s σ H E I hf st hg
    subst hP hw hK
    obtain ⟨⟨old, he⟩, hit, hne, hai, hae⟩ := st
    obtain ⟨xs, hq, hx⟩ := hg
    obtain ⟨its, rv, p, hz⟩ := I.tuple hq
    obtain ⟨f0, f1, f2, f3, f4, f5⟩ := hf it (by simp)
    have hl := rv.length
    have hh : X.A.handled = none := I.ok.hd hc
    have hT : s.TypeIs (.ref e) "enumerate" := ⟨_, he, rfl⟩
    unfold pyNext
    refine wpAny_bind (wpAny_attempt (wpAny_callSpecial?_slot (name := Str.ofString "__next__") hT F.slot_enumerate_next
      (wpAny_call_entry F.slot_enumerate_next hT F.entry_enumerate_next ?_ (F.args_enumerate_next_1 _))))
    show wpAny _ _ (field (.ref e) 2 >>= _) _ _ _
    refine wpAny_bind (wpAny_field he rfl (x := .ref it) rfl ?_)
    refine wpAny_bind (wpAny_nextOf_tuple_end (items := its.toArray) hh hit p (Array.getElem?_eq_none (by simp; omega)) fun h1 x he1 hx1 => ?_)
    obtain ⟨o, ho, hc'⟩ := hx1
    refine wpAny_bind (wpAny_isInstance (T := "StopIteration") (b := true) ⟨o, ho, hc'⟩ isSubtype_stop ?_)
    exact wpAny_pure ⟨rfl, I.turned (t' := s.toks) (fun b o hb q => he1 b o hb q) f0 f1 f3 f4 f5⟩
  self := fun A i s Q E st h => let ⟨⟨_, he⟩, _⟩ := st; wpAny_pyIter_enum he h
def iEnumT (K : Kf) (te : TE) : TI := fun σ H R => te σ H fun v H1 => ∃ a xs, v = .ref a ∧ SqT K H1 a xs ∧ R (IteT K a) H1
theorem pi_enumT {X : Cx} {e : Expr} {te : TE} {p pos tpos : Pos} {elts : List Expr} {kk : Nat} (hg : Gl X "enumerate") (hm : X.mg "enumerate" = none) (he : PE X e te) (hs : starEach [e] X.env = (false, eval e X.env) :: starEach [] X.env := by rfl) :
    PI X (.Tuple elts kk tpos) (.Call (.Name "enumerate" p) [e] [] pos) (iEnumT X.K te) := by
  refine ⟨fun pins s σ H R I h => ?_⟩
  refine Call_ (ld_blt I hg hm boot_enumerate (PyProof.Rows.callWith_type1 (args_cons (thn (he.run pins s σ H _ I h) fun u s1 ⟨v, H1, I1, r1, q1⟩ => args_nil ?_) hs) hs rfl))
  obtain ⟨a, xs, ev, hq, q⟩ := q1
  subst ev
  obtain rfl : u = Value.ref a := r1
  obtain ⟨its, rv, p', hz⟩ := I1.tuple hq
  refine enum1_call (begins_tuple a its.toArray) p' fun h1 he1 hit hk => wpAny_pyIter_enum he1 ?_
  have I2 : Inv X pins σ H1 { s1 with heap := h1 } := I1.kept (t' := s1.toks) hk
  have hal : a < s1.heap.objs.size := by obtain ⟨o, ho, _⟩ := p'; exact Heap.lt_size ho
  refine ⟨s1.heap.objs.size + 1, [s1.heap.objs.size + 1, s1.heap.objs.size], _, _, H1, rfl, I2, turn_enumT a (s1.heap.objs.size + 1) s1.heap.objs.size, ⟨⟨.none, he1⟩, ⟨_, hit, rfl, rfl⟩, Nat.succ_ne_self _, Nat.ne_of_lt hal, Nat.ne_of_lt (Nat.lt_succ_of_lt hal)⟩, fun b hb => ?_, q⟩
  have e1 : b = s1.heap.objs.size + 1 ∨ b = s1.heap.objs.size := by simpa using hb
  have hle : s1.heap.objs.size ≤ b := by
    rcases e1 with z | z
    · rw [z]; exact Nat.le_add_right _ _
    · rw [z]; exact Nat.le_refl _
  exact I1.fpOk hle (I1.hok.fresh hle)
end L2

namespace L2
open PySem PySem.Spec PyProof.Rows
/-! ### [e for i, x in enumerate(tuple)] -/
def enumD (ds : List D) : List D := ds.zipIdx.map fun p => .tuple [.int p.2, p.1]
theorem enumD_len (ds : List D) : (enumD ds).length = ds.length := by simp [enumD]
theorem enumD_get {ds : List D} {i : Nat} {d : D} (h : (enumD ds)[i]? = some d) : ∃ e, ds[i]? = some e ∧ d = .tuple [.int i, e] := by
  unfold enumD at h
  rw [List.getElem?_map] at h
  cases q : ds.zipIdx[i]? with
  | none => rw [q] at h; cases h
  | some p =>
    rw [q] at h
    cases h
    rw [List.getElem?_zipIdx] at q
    cases q2 : ds[i]? with
    | none => rw [q2] at q; cases q
    | some e =>
      rw [q2] at q
      cases q
      exact ⟨e, rfl, by simp⟩
section
variable {K : Kf} {a : Addr} {ds : List D}
theorem walks_enum : Walks K (IteT K a) (fun H L => ∃ xs, SqT K (hid H L) a xs ∧ DqAll K (hid H L) xs ds) (enumD ds) where
  go := fun i H L ⟨xs, hs, hd⟩ hi => by
    rw [enumD_len, ← hd.length] at hi
    exact ⟨xs, xs[i], sqT_mono hid_same hs, List.getElem?_eq_getElem hi⟩
  stop := fun i H L ⟨xs, hs, hd⟩ hi => ⟨xs, sqT_mono hid_same hs, by rw [hi, enumD_len, hd.length]; exact Nat.le_refl _⟩
  yld := fun i H L x H' d ⟨xs, hs, hd⟩ he hy w => by
    obtain ⟨T, y, rfl, hn, rfl, hx⟩ := hy
    obtain ⟨e, h1, rfl⟩ := enumD_get he
    obtain ⟨v, h2, h3⟩ := hd.get h1
    have h4 := hx xs (sqT_mono hid_same hs)
    rw [h2] at h4
    cases h4
    have s := same_new (o := .tup [.int (i : Nat), y]) hn
    have nT : T ∉ L := fun z => by
      rcases w T z with ⟨xs, q⟩ | ⟨kvs, q⟩ <;> (rw [hn] at q; cases q)
    refine ⟨s, .tup (.of ?_) (.cons (.int _) (.cons (Dq.mono (hid_mono s) _ h3) .nil))⟩
    rw [hid_out nT]
    exact upd_same
end
/-- over enumerate of a tuple -/
noncomputable def mLcE (tg : Tg) (vs : List Nat) (mi : M SV) (mc : M Bool) (me : M SV) : M SV := mbind (mfrz mi) fun sv en => match sv with
  | .d (.tuple ds) => mComp tg vs mc me (enumD ds) en
  | _ => .stuck
section
variable {X : Cx} {G : Gs} {elt t iter : Expr} {ifs : List Expr} {scope : Scope} {own : List (Str × Nat)} {mi me : M SV} {mc : M Bool} {tg : Tg} {pos : Pos} {tt : TT} {te : TE}
theorem lcE_imp (hsub : ∀ j ∈ tg.slots, j ∈ own.map (·.2)) (ht : ∀ (D0 : Addr) (xs : List V) (σ' : St) (H' : Hp) Q, tT (G.blk D0 xs) mc σ' H' Q → tt σ' H' Q) (he : ∀ (D0 : Addr) (xs : List V) (σ' : St) (H' : Hp) Q, tE (G.blk D0 xs) (mkeep me) σ' H' Q → te σ' H' Q)
    (σ : St) (H : Hp) (Q : VK) (h : tE G (mLcE tg (own.map (·.2)) mi mc me) σ H Q) : tLc (iEnumT G.K (tE G (mfrz mi))) (gOf G.K tg) tt te (own.map (·.2)) σ H Q := by
  obtain ⟨en, L, R, q⟩ := h
  refine (seqE R q).mono fun v H1 ⟨en1, L1, sv, R1, s1, r1, q1⟩ => ?_
  cases sv with
  | own _ => exact q1.elim
  | bor i => exact q1.elim
  | d d =>
    cases d with
    | tuple ds =>
      cases r1 with
      | tup hs ha => exact ⟨_, _, rfl, sqT_mono hid_same hs, comp_run walks_enum R1 q1 hsub (fun G' H' L' hK R' s' => ⟨_, sqT_mono s' hs, DqAll.mono s' _ ha⟩) ht he⟩
    | _ => exact q1.elim
theorem je_lcE {elts : List Expr} {kk : Nat} {tpos p pos' : Pos} (hc : X.calm = true) (hN : X.N.Nodup) (hK : X.K = G.K) (hgl : Gl X "enumerate") (hm : X.mg "enumerate" = none) (hi : PE X iter (tE G mi)) (ok : BlkOk X.N X.env.scope scope own) (B : InBlk X G scope (.Tuple elts kk tpos) elt ifs tg mc me) (hsub : ∀ j ∈ tg.slots, j ∈ own.map (·.2))
    (hse : starEach [iter] X.env = (false, eval iter X.env) :: starEach [] X.env := by rfl) (hs : ∀ x, foldedSetIterable (.Call (.Name "enumerate" p) [iter] [] pos') X.env x = pure x := by intro _; rfl) : PE X (.ListComp elt [⟨.Tuple elts kk tpos, .Call (.Name "enumerate" p) [iter] [] pos', ifs, 0⟩] scope pos) (tE G (mLcE tg (own.map (·.2)) mi mc me)) :=
  (pe_lc (tt := exT G mc) (te := exE G me) hc hN (pi_enumT hgl hm (je_frz hi) hse) ok B.g (fun s H C cl fp => PTs.ex fun p => B.c s H C cl fp p.1 p.2) (fun s H C cl fp => PE.ex fun p => je_keep (B.e s H C cl fp p.1 p.2)) hs).imp fun σ H Q h => by
    rw [hK]
    exact lcE_imp hsub (fun D0 xs _ _ _ q => ⟨(D0, xs), q⟩) (fun D0 xs _ _ _ q => ⟨(D0, xs), q⟩) σ H Q h
end
end L2

namespace L2
open PySem PySem.Spec PyProof.Rows
/-! ### sorted(set(tuple of ints)) -/
section
variable {X : Cx}
def rSetI (K : Kf) (w : World) : List V → Hp → VK → Prop := fun vs H Q => ∃ (p : Addr) (ns : List Int), vs = [.ref p] ∧ SqT K H p (ns.map V.int) ∧ ns.length ≤ 62 ∧ ∀ q n, n ≤ ns.length → H q = none → Q (.ref q) (upd H q (SetO w q (fun j => decide (j ∈ ns)) n))
theorem cr_setI (hc : X.calm = true) : CallR X (.type "set") (rSetI X.K X.w) := by
  intro pins s σ H vs us Q I r h
  obtain ⟨p, ns, rfl, hq, hl, q⟩ := h
  obtain ⟨its, rv, pt, hz⟩ := I.tuple hq
  have hi : IntsAre its.toArray.toList ns := ints_of_vals rv
  rw [Vals.ref1 r]
  refine call_set_tupI ns (I.ok.hd hc) (show s.heap.IsTuple p its.toArray from pt) hi (by unfold scanBound; omega) fun h' tk c R1 hcn k => ?_
  exact ⟨.ref _, upd H s.heap.objs.size (SetO X.w s.heap.objs.size (fun j => decide (j ∈ ns)) c), I.laid (t' := tk) (fun b o e => k b o e) (Nat.le_refl _) (setO_new R1), rfl, q _ c hcn (I.hok.fresh (Nat.le_refl _))⟩
end
@[simp] theorem intsOf_map : ∀ is : List Int, intsOf (is.map .int) = some is
  | [] => rfl
  | i :: r => by rw [List.map_cons, intsOf, intsOf_map r]; rfl
/-- the members, each once, ascending -/
def sortI (is : List Int) : List Int := is.eraseDups.mergeSort (fun a b => decide (a ≤ b))
theorem asc_uniq : ∀ {a b : List Int}, a.Pairwise (· < ·) → b.Pairwise (· < ·) → (∀ k, k ∈ a ↔ k ∈ b) → a = b
  | [], [], _, _, _ => rfl
  | [], y :: _, _, _, h => absurd ((h y).mpr List.mem_cons_self) List.not_mem_nil
  | x :: _, [], _, _, h => absurd ((h x).mp List.mem_cons_self) List.not_mem_nil
  | x :: a, y :: b, pa, pb, h => by
    have pa' := List.pairwise_cons.mp pa
    have pb' := List.pairwise_cons.mp pb
    have e : x = y := by
      have h1 := (h x).mp List.mem_cons_self
      have h2 := (h y).mpr List.mem_cons_self
      rcases List.mem_cons.mp h1 with e | m1
      · exact e
      · rcases List.mem_cons.mp h2 with e | m2
        · exact e.symm
        · have := pa'.1 _ m2
          have := pb'.1 _ m1
          omega
    subst e
    rw [asc_uniq pa'.2 pb'.2 fun k => ?_]
    constructor
    · intro m
      rcases List.mem_cons.mp ((h k).mp (List.mem_cons_of_mem _ m)) with e | m'
      · have := pa'.1 _ m; omega
      · exact m'
    · intro m
      rcases List.mem_cons.mp ((h k).mpr (List.mem_cons_of_mem _ m)) with e | m'
      · have := pb'.1 _ m; omega
      · exact m'
theorem nodup_dedupI : ∀ (n : Nat) (xs : List Int), xs.length ≤ n → xs.eraseDups.Nodup
  | _, [], _ => by rw [List.eraseDups_nil]; exact .nil
  | 0, _ :: _, h => by simp at h
  | n + 1, x :: r, h => by
    rw [List.eraseDups_cons]
    refine List.nodup_cons.mpr ⟨fun m => ?_, nodup_dedupI n _ (Nat.le_trans (List.length_filter_le _ _) (by simpa using h))⟩
    have := List.mem_filter.mp (List.mem_eraseDups.mp m)
    simp at this
theorem sortI_mem (is : List Int) (k : Int) : k ∈ sortI is ↔ k ∈ is := by
  unfold sortI
  rw [List.mem_mergeSort, List.mem_eraseDups]
theorem sortI_asc (is : List Int) : (sortI is).Pairwise (· < ·) := by
  have h1 : (sortI is).Pairwise fun a b => decide (a ≤ b) = true := List.pairwise_mergeSort (fun a b c x y => by simp at *; omega) (fun a b => by simp; omega) _
  have h2 : (sortI is).Nodup := (List.mergeSort_perm _ _).nodup_iff.mpr (nodup_dedupI _ is (Nat.le_refl _))
  exact (h1.and h2).imp fun {a b} h => by
    have := of_decide_eq_true h.1
    have := h.2
    omega
theorem sortI_uniq {ns is : List Int} (p : ns.Pairwise (· < ·)) (m : ∀ k, k ∈ ns ↔ k ∈ is) : ns = sortI is :=
  asc_uniq p (sortI_asc is) fun k => (m k).trans (sortI_mem is k).symm
theorem sortI_self {is : List Int} (p : is.Pairwise (· < ·)) : sortI is = is := (sortI_uniq p fun _ => Iff.rfl).symm
def siD : D → Option (List Int)
  | .tuple ds => match intsOf ds with
    | some is => if is.length ≤ 62 then some (sortI is) else none
    | none => none
  | _ => none
def mSortSetI (m : M SV) : M SV := mbind (mfrz m) fun sv en => match look en sv with
  | some d => match siD d with
    | some is => .ok (.own (.lst (is.map .int))) en
    | none => .stuck
  | none => .stuck
section
variable {X : Cx} {G : Gs} {e : Expr} {m : M SV} {p p2 pos pos2 : Pos}
theorem je_sortedSetI (hc : X.calm = true) (hK : X.K = G.K) (h1 : Gl X "sorted") (h2 : X.mg "sorted" = none) (h3 : Gl X "set") (h4 : X.mg "set" = none) (he : PE X e (tE G m))
    (e1 : starEach [.Call (.Name "set" p2) [e] [] pos2] X.env = (false, eval (.Call (.Name "set" p2) [e] [] pos2) X.env) :: starEach [] X.env := by rfl) (e2 : starEach [e] X.env = (false, eval e X.env) :: starEach [] X.env := by rfl) :
    PE X (.Call (.Name "sorted" p) [.Call (.Name "set" p2) [e] [] pos2] [] pos) (tE G (mSortSetI m)) :=
  (pe_callB (cr_sortedSet hc) h1 h2 (by decide +kernel) (pa_cons (pe_callTy (cr_setI hc) h3 h4 (by decide +kernel) (pa_cons (je_frz he) pa_nil e2) (he := e2)) pa_nil e1) (he := e1)).imp fun σ H Q h => by
    obtain ⟨en, L, R, q⟩ := h
    refine (seqE R q).mono fun x H1 ⟨en1, L1, sv, R1, s1, r1, q1⟩ => ?_
    cases e1 : look en1 sv with
    | none => rw [e1] at q1; exact q1.elim
    | some d =>
      rw [e1] at q1
      dsimp only at q1
      cases e2 : siD d with
      | none => rw [e2] at q1; exact q1.elim
      | some zs =>
        rw [e2] at q1
        dsimp only at q1
        have o := RV.opd R1 (Same.refl _) r1 e1
        unfold siD at e2
        split at e2
        · rename_i ds
          split at e2
          · rename_i xs e3
            split at e2
            · rename_i hl
              cases e2
              have e4 := intsOf_eq e3
              subst e4
              obtain ⟨a, ys, rfl, ho, hr⟩ := o.tuple
              have e5 := dqAll_ints hr
              subst e5
              refine ⟨a, xs, rfl, by rw [hK]; exact ho, hl, fun b n hn hb => ?_⟩
              refine ⟨b, _, n, rfl, upd_same, by omega, fun ys p nd hm hle hp => ?_⟩
              have e6 : ys = sortI xs := sortI_uniq nd fun k => (hm k).trans (by simp)
              subst e6
              have R2 := R1.grow (same_new (o := SetO X.w b (fun j => decide (j ∈ xs)) n) hb)
              have s2 := hid_mono (L := L1) (same_new (o := SetO X.w b (fun j => decide (j ∈ xs)) n) hb)
              exact post_lst R2 hp (ints_dq _) (q1.from s2)
            · cases e2
          · cases e2
        · cases e2
end
end L2

namespace L2
open PySem PySem.Spec PyProof.Rows
/-! ### {} -/
section
variable {X : Cx} {G : Gs} {pos : Pos}
theorem post_dct {H : Hp} {L : List Addr} {σ : St} {en : En} {Q : VK} {p : Addr} {kvs : List (Key × V)} {kds : List (Key × D)} (R : RelS G L σ H en) (n : H p = none) (h : KD G.K (hid H L) kvs kds) (q : PostE G σ H L (.ok (.own (.dct kds)) en) Q) : Q (.ref p) (upd H p (.dK kvs)) :=
  q _ _ (p :: L) (R.hide n (.inr ⟨kvs, rfl⟩)) (hid_new n) ⟨p, .dK kvs, rfl, List.mem_cons_self, R.fresh_base n, upd_same, KD.mono (hid_new n) h, own_out R (R.fresh_out n)⟩
theorem je_dnew : PE X (.Dict [] [] pos) (tE G (mpure (.own (.dct [])))) := pe_dnewK.imp fun σ H Q ⟨en, L, R, q⟩ => fun p n => post_dct R n .nil q
end
/-! ### k in d -/
def rInDct : R2 := fun x y H Q => ∃ a o, y = .ref a ∧ DGet H a x o ∧ Q (.bl o.isSome) H
def rNotInDct : R2 := fun x y H Q => ∃ a o, y = .ref a ∧ DGet H a x o ∧ Q (.bl (!o.isSome)) H
section
variable {X : Cx} {G : Gs}
theorem op_inDct (hu : X.A.units + 1 < cLine) : OpR X (compareOp .In) rInDct := by
  intro pins s σ H x y v u Q I rx ry h
  obtain ⟨a, o, rfl, g, q⟩ := h
  obtain rfl : u = Value.ref a := ry
  exact d_in hu I g rx fun s3 I3 => ⟨.bl o.isSome, H, I3, rfl, q⟩
theorem op_notInDct (hu : X.A.units + 1 < cLine) : OpR X (compareOp .NotIn) rNotInDct := by
  intro pins s σ H x y v u Q I rx ry h
  obtain ⟨a, o, rfl, g, q⟩ := h
  obtain rfl : u = Value.ref a := ry
  exact d_notIn hu I g rx fun s3 I3 => ⟨.bl (!o.isSome), H, I3, rfl, q⟩
/-- keys of what the layer has for a dict -/
def keysD : List (D × D) → Option (List Key)
  | [] => some []
  | (a, _) :: r => match keyD a, keysD r with
    | some k, some ks => some (k :: ks)
    | _, _ => none
theorem keyD_kD (a : Key) : keyD (kD a) = some a := by cases a <;> rfl
theorem keysD_map : ∀ kds : List (Key × D), keysD (kds.map fun p => (kD p.1, p.2)) = some (kds.map (·.1))
  | [] => rfl
  | p :: r => by rw [List.map_cons, keysD, keyD_kD, keysD_map r]; rfl
def inK (x y : D) : Option Bool := match y with
  | .dict kds => match keyD x, keysD kds with
    | some k, some ks => some (ks.any fun j => decide (j = k))
    | _, _ => none
  | _ => none
def dInK (x y : D) : M SV := bvD (inK x y)
def dNinK (x y : D) : M SV := bvD ((inK x y).map (!·))
theorem valV_keys {K : Kf} {H : Hp} {k : Key} : ∀ {kvs : List (Key × V)} {kds : List (Key × D)}, KD K H kvs kds → (valV kvs k).isSome = (kds.map (·.1)).any fun j => decide (j = k)
  | _, _, .nil => rfl
  | p :: _, q :: _, .cons ⟨h1, h2⟩ t => by
    have ih := valV_keys (k := k) t
    rw [List.map_cons, List.any_cons, ← ih, ← h1]
    by_cases h : p.1 = k
    · rw [valV_pos h]
      simp [h]
    · rw [valV_neg h]
      simp [h]
theorem inK_rule {H : Hp} {L : List Addr} {x y : V} {dx dy : D} {b : Bool} (ox : Opd G.K H L x dx) (oy : Opd G.K H L y dy) (e : inK dx dy = some b) : ∃ a o, y = .ref a ∧ DGet H a x o ∧ o.isSome = b := by
  unfold inK at e
  split at e
  · rename_i kds
    split at e
    · rename_i k ks e1 e2
      cases e
      obtain ⟨rfl, _⟩ := key_of_D ox e1
      rcases oy.dct with ⟨a, ns, rfl, e3, hs⟩ | ⟨a, kvs, ks', rfl, e3, ho, hk⟩
      · subst e3
        simp [keysD, keyD] at e2
      · subst e3
        rw [keysD_map] at e2
        cases e2
        exact ⟨a, valV kvs k, rfl, DGet.k ho, valV_keys hk⟩
    · cases e
  · cases e
theorem fit_inK : Fits2 G rInDct dInK := by
  intro σ H L en x y dx dy Q R ox oy q
  unfold dInK bvD at q
  cases e : inK dx dy with
  | none => rw [e] at q; exact q.elim
  | some b =>
    rw [e] at q
    obtain ⟨a, o, h1, h2, h3⟩ := inK_rule ox oy e
    exact ⟨a, o, h1, h2, by rw [h3]; exact post_d R (.bl _) q⟩
theorem fit_ninK : Fits2 G rNotInDct dNinK := by
  intro σ H L en x y dx dy Q R ox oy q
  unfold dNinK bvD at q
  cases e : inK dx dy with
  | none => rw [e] at q; exact q.elim
  | some b =>
    rw [e] at q
    obtain ⟨a, o, h1, h2, h3⟩ := inK_rule ox oy e
    exact ⟨a, o, h1, h2, by rw [h3]; exact post_d R (.bl _) q⟩
end
/-! ### d.update(e), e a new dict -/
def mergeD (kds more : List (Key × D)) : List (Key × D) := more.foldl (fun acc kv => putD acc kv.1 kv.2) kds
theorem KD.merge {K : Kf} {H : Hp} : ∀ {mv : List (Key × V)} {md : List (Key × D)} {kvs : List (Key × V)} {kds : List (Key × D)}, KD K H mv md → KD K H kvs kds → KD K H (mergeK kvs mv) (mergeD kds md)
  | _, _, _, _, .nil, h => h
  | p :: _, q :: _, _, _, .cons ⟨h1, h2⟩ t, h => by
    show KD K H (mergeK (putK _ p.1 p.2) _) (mergeD (putD _ q.1 q.2) _)
    rw [h1]
    exact KD.merge t (h.put h2)
def tUpd (td te : TE) : TE := fun σ H Q => td σ H fun x H1 => ∃ a, x = .ref a ∧ IsD H1 a ∧ te σ H1 fun y H2 => ∃ b kvs more, y = .ref b ∧ a ≠ b ∧ H2 a = some (.dK kvs) ∧ H2 b = some (.dK more) ∧ kvs.length + more.length ≤ sizeLine ∧ Q .non (upd H2 a (.dK (mergeK kvs more)))
section
variable {X : Cx} {G : Gs} {o e : Expr} {td te : TE} {apos cpos pos : Pos}
theorem d_upd {pins : List (Addr × Obj)} {σ : St} {H : Hp} {s : Shared} {a b : Addr} {kvs more : List (Key × V)} {Q : Value → Shared → Prop} (I : Inv X pins σ H s) (hab : a ≠ b) (ha : H a = some (.dK kvs)) (hb : H b = some (.dK more)) (hz : kvs.length + more.length ≤ sizeLine)
    (k : ∀ s', Inv X pins σ (upd H a (.dK (mergeK kvs more))) s' → Q .none s') : wpAny (model X.prog X.w) X.A (call (.builtin "dict.update") [.ref a, .ref b]) Q X.xe s := by
  obtain ⟨z1, m1, vs, r1, dd1⟩ := dk_of I.hok ha
  obtain ⟨z2, m2, ws, r2, dd2⟩ := dk_of I.hok hb
  refine call_meetsIn PySem.F.slot_dict_update dd1.typeIs PySem.F.entry_dict_update (PySem.F.args_dict_update_2 _ _) (meets_dict_update (mixKind X.prog X.w) a b hab m2) ⟨vs, ws, dd1, dd2, by rw [← r1.length, ← r2.length]; exact hz, fun h' d1 d2 sb => k _ ?_⟩
  have he : ∃ q, h'.get? a = some q := let ⟨q, _, _, hq, _⟩ := d1; ⟨q, hq⟩
  exact d_write (t' := s.toks) I (by rw [ha]; exact True.intro) sb he (dk_new (Nat.le_trans (length_mergeK _ _) hz) m1 (KV.merge r2 r1) d1)
theorem pe_upd (ho : PE X o td) (he : PE X e te) (m : M1 X o "update" apos e cpos) : PE X (.Call (.Attribute o "update" apos) [e] [] cpos) (tUpd td te) := by
  refine ⟨fun pins s σ H Q I h => ?_⟩
  refine wpAny_Call_method m.base m.few m.line PySem.F.plainAttrs_dict PySem.F.slot_dict_update PySem.F.type_dict_update (thn (ho.run pins s σ H _ I h) fun u s1 ⟨x, H1, I1, rx, a, ex, d, q1⟩ => ?_)
  subst ex
  obtain rfl : u = Value.ref a := rx
  obtain ⟨t1, t2, _⟩ := isD_at I1 d
  refine ⟨t1, t2, ?_⟩
  rw [m.trees]
  refine Calls.callWith_builtin rfl (Calls.evalArgs_plain (Calls.spliced_cons (thn (he.run pins s1 σ H1 _ I1 q1) fun iv s2 ⟨y, H2, I2, ry, b, kvs, more, ey, hab, ha, hb, hz, q2⟩ => Calls.spliced_nil ?_)))
  subst ey
  obtain rfl : iv = Value.ref b := ry
  exact d_upd I2 hab ha hb hz fun s3 I3 => ⟨.non, _, I3, rfl, q2⟩
/-- the dict of slot i takes what a new dict has -/
def mUpd (i : Nat) (me : M SV) : M Ct := fun en => match en[i]? with
  | some (some (.own (.dct _))) => mbind me (fun sv en => match sv, en[i]? with
    | .own (.dct more), some (some (.own (.dct kds))) => if kds.length + more.length ≤ sizeLine then .ok .nx (en.set i (some (.own (.dct (mergeD kds more))))) else .stuck
    | _, _ => .stuck) en
  | _ => .stuck
theorem js_upd (i : Nat) {x : Str} {p : Pos} {me : M SV} (hN : X.N[i]? = some x) (hv : Vis X.env.scope x) (he : PE X e (tE G me)) (m : M1 X (.Name x p) "update" apos e cpos) (hd : (x == ("__debug__" : Str)) = false := by decide) (hcd : (x == ("__classdict__" : Str)) = false := by decide)
    (hs : swapsWith (.Call (.Attribute (.Name x p) "update" apos) [e] [] cpos) none pos.line X.env = pure false := by rfl) :
    PS X (.Expr (.Call (.Attribute (.Name x p) "update" apos) [e] [] cpos) pos) (tS G [] (mUpd i me)) := (ps_expr (pe_upd (pe_var hN hv hd hcd) he m) hs).imp fun E σ H h => by
  obtain ⟨en, L, R, q⟩ := h
  unfold mUpd at q
  split at q
  · rename_i kds0 e0
    obtain ⟨a, kvs0, e1, m0, ho0, hr0⟩ := slot_dct R e0
    refine ⟨.ref a, e1, a, rfl, .inl ⟨kvs0, .inl ho0⟩, ?_⟩
    refine (seqES R q).mono fun y H1 ⟨en1, L1, sv, R1, s1, r1, q1⟩ => ?_
    split at q1
    · rename_i more kds e2
      obtain ⟨a', kvs, e3, m1, ho, hr⟩ := slot_dct R1 e2
      rw [e1] at e3
      cases e3
      obtain ⟨b, ob, rfl, mb, nb, hob, hrb, nob⟩ := r1
      split at q1
      · rename_i hz
        cases ob with
        | dK mv =>
          have hab : a ≠ b := fun z => nob i _ e2 (by rw [← z]; exact e1)
          have hk : KD G.K (hid H1 L1) mv more := hrb
          refine ⟨b, kvs, mv, rfl, hab, ho, hob, by rw [hr.length, hk.length]; exact hz, ?_⟩
          exact q1 σ _ L1 (R1.put e2 e1 m1 (b' := .dct (mergeD kds more)) (KD.merge hk hr)) (by rw [hid_upd m1]; exact Same.refl _) Keeps.refl
        | _ => exact hrb.elim
      · exact q1.elim
    · exact q1.elim
  · exact q.elim
end
end L2

namespace L2
open PySem PySem.Spec PyProof.Rows
/-! ### a def's promise at one surrounding -/
/-- as FnOk, where the call stands in A -/
structure FnAt (A : Around) (P : Program) (w : World) (K : Kf) (mg : Str → Option Value) (base : Heap) (CX : CXT) (f : Addr) (fd : FuncData) (ps : List Str) (sp : Sp) : Prop where
  run : ∀ (outer : List Env) (s : Shared) (H : Hp) (args : Args) (us : List Value) (vs : List V) (Q : VK) (E : XK), Env0 P w K mg base A outer s H → BindsTo s fd args (ps.zip us) → Vals vs us → sp vs H Q E → codeAny (model P w) A (.call (.ref f) args) (CR CX outer P w H s Q E) s
section
variable {A : Around} {P : Program} {w : World} {K : Kf} {mg : Str → Option Value} {base : Heap}
theorem fn_at {CX : CXT} {k : Nat} {x qual : Str} {st : Stmt} {f : Addr} {fd : FuncData} {N ps : List Str} {sp : Sp} (F : Fun K x qual st f fd) (S : FnScope N ps (defScope st)) (hr : Room (k + 1) A) (len : ∀ vs H Q E, sp vs H Q E → vs.length = ps.length)
    (body : ∀ (cdv : Value) (outer : List Env) (s : Shared) (H : Hp) (vs : List V) (Q : VK) (E : XK), Room k (A.deeper (envOfC qual (defScope st) s.heap.objs.size f cdv)) → sp vs H Q E →
      ∃ t, PSs (cxOf CX P w K mg base N qual (defScope st) f cdv A outer s H E) (defBody st) t ∧ t { nx := fun _ H' => Q .non H', rt := Q } (start N vs) H) : FnAt A P w K mg base CX f fd ps sp where
  run := fun outer s H args us vs Q E e0 hb rv hsp => by
    obtain ⟨oc, od, kV, doc, pm, an, cdv, ct, osl, rfl, lk, hcd⟩ := F.ex
    have hl := len _ _ _ _ hsp
    have KX : K.In s.heap := e0.mod.kin.keeps fun b o q => (e0.bs b o q).1
    have nl : s.heap.NoLimit := e0.mod.nolimit.keeps fun b o q => (e0.bs b o q).1
    refine codeAny_call_function hr.depth (KX _ _ lk) rfl S.co S.gen rfl (PySem.W.codeRec_of KX hcd) (hb _ _ _ _ ?_)
    refine wpAny_newFunctionEnv_cells S.kind (fun ⟨n, v⟩ hy => ?_) fun env he s1 z => ?_
    · rcases S.par n (List.of_mem_zip hy).1 with q | q
      · exact .inl q
      · exact .inr ⟨q, PySem.W.cellsFrom_some _ _ _ (.inl q)⟩
    · subst he
      refine ⟨nl.keeps z.toInCall.keep, codeAny_func ?_⟩
      obtain ⟨t, ht, hq⟩ := body cdv outer s H vs Q E (hr.deeper _) hsp
      have I := inv_start (CX := CX) (P := P) (w := w) (K := K) (mg := mg) (base := base) (N := N) (A := A) (E := E) S hr.hd e0 hl rv z
      refine wpAny_mono (ht.run [] s1 (start N vs) H _ I hq) (fun fl s' hs => ?_) fun e s' hs => hs
      cases fl with
      | ret u =>
        obtain ⟨v, σ', H', J, r, q⟩ := hs
        exact ⟨v, H', J.os, J.bare, J.base, J.hok, r, q⟩
      | next =>
        obtain ⟨σ', H', J, q⟩ := hs
        exact ⟨.non, H', J.os, J.bare, J.base, J.hok, rfl, q⟩
      | brk => obtain ⟨_, _, _, q⟩ := hs; exact False.elim q
      | cont => obtain ⟨_, _, _, q⟩ := hs; exact False.elim q
/-- a def whose surrounding is known to have no guard -/
theorem fn_mirG {wr : List Nat} {x qual : Str} {st : Stmt} {f : Addr} {fd : FuncData} {N ps : List Str} {k : Nat} {m : M Ct} (F : Fun K x qual st f fd) (S : FnScope N ps (defScope st)) (hr : Room (k + 1) A) (hg : A.guards = some [])
    (hbody : ∀ (cdv : Value) (outer : List Env) (s : Shared) (H : Hp) (E : XK) (B : List Addr), Room k (A.deeper (envOfC qual (defScope st) s.heap.objs.size f cdv)) → (A.deeper (envOfC qual (defScope st) s.heap.objs.size f cdv)).guards = some [] →
      PSs (cxOf (L2N.CX P w) P w K mg base N qual (defScope st) f cdv A outer s H E) (defBody st) (tS ⟨K, mg, hid H B, fun cls d _ H' => E cls d H', B, H, none⟩ wr m)) :
    FnAt A P w K mg base (L2N.CX P w) f fd ps (spF K mg ps.length (runF ps.length N.length m)) :=
  fn_at F S hr (fun vs H Q E h => h.1) fun cdv outer s H vs Q E hr' h => by
    obtain ⟨B, q⟩ := mir_run (wr := wr) h
    exact ⟨_, hbody cdv outer s H E B hr' hg, q⟩
theorem fn_lawG {f : Addr} {fd : FuncData} {ps : List Str} {F : Fm} (hp : ps.length = 1) (h : FnAt A P w K mg base (L2N.CX P w) f fd ps (spF K mg 1 F))
    (math : ∀ ns : List Int, ns.length ≤ 63 → ∃ en, F [scrD ns] = .ok (.d (.bool true)) en) : FnAt A P w K mg base (L2N.CX P w) f fd ps (spLaw K) where
  run := fun outer s H args us vs Q E he hb hv ⟨a, ns, e, hl, hS, q⟩ => h.run outer s H args us vs Q E he hb hv (by
    subst e
    obtain ⟨en, em⟩ := math ns hl
    refine ⟨rfl, [], [scrD ns], (fun a m => absurd m List.not_mem_nil), .cons (.scr ?_) .nil, ?_⟩
    · rw [hid_nil]; exact hS
    · rw [em]
      intro v H' _ r
      cases r
      exact q H')
/-- the script's own call, from what the law promises in the caller's surrounding -/
theorem lawAt {mb : Str → Option Value} {CX : CXT} {fa a : Addr} {fd : FuncData} {x : Str} {sp : Sp} {t : Shared} {us : List Value} {ns : List Int}
    (kx : K.In t.heap) (nm : t.heap.Ns mainGlobals mg) (nb : t.heap.Ns builtinsNs mb) (bb : ∀ y : Str, y ≠ "__name__" → mb y = bootBuiltins y) (nl : t.heap.NoLimit) (gz : t.gens = #[])
    (ha : t.heap.get? a = some { cls := .type "list", data := .seq us.toArray }) (hi : IntsAre us ns) (hl : ns.length ≤ sizeLine)
    (F : ∀ base : Heap, K.In base → base.Ns mainGlobals mg → FnAt callerA P w K mg base CX fa fd [x] sp) (hb : ∀ (s : Shared) (u : Value), BindsTo s fd ⟨[u], []⟩ [(x, u)])
    (hs : ∀ H : Hp, Only H → SqL K H a (ns.map V.int) → sp [.ref a] H (fun v _ => v = .bl true) fun _ _ _ => False) (hx : ∀ H e s', CX [] H t (fun _ _ _ => False) e s' → False) :
    codeAny (model P w) callerA (.call (.ref fa) ⟨[.ref a], []⟩) (fun r s' => r = .ok (.ret (.bool true)) ∧ OldK t.heap s'.heap ∧ s'.os = t.os ∧ AllBare s'.gens) t := by
  have rv : Vals (ns.map V.int) us := vals_ints hi
  have ll := hi.length
  have go : ∀ H : Hp, Only H → SqL K H a (ns.map V.int) → HOk P w H t.heap → (∀ b, H b ≠ none → b = a) → (H a ≠ none → K.lookup a = none) →
      codeAny (model P w) callerA (.call (.ref fa) ⟨[.ref a], []⟩) (fun r s' => r = .ok (.ret (.bool true)) ∧ OldK t.heap s'.heap ∧ s'.os = t.os ∧ AllBare s'.gens) t := by
    intro H on sq ok one away
    have free : ∀ b, b ≠ a → H b = none := fun b n => Classical.byContradiction fun z => n (one b z)
    have notA : ∀ {b : Addr} {o : Obj} {es : Array DictEntry} {ep : Nat}, t.heap.get? b = some o → o.data = .dict es ep → H b = none := fun {b o es ep} q d => by
      refine free b fun z => ?_
      subst z
      rw [ha] at q
      cases q
      exact nomatch d
    have ns1 : ∀ {b : Addr} {m : Str → Option Value}, t.heap.Ns b m → (hidT t.heap H).Ns b m := fun ⟨o, es, ep, q, d, r⟩ => ⟨o, es, ep, hidT_get q (notA q d), d, r⟩
    have k1 : K.In (hidT t.heap H) := fun b o q => hidT_get (kx b o q) (Classical.byContradiction fun z => by
      have e := one b z
      subst e
      rw [away z] at q
      cases q)
    obtain ⟨mc, n1, n2⟩ := nl
    have md : Mod K mg (hidT t.heap H) := ⟨k1, ns1 nm, ⟨mb, ns1 nb, bb⟩, mc, ns1 n1, n2⟩
    have e0 : Env0 P w K mg (hidT t.heap H) callerA [] t H := ⟨rfl, md, fun b o q => of_hidT q, Nat.le_of_eq (hidT_size _ _), trivial, fun b m => absurd (show b ∈ ([] : List Addr) from m) List.not_mem_nil, ok, .of_eq gz⟩
    refine codeAny_mono ((F _ k1 (ns1 nm)).run [] t H ⟨[.ref a], []⟩ [.ref a] [.ref a] _ _ e0 (hb t (.ref a)) (.cons rfl .nil) (hs H on sq)) fun r s' h => ?_
    match r, h with
    | .error e, h => exact (hx H e s' h).elim
    | .ok (.ret u), ⟨v, H', os, bare, un, ok', r', q⟩ =>
      have q' : v = .bl true := q
      subst q'
      obtain rfl : u = Value.bool true := r'
      refine ⟨rfl, OldK.of_keep fun b o e => ?_, os, bare⟩
      cases hb' : H b with
      | none => exact un.keep b o e hb' (by intro z; exact absurd (show b ∈ ([] : List Addr) from z) List.not_mem_nil) (by simp)
      | some z =>
        rcases on b with n | ⟨ob, xs, n⟩
        · rw [hb'] at n; cases n
        · obtain ⟨e1, _⟩ := ok b _ n
          obtain ⟨e2, _⟩ := ok' b _ (un.frzs b ob _ n)
          rw [e] at e1
          cases e1
          exact e2
  cases hk : K.lookup a with
  | some o =>
    have q := kx a o hk
    rw [ha] at q
    cases q
    exact go (fun _ => none) (fun _ => .inl rfl) (.inr ⟨_, us.toArray, _, hk, rfl, rfl, rfl, by rw [List.size_toArray, ll]; exact hl, by simpa using rv⟩) (fun b u z => by have z' : (none : Option HO) = some u := z; cases z') (fun b z => absurd rfl z) fun z => absurd rfl z
  | none =>
    let H1 : Hp := fun b => if b = a then some (.frz { cls := .type "list", data := .seq us.toArray } (.lst (ns.map V.int))) else none
    have on : ∀ b, b ≠ a → H1 b = none := fun b n => if_neg n
    have at_ : H1 a = some (.frz { cls := .type "list", data := .seq us.toArray } (.lst (ns.map V.int))) := if_pos rfl
    refine go H1 (fun b => ?_) (.inl (.inr ⟨_, at_⟩)) (fun b u z => ?_) (fun b z => Classical.byContradiction fun n => z (on b n)) fun _ => hk
    · by_cases e : b = a
      · subst e; exact .inr ⟨_, _, at_⟩
      · exact .inl (on b e)
    · by_cases e : b = a
      · subst e
        rw [at_] at z
        cases z
        exact ⟨ha, by rw [List.length_map]; exact hl, us, _, rv, ha⟩
      · rw [on b e] at z
        cases z
end
/-- walk_of where the law itself wants that no repr is under way -/
theorem walk_ofG {l : PySem.W.OpenLaw} {n : Nat} {q : Program} {loose : List Str} {XP : (Str → Option Value) → Heap → Prop} {YP : World → Heap → Prop} {d : DefRec} {K : Params → Kf} {CX : World → CXT} {sp : World → Sp} {x : Str}
    (hn : l.most = some n) (hn2 : n ≤ sizeLine) (hdf : d.params.defaults = []) (hY : ∀ (w : World) (h : Heap), YP w h → (K w.params).In h)
    (F : ∀ (w : World) (mg : Str → Option Value) (fa : Addr) (h : Heap), (K w.params).In h → h.Ns mainGlobals mg → mg d.name = some (.ref fa) →
      ∃ fd : FuncData, (∀ (s : Shared) (u : Value), BindsTo s fd ⟨[u], []⟩ [(x, u)]) ∧ ∀ base : Heap, (K w.params).In base → base.Ns mainGlobals mg → FnAt callerA l.prog w (K w.params) mg base (CX w) fa fd [x] (sp w))
    (hsp : ∀ (w : World) (H : Hp) (a : Addr) (ns : List Int), ns.length ≤ n → Only H → SqL (K w.params) H a (ns.map V.int) → sp w [.ref a] H (fun v _ => v = .bl true) fun _ _ _ => False)
    (hCX : ∀ (w : World) (H : Hp) (s : Shared) (e : Value) (s' : Shared), CX w [] H s (fun _ _ _ => False) e s' → False) :
    PySem.W.WalkO q loose XP YP l.row.toRowW d [] (fun f vs => PySem.call f vs) := by
  refine Att.attach_call hn hdf fun w s0 t mg mb fa o pm cd doc a us ns G Y ho hd hcd hmg hobj hi hlen hg => ?_
  have kx := hY w _ Y
  obtain ⟨fd, hb, hF⟩ := F w mg fa _ kx G.T.g hmg
  exact lawAt kx G.T.g G.T.b G.T.builtins G.T.nolimit hg hobj hi (Nat.le_trans hlen hn2) hF hb (fun H on sq => hsp w H a ns hlen on sq) fun H e s' => hCX w H t e s'

/-! ### abs, repr -/
section
variable {X : Cx} {G : Gs}
def dAbs : D → M SV
  | .int i => mpure (.d (.int (if i < 0 then -i else i)))
  | _ => mstuck
theorem fit_abs : FitsC G (fun xs H Q => ∃ i, xs = [.int i] ∧ Q (.int (if i < 0 then -i else i)) H) (d1 dAbs) := fit1 fun σ H L en x d Q R o q => by
  unfold dAbs at q
  split at q
  · exact ⟨_, by rw [o.int], post_d R (.int _) q⟩
  · exact q.elim
def rRepr (K : Kf) : List V → Hp → VK → Prop := fun xs H Q => ∃ (a : Addr) (d : D), xs = [.ref a] ∧ Dp K H (.ref a) d ∧ SeqAt.shaped d = true ∧ d.showable = true ∧ d.shown.length ≤ sizeLine ∧ Q (.str d.shown) H
theorem call_reprD (hg : X.A.guards = some []) (hu : X.A.units + 65 < cLine) : CallR X (.builtin "repr") (rRepr X.K) := by
  intro pins s σ H xs us Q I r h
  obtain ⟨a, d, rfl, hd, hs, hw, hz, q⟩ := h
  rw [Vals.ref1 r]
  obtain ⟨as, rd⟩ := Dp.reads I d (.ref a) (.ref a) hd rfl
  have hl := SeqAt.canLay_of_shaped hs
  have hdep : d.depth ≤ 64 := by
    have z : (d.canLay0 && decide (d.depth ≤ 64)) = true := hs
    rw [Bool.and_eq_true] at z
    exact of_decide_eq_true z.2
  exact repr_of_reads' rd hw (PyData.noDict_hsm (PyData.hasDict_of_canLay d hl)) hg (by omega) (fun b o e => e) (fun h' u tk k => ⟨.str d.shown, H, I.kept (t' := tk) k, ⟨u, rfl⟩, q⟩) hz
def reprD : D → Option Str
  | .tuple ds => if plains ds = true ∧ SeqAt.shaped (.tuple ds) = true ∧ PyData.showable (.tuple ds) = true ∧ (PyData.shown (.tuple ds)).length ≤ sizeLine then some (PyData.shown (.tuple ds)) else none
  | .list ds => if plains ds = true ∧ SeqAt.shaped (.list ds) = true ∧ PyData.showable (.list ds) = true ∧ (PyData.shown (.list ds)).length ≤ sizeLine then some (PyData.shown (.list ds)) else none
  | _ => none
def dRepr (x : D) : M SV := ivD ((reprD x).map .str)
theorem fit_repr : FitsC G (rRepr G.K) (d1 dRepr) := fit1 fun σ H L en x d Q R o q => by
  unfold dRepr ivD at q
  cases e : reprD d with
  | none => rw [e] at q; exact q.elim
  | some z =>
    rw [e] at q
    unfold reprD at e
    split at e
    · split at e
      · rename_i h
        cases e
        obtain ⟨a, xs, rfl, _⟩ := o.tuple
        exact ⟨a, _, rfl, o.dp (by simpa [plain] using h.1), h.2.1, h.2.2.1, h.2.2.2, post_d R (.str _) q⟩
      · cases e
    · split at e
      · rename_i h
        cases e
        obtain ⟨a, xs, rfl, _⟩ := o.list
        exact ⟨a, _, rfl, o.dp (by simpa [plain] using h.1), h.2.1, h.2.2.1, h.2.2.2, post_d R (.str _) q⟩
      · cases e
    · cases e
end
end L2

namespace L2
open PySem PySem.Spec PyProof.Rows
/-! ### list(range(n)) -/
section
variable {X : Cx} {G : Gs}
theorem cr_range1 : CallR X (.type "range") (fun vs H Q => ∃ j, vs = [V.int j] ∧ ∀ p, H p = none → Q (.ref p) (upd H p (.rng 0 j))) := by
  intro pins s σ H vs us Q I r h
  obtain ⟨j, rfl, q⟩ := h
  obtain ⟨u, rfl, t, rfl⟩ := vals1 r
  refine call_range_1 ⟨.ref s.heap.objs.size, upd H s.heap.objs.size (.rng 0 j), I.laid (t' := s.toks + 1 + 1) (fun b o e => Heap.get?_push_of_some _ e) (Nat.le_refl _) ?_, rfl, q _ (I.hok.fresh (Nat.le_refl _))⟩
  exact ⟨s.toks, t, s.toks + 1, Heap.get?_push_size _ rfl⟩
def rngV (n : Nat) : List V := (List.range n).map fun k => .int (0 + (k : Nat))
theorem rngV_dq {K : Kf} {H : Hp} : ∀ l : List Nat, DqAll K H (l.map fun k => V.int (0 + (k : Nat))) (l.map fun k => .int (0 + (k : Nat)))
  | [] => .nil
  | k :: r => .cons (.int _) (rngV_dq r)
theorem vals_items {acc : Array Value} {n : Nat} (h : ItemsOf (fun i v => ∃ t, v = .int (0 + (i : Int) * 1) t) acc n) : Vals (rngV n) acc.toList := by
  obtain ⟨hz, hv⟩ := h
  have key : ∀ (m : Nat) (us : List Value) (k : Nat), us.length = m → (∀ j v, us[j]? = some v → ∃ t, v = Value.int (0 + ((k + j : Nat) : Int) * 1) t) → Vals ((List.range' k m).map fun k => V.int (0 + (k : Nat))) us := by
    intro m
    induction m with
    | zero =>
      intro us k hl _
      obtain rfl := List.length_eq_zero_iff.mp hl
      exact .nil
    | succ m ih =>
      intro us k hl hu
      cases us with
      | nil => simp at hl
      | cons u us =>
        rw [List.range'_succ, List.map_cons]
        obtain ⟨t, rfl⟩ := hu 0 u rfl
        refine .cons ⟨t, by simp⟩ (ih us (k + 1) (by simpa using hl) fun j v e => ?_)
        obtain ⟨t, rfl⟩ := hu (j + 1) v (by simpa using e)
        exact ⟨t, by rw [show k + 1 + j = k + (j + 1) by omega]⟩
  have z := key n acc.toList 0 (by rw [Array.length_toList]; exact hz) fun j v e => by
    obtain ⟨t, rfl⟩ := hv j v (by rw [← Array.getElem?_toList]; exact e)
    exact ⟨t, by rw [Nat.zero_add]⟩
  unfold rngV
  rw [List.range_eq_range']
  exact z
theorem cr_listRng (hc : X.calm = true) : CallR X (.type "list") (fun vs H Q => ∃ (a : Addr) (j : Int), vs = [V.ref a] ∧ H a = some (.rng 0 j) ∧ (-(2 ^ 62) ≤ j ∧ j ≤ 2 ^ 20) ∧ ∀ p, H p = none → Q (.ref p) (upd H p (.lst (rngV j.toNat)))) := by
  intro pins s σ H vs us Q I r h
  obtain ⟨a, j, rfl, ha, ⟨hn, hj⟩, q⟩ := h
  rw [Vals.ref1 r]
  obtain ⟨t, u, v, ho⟩ := (show ∃ t u v, s.heap.get? a = some { cls := .type "range", data := .fields #[.int 0 t, .int j u, .int 1 v] } from I.hok a _ ha)
  have hz : (Builtin.Range.rangeSize 0 j 1) = ((j.toNat : Nat) : Int) := by rw [rangeSize_one]; split <;> omega
  refine call_list_range (n := j.toNat) (I.ok.hd hc) (show IsRange s.heap a 0 j 1 t u v from ho) (small_one (by omega) (by omega) hn (by omega)) hz (by omega) fun h' tk acc c' hk hS hi => ?_
  refine ⟨.ref s.heap.objs.size, upd H s.heap.objs.size (.lst (rngV j.toNat)), I.laid (t' := tk) hk (Nat.le_refl _) ⟨?_, acc.toList, c', vals_items hi, ?_⟩, rfl, q _ (I.hok.fresh (Nat.le_refl _))⟩
  · unfold rngV; rw [List.length_map, List.length_range, sizeLine_eq]; omega
  · exact hS
end
/-- list(range(e)) -/
def mLRange (m : M SV) : M SV := mbind (mfrz m) fun sv en => match look en sv with
  | some (.int j) => if -(2 ^ 62) ≤ j ∧ j ≤ 2 ^ 20 then .ok (.own (.lst (rngD 0 j.toNat))) en else .stuck
  | _ => .stuck
section
variable {X : Cx} {G : Gs} {e : Expr} {m : M SV} {p p2 pos pos2 : Pos}
theorem je_listRange (hc : X.calm = true) (h1 : Gl X "list") (h2 : X.mg "list" = none) (h3 : Gl X "range") (h4 : X.mg "range" = none) (he : PE X e (tE G m))
    (e1 : starEach [.Call (.Name "range" p2) [e] [] pos2] X.env = (false, eval (.Call (.Name "range" p2) [e] [] pos2) X.env) :: starEach [] X.env := by rfl) (e2 : starEach [e] X.env = (false, eval e X.env) :: starEach [] X.env := by rfl) :
    PE X (.Call (.Name "list" p) [.Call (.Name "range" p2) [e] [] pos2] [] pos) (tE G (mLRange m)) :=
  (pe_callTy (cr_listRng hc) h1 h2 (by decide +kernel) (pa_cons (pe_callTy cr_range1 h3 h4 (by decide +kernel) (pa_cons (je_frz he) pa_nil e2) (he := e2)) pa_nil e1) (he := e1)).imp fun σ H Q h => by
    obtain ⟨en, L, R, q⟩ := h
    refine (seqE R q).mono fun x H1 ⟨en1, L1, sv, R1, s1, r1, q1⟩ => ?_
    cases e1 : look en1 sv with
    | none => rw [e1] at q1; exact q1.elim
    | some d =>
      rw [e1] at q1
      have o := RV.opd R1 (Same.refl _) r1 e1
      split at q1
      · rename_i j heq
        cases heq
        split at q1
        · rename_i hj
          refine ⟨j, by rw [o.int], fun b hb => ?_⟩
          refine ⟨b, j, rfl, upd_same, hj, fun p hp => ?_⟩
          have R2 := R1.grow (same_new (o := .rng 0 j) hb)
          have s2 := hid_mono (L := L1) (same_new (o := .rng 0 j) hb)
          exact post_lst R2 hp (rngV_dq _) (q1.from s2)
        · exact q1.elim
      · exact q1.elim
end
/-! ### a comprehension within a comprehension -/
theorem relabel_look {env : Env} {x : Str} : ∀ {ns : List (Str × NameKind)}, (ns.lookup x = some .cell ∨ ns.lookup x = some .free) →
    (ns.map fun (n, k) => if (k == NameKind.free && env.scope.kind == .function && env.kindOf n == some .cell) then (n, NameKind.cell) else (n, k)).lookup x = some .cell ∨
    (ns.map fun (n, k) => if (k == NameKind.free && env.scope.kind == .function && env.kindOf n == some .cell) then (n, NameKind.cell) else (n, k)).lookup x = some .free
  | [], h => by rcases h with h | h <;> simp at h
  | (n, k) :: r, h => by
    have ih := relabel_look (env := env) (x := x) (ns := r)
    rw [List.map_cons]
    by_cases c : (k == NameKind.free && env.scope.kind == .function && env.kindOf n == some .cell) = true
    · simp only [c, if_true]
      by_cases e : x == n
      · rw [List.lookup_cons, e]
        exact .inl rfl
      · have e' : (x == n) = false := by simpa using e
        simp only [List.lookup_cons, e'] at h
        rw [List.lookup_cons, e']
        exact ih h
    · simp only [c, if_false, Bool.false_eq_true]
      by_cases e : x == n
      · simp only [List.lookup_cons, e] at h
        rw [List.lookup_cons, e]
        exact h
      · have e' : (x == n) = false := by simpa using e
        simp only [List.lookup_cons, e'] at h
        rw [List.lookup_cons, e']
        exact ih h
theorem blkOk_re {N : List Str} {sc scope : Scope} {env : Env} {own : List (Str × Nat)} (h : blkC N sc scope own = true) : BlkOk N (relabel sc env) scope own :=
  have b := blkOk_by h
  ⟨b.kind, b.uniq, b.ix, fun y hy e => relabel_look (b.free y hy e), b.own⟩
end L2

namespace L2
open PySem PySem.Spec PyProof.Rows
/-! ### max(xs, default=d), xs ints -/
section
variable {prog : Program} {w : World} {A : Around} {E : Value → Shared → Prop} {s : Shared} {l : Addr} {its : List Value} {ns : List Int}
theorem max_dfl {d : Value} {Q : Value → Shared → Prop} (hh : A.handled = none) (hl : s.heap.IsList l its.toArray) (hi : IntsAre its ns)
    (h0 : ns = [] → ∀ h' tk, (∀ b o, s.heap.get? b = some o → h'.get? b = some o) → Q d { s with heap := h', toks := tk })
    (h : ns ≠ [] → ∀ h' tk M t', (∀ b o, s.heap.get? b = some o → h'.get? b = some o) → M ∈ ns → (∀ a, a ∈ ns → a ≤ M) → Q (.int M t') { s with heap := h', toks := tk }) :
    wpAny (model prog w) A (call (.builtin "max") [.ref l] [(Str.ofString "default", d)]) Q E s := by
  obtain ⟨xs, e⟩ := hi.allInts.items
  have hn : numsOf (intItems xs).toList = ns := by rw [← e]; exact hi.numsOf
  rw [nums_intItems] at hn
  subst hn
  rw [e] at hl
  refine call_max_walkD (iter_intList hl fun s₂ e2 st hfp hlI => ?_)
  subst e2
  refine ⟨_, _, _, _, _, _, _, Att.noObjs s.heap, _, rfl, (Walks.list (A := A.in1) hh _ l hlI (intItems xs)).toS, st, hfp, (fun b o z => by rw [Att.noObjs_get] at z; cases z), (fun b o z => by rw [Att.noObjs_get] at z; cases z), fun hz s' mv => ?_, fun hz => ⟨fun i j vi vj s Q E _ hi hj hq => CmpOf.ints_gt (numAt xs) (fun _ _ => intItems_at) i j vi vj s Q E hi hj hq, fun v s' hP mv => ?_⟩⟩
  · obtain ⟨hp, g', d', tk', os'⟩ := s'
    obtain rfl : g' = s.gens := mv.gens
    obtain rfl : d' = s.drawn := mv.drawn
    obtain rfl : os' = s.os := mv.os
    refine h0 ?_ hp tk' (old_kept mv.heap)
    have : xs.size = 0 := by simpa [intItems] using hz
    have e3 : xs = #[] := Array.size_eq_zero_iff.mp this
    subst e3
    rfl
  · obtain ⟨hp, g', d', tk', os'⟩ := s'
    obtain rfl : g' = s.gens := mv.gens
    obtain rfl : d' = s.drawn := mv.drawn
    obtain rfl : os' = s.os := mv.os
    have hsz : 0 < xs.size := by simpa [intItems] using hz
    have hv : (intItems xs)[argBest (fun i j => decide (numAt xs i > numAt xs j)) (xs.size - 1)]? = some v := by simpa [intItems] using hP
    obtain ⟨t, rfl⟩ := intItems_at hv
    obtain ⟨q1, q2⟩ := argBest_gt (numAt xs) (xs.size - 1)
    refine h (fun z => ?_) hp tk' _ t (old_kept mv.heap) ?_ fun a ha => ?_
    · have := congrArg List.length z
      simp at this
      subst this
      simp at hsz
    · rw [numAt_eq]; exact PySem.getD_mem (by rw [List.length_map, Array.length_toList]; omega)
    · obtain ⟨j, hj, rfl⟩ := mem_getD ha
      rw [List.length_map, Array.length_toList] at hj
      rw [← numAt_eq]; exact q2 j (by omega)
end
section
variable {X : Cx} {G : Gs}
def rMaxDf (K : Kf) : List V → List V → Hp → VK → Prop := fun xs zs H Q => ∃ (a : Addr) (ns : List Int) (d : Int), xs = [.ref a] ∧ zs = [.int d] ∧ SqL K H a (ns.map V.int) ∧ (ns = [] → Q (.int d) H) ∧ (ns ≠ [] → ∀ m, m ∈ ns → (∀ y, y ∈ ns → y ≤ m) → Q (.int m) H)
theorem cr_maxDf (hc : X.calm = true) : CallRK X (.builtin "max") ["default"] (rMaxDf X.K) := by
  intro pins s σ H xs zs us ws Q I r r2 h
  obtain ⟨a, ns, d, rfl, rfl, hs, q0, q⟩ := h
  obtain ⟨its, rv, hl, _⟩ := I.list hs
  rw [Vals.ref1 r]
  obtain ⟨u, rfl, t, rfl⟩ := vals1 r2
  exact max_dfl (I.ok.hd hc) hl.isList rv.ints (fun e h' tk hk => ⟨.int d, H, I.kept hk, ⟨t, rfl⟩, q0 e⟩) fun e h' tk m t' hk h1 h2 => ⟨.int m, H, I.kept hk, ⟨t', rfl⟩, q e m h1 h2⟩
/-- the greatest of ns, d where there is none -/
def maxI (d : Int) : List Int → Int
  | [] => d
  | n :: r => r.foldl (fun a b => if a < b then b else a) n
theorem fold_ge : ∀ (r : List Int) (n : Int), n ≤ r.foldl (fun a b => if a < b then b else a) n ∧ (∀ y ∈ r, y ≤ r.foldl (fun a b => if a < b then b else a) n) ∧ (r.foldl (fun a b => if a < b then b else a) n = n ∨ r.foldl (fun a b => if a < b then b else a) n ∈ r)
  | [], n => ⟨Int.le_refl _, (fun y m => by cases m), .inl rfl⟩
  | b :: r, n => by
    rw [List.foldl_cons]
    obtain ⟨h1, h2, h3⟩ := fold_ge r (if n < b then b else n)
    have e : n ≤ (if n < b then b else n) ∧ b ≤ (if n < b then b else n) := by split <;> omega
    refine ⟨by omega, fun y m => ?_, ?_⟩
    · rcases List.mem_cons.mp m with rfl | m
      · omega
      · exact h2 y m
    · rcases h3 with h3 | h3
      · rw [h3]
        by_cases c : n < b
        · rw [if_pos c]; exact .inr List.mem_cons_self
        · rw [if_neg c]; exact .inl rfl
      · exact .inr (List.mem_cons_of_mem _ h3)
theorem maxI_mem {d : Int} : ∀ {ns : List Int}, ns ≠ [] → maxI d ns ∈ ns
  | [], h => absurd rfl h
  | n :: r, _ => by
    show r.foldl _ n ∈ _
    rcases (fold_ge r n).2.2 with e | e
    · rw [e]; exact List.mem_cons_self
    · exact List.mem_cons_of_mem _ e
theorem maxI_ge {d : Int} : ∀ {ns : List Int} {y : Int}, y ∈ ns → y ≤ maxI d ns
  | n :: r, y, m => by
    show _ ≤ r.foldl _ n
    rcases List.mem_cons.mp m with rfl | m
    · exact (fold_ge r y).1
    · exact (fold_ge r n).2.1 y m
theorem maxI_uniq {d m : Int} {ns : List Int} (h1 : m ∈ ns) (h2 : ∀ y, y ∈ ns → y ≤ m) : m = maxI d ns := by
  have a := maxI_ge (d := d) h1
  have b := h2 _ (maxI_mem (d := d) (List.ne_nil_of_mem h1))
  omega
def mMaxDf (me md : M SV) : M SV := mbind (mfrz me) fun a => mbind (mfrz md) fun b en => match look en a, look en b with
  | some (.list ds), some (.int d) => (match intsOf ds with
    | some ns => .ok (.d (.int (maxI d ns))) en
    | none => .stuck)
  | _, _ => .stuck
theorem je_maxDf {e ed : Expr} {me md : M SV} {p pos kpos : Pos} (hc : X.calm = true) (hK : X.K = G.K) (hg : Gl X "max") (hm : X.mg "max" = none) (he : PE X e (tE G me)) (hd : PE X ed (tE G md)) (hse : starEach [e] X.env = (false, eval e X.env) :: starEach [] X.env := by rfl)
    (h1 : backTo pos (starEach [e] X.env) = (false, eval e X.env) :: backTo pos (starEach [] X.env) := by rfl) (hpl : (backTo pos (starEach [e] X.env)).any (·.1) = false := by rfl)
    (hall : (backToKw pos (keywordEach [⟨some "default", ed, kpos⟩] X.env)).all (·.1.isSome) = true := by rfl) (hnone : (backToKw pos (keywordEach [⟨some "default", ed, kpos⟩] X.env)).any (·.1.isNone) = false := by rfl) (hks : (backToKw pos (keywordEach [⟨some "default", ed, kpos⟩] X.env)).filterMap (·.1) = (["default"] : List Str) := by rfl) :
    PE X (.Call (.Name "max" p) [e] [⟨some "default", ed, kpos⟩] pos) (tE G (mMaxDf me md)) :=
  (pe_callBK (cr_maxDf hc) hg hm (by decide +kernel) (pa_cons (je_frz he) pa_nil hse) (pk_cons (je_frz hd) pk_nil) (he := h1) (hpl := hpl) (hall := hall) (hnone := hnone) (hks := hks)).imp fun σ H Q h => by
    obtain ⟨en, L, R, q⟩ := h
    refine (seqE R q).mono fun x H1 ⟨en1, L1, a, R1, s1, r1, q1⟩ => ?_
    refine (seqE R1 q1).mono fun y H2 ⟨en2, L2, b, R2, s2, r2, q2⟩ => ?_
    split at q2
    · rename_i ds d ea eb
      split at q2
      · rename_i ns en
        obtain ⟨l, ys, rfl, ho, hr⟩ := (RV.opd R2 s2 r1 ea).list'
        have e2 := (RV.opd R2 (Same.refl _) r2 eb).int
        have e3 := intsOf_eq en
        subst e3 e2
        have e4 := dqAll_ints hr
        subst e4
        refine ⟨l, ns, d, rfl, rfl, by rw [hK]; exact ho, fun e => ?_, fun e m h1 h2 => ?_⟩
        · subst e
          exact post_d R2 (.int _) q2
        · rw [maxI_uniq (d := d) h1 h2]
          exact post_d R2 (.int _) q2
      · exact q2.elim
    · exact q2.elim
end
/-! ### l[i] = v, l the list of a slot -/
def mLPut (i : Nat) (mk mv : M SV) : M Ct := mbind (mkeep mv) fun sv en => match en[i]? with
  | some (some (.own (.lst _))) => mbind (mfrz mk) (fun sk en => match look en sk, sv, en[i]? with
    | some (.int k), .d z, some (some (.own (.lst ds))) => (match ixN ds.length k with
      | some j => .ok .nx (en.set i (some (.own (.lst (ds.set j z)))))
      | none => .stuck)
    | _, _, _ => .stuck) en
  | _ => .stuck
section
variable {X : Cx} {G : Gs} {ek ev : Expr} {mk mv : M SV} {pos pos' : Pos}
theorem js_lput (i : Nat) {x : Str} {p : Pos} (hN : X.N[i]? = some x) (hv : Vis X.env.scope x) (hk : PE X ek (tE G mk)) (he : PE X ev (tE G mv)) (hd : (x == ("__debug__" : Str)) = false := by decide) (hcd : (x == ("__classdict__" : Str)) = false := by decide)
    (ha : ∀ v, assign (.Subscript (.Name x p) ek pos') X.env v = (do
      let ov ← holding [v] (eval (.Name x p) X.env)
      let iv ← holding [v, ov] (eval ek X.env)
      standAt pos'
      holding [v, ov, iv] (setItem ov iv v)
      release [v, ov, iv] []) := by intro _; rfl)
    (hs : swapsWithSole [.Subscript (.Name x p) ek pos'] ev pos.line X.env = pure false := by rfl) (hw : swappedStores [.Subscript (.Name x p) ek pos'] ev X.env = pure none := by rfl)
    (h1 : (assignEach [.Subscript (.Name x p) ek pos'] X.env).map (·.2) = [assign (.Subscript (.Name x p) ek pos') X.env] := by rfl) :
    PS X (.Assign [.Subscript (.Name x p) ek pos'] ev pos) (tS G [] (mLPut i mk mv)) :=
  (ps_asg (je_keep he) (pg_sub (pe_var hN hv hd hcd) (je_frz hk) set_list (ha := ha)) hs hw h1).imp fun D σ H h => by
    obtain ⟨en, L, R, q⟩ := h
    refine (seqES R q).mono fun v H1 ⟨en1, L1, sv, R1, s1, r1, q1⟩ => ?_
    split at q1
    · rename_i ds0 e0
      obtain ⟨a, xs0, e1, m0, ho0, hr0⟩ := slot_lst R1 e0
      refine ⟨.ref a, e1, ?_⟩
      refine (seqES R1 q1).mono fun y H2 ⟨en2, L2, sk, R2, s2, r2, q2⟩ => ?_
      split at q2
      · rename_i k z ds ey e2 _
        split at q2
        · rename_i j ej
          obtain ⟨a', xs, e3, m, ho, hr⟩ := slot_lst R2 e2
          rw [e1] at e3
          cases e3
          have eyi := (RV.opd R2 (Same.refl _) r2 ey).int
          subst eyi
          refine ⟨a, xs, k, j, rfl, rfl, ho, by rw [hr.length]; exact ej, ?_⟩
          exact q2 σ _ L2 (R2.put e2 e1 m (b' := .lst (ds.set j z)) (DqAll.set (Dq.mono s2 _ r1) j hr)) (by rw [hid_upd m]; exact Same.refl _) Keeps.refl
        · exact q2.elim
      · exact q2.elim
    · exact q1.elim
end
/-! ### for x in reversed(range(n)) -/
def revD (n : Nat) : List D := (List.range n).map fun k => .int ((n : Int) - 1 - (k : Nat))
theorem walks_rev {K : Kf} {n : Nat} : Walks K (Itc (0 + (n : Int) - 1) (-1) n) (fun _ _ => True) (revD n) where
  go := fun i H L _ hi => by
    unfold revD at hi
    rw [List.length_map, List.length_range] at hi
    exact hi
  stop := fun i H L _ hi => by
    unfold revD at hi
    rw [List.length_map, List.length_range] at hi
    exact (by omega : n ≤ i)
  yld := fun i H L x H' d _ hi y _ => by
    obtain ⟨e, e2⟩ := y
    subst e e2
    unfold revD at hi
    rw [List.getElem?_map] at hi
    by_cases h : i < n
    · rw [List.getElem?_range h] at hi
      cases hi
      refine ⟨Same.refl _, ?_⟩
      rw [show (0 : Int) + (n : Int) - 1 + (i : Nat) * (-1) = (n : Int) - 1 - (i : Nat) by omega]
      exact .int _
    · rw [List.getElem?_eq_none (by rw [List.length_range]; omega)] at hi
      cases hi
noncomputable def mForRev (tg : Tg) (me : M SV) (body : M Ct) : M Ct := mbind (mfrz me) fun sv en => match look en sv with
  | some (.int j) => if -(2 ^ 62) ≤ j ∧ j < 2 ^ 62 then forGo tg none body (revD j.toNat) en else .stuck
  | _ => .stuck
section
variable {X : Cx} {G : Gs} {t a : Expr} {body : List Stmt} {me : M SV} {mb : M Ct} {wb : List Nat} {tg : Tg} {pos p p2 pos' pos2 : Pos}
theorem js_forRev (hp : PassesOwn (model X.prog X.w) X.A X.env X.xe) (hc : X.calm = true) (hK : X.K = G.K) (h1 : Gl X "reversed") (h2 : X.mg "reversed" = none) (h3 : Gl X "range") (h4 : X.mg "range" = none) (ha : PE X a (tE G me)) (hg : PG X t (gOf X.K tg)) (hb : PSs X body (tS G wb mb))
    (e1 : starEach [.Call (.Name "range" p2) [a] [] pos2] X.env = (false, eval (.Call (.Name "range" p2) [a] [] pos2) X.env) :: starEach [] X.env := by rfl) (e2 : starEach [a] X.env = (false, eval a X.env) :: starEach [] X.env := by rfl)
    (hf : ∀ x, foldedSetIterable (.Call (.Name "reversed" p) [.Call (.Name "range" p2) [a] [] pos2] [] pos') X.env x = pure x := by intro _; rfl) :
    PS X (.For t (.Call (.Name "reversed" p) [.Call (.Name "range" p2) [a] [] pos2] [] pos') body [] pos) (tS G (tg.slots ++ wb) (mForRev tg me mb)) :=
  (ps_for hp hc (pi_revR h1 h2 (prg_1 h3 h4 (je_frz ha) e2) e1) hg hb hf).imp fun E σ H h => by
    obtain ⟨en, L, R, q⟩ := h
    refine (seqES R q).mono fun v H1 ⟨en1, L1, sv, R1, s1, r1, q1⟩ => ?_
    rw [hK]
    split at q1
    · rename_i j e
      split at q1
      · rename_i hj
        refine ⟨j, (RV.opd R1 (Same.refl _) r1 e).int, by omega, by omega, hj.1, hj.2, ?_⟩
        rw [Int.sub_zero]
        by_cases h0 : 0 ≤ j
        · exact for_run walks_rev R1 q1 fun _ _ _ _ _ _ _ _ => trivial
        · have hz : j.toNat = 0 := by omega
          exact for_run walks_rev R1 q1 fun _ _ _ _ _ _ _ _ => trivial
      · exact q1.elim
    · exact q1.elim
end
end L2

namespace L2
open PySem PySem.Spec PyProof.Rows
/-! ### the mirror's steps as rewriting -/
variable {α β : Type} {en : En}
@[simp] theorem s_pure (a : α) : mpure a en = .ok a en := rfl
@[simp] theorem s_stuck : (mstuck : M α) en = .stuck := rfl
@[simp] theorem s_bind (m : M α) (f : α → M β) : mbind m f en = match m en with
  | .ok a e => f a e
  | .exc x e => .exc x e
  | .stuck => .stuck := rfl
@[simp] theorem s_var (i : Nat) : mVar i en = match en[i]? with
  | some (some (.d d)) => .ok (.d d) en
  | some (some (.own _)) => .ok (.bor i) en
  | _ => .stuck := rfl
@[simp] theorem s_c (d : D) : mC d en = .ok (.d d) en := rfl
@[simp] theorem s_frz (m : M SV) : mfrz m en = match m en with
  | .ok (.own (.lst ds)) e => .ok (.d (.list ds)) e
  | .ok (.own (.dct _)) _ => .stuck
  | .ok (.d d) e => .ok (.d d) e
  | .ok (.bor i) e => .ok (.bor i) e
  | .exc x e => .exc x e
  | .stuck => .stuck := by
  unfold mfrz
  rw [s_bind]
  cases m en with
  | ok sv e => cases sv with
    | d _ => rfl
    | bor _ => rfl
    | own o => cases o <;> rfl
  | exc x e => rfl
  | stuck => rfl
@[simp] theorem s_keep (m : M SV) : mkeep m en = match m en with
  | .ok (.own (.lst ds)) e => .ok (.d (.list ds)) e
  | .ok (.own (.dct _)) _ => .stuck
  | .ok (.d d) e => .ok (.d d) e
  | .ok (.bor i) e => (match e[i]? with
    | some (some (.own (.lst ds))) => .ok (.d (.list ds)) (e.set i (some (.d (.list ds))))
    | _ => .stuck)
  | .exc x e => .exc x e
  | .stuck => .stuck := by
  unfold mkeep
  rw [s_bind, s_frz]
  cases h : m en with
  | ok sv e =>
    cases sv with
    | d _ => rfl
    | bor _ => rfl
    | own o => cases o <;> rfl
  | exc x e => rfl
  | stuck => rfl
@[simp] theorem s_look_d (d : D) : look en (.d d) = some d := rfl
@[simp] theorem s_look_bor (i : Nat) : look en (.bor i) = match en[i]? with
  | some (some (.own (.lst ds))) => some (.list ds)
  | some (some (.own (.dct kvs))) => some (dctD kvs)
  | _ => none := rfl
@[simp] theorem s_lookA_d (d : D) : lookA en (.d d) = some d := rfl
@[simp] theorem s_lookA_bor (i : Nat) : lookA en (.bor i) = match en[i]? with
  | some (some (.own (.lst ds))) => some (.list ds)
  | some (some (.own (.dct kds))) => if (kds.all fun p => isAt p.2) = true then some (dctD kds) else none
  | _ => none := rfl
@[simp] theorem s_lent_d (d : D) : lentOk en (.d d) = true := rfl
@[simp] theorem s_lent_bor (i : Nat) : lentOk en (.bor i) = match en[i]? with
  | some (some (.own _)) => true
  | _ => false := rfl
@[simp] theorem s_looks_nil : looks en [] = some [] := rfl
@[simp] theorem s_looks_cons (s : SV) (r : List SV) : looks en (s :: r) = match look en s, looks en r with
  | some d, some ds => some (d :: ds)
  | _, _ => none := rfl
@[simp] theorem s_looksA_nil : looksA en [] = some [] := rfl
@[simp] theorem s_looksA_cons (s : SV) (r : List SV) : looksA en (s :: r) = match lookA en s, looksA en r with
  | some d, some ds => some (d :: ds)
  | _, _ => none := rfl
@[simp] theorem s_op1 (f : D → M SV) (m : M SV) : mOp1 f m en = match mfrz m en with
  | .ok sv e => (match look e sv with
    | some x => f x e
    | none => .stuck)
  | .exc x e => .exc x e
  | .stuck => .stuck := by
  unfold mOp1
  rw [s_bind]
  cases mfrz m en with
  | ok a e => first | rfl | (dsimp only; cases look e a <;> rfl)
  | exc _ _ => rfl
  | stuck => rfl
@[simp] theorem s_op2 (f : D → D → M SV) (ma mb : M SV) : mOp2 f ma mb en = match mfrz ma en with
  | .ok a e => (match mfrz mb e with
    | .ok b e => (match look e a, look e b with
      | some x, some y => f x y e
      | _, _ => .stuck)
    | .exc x e => .exc x e
    | .stuck => .stuck)
  | .exc x e => .exc x e
  | .stuck => .stuck := by
  unfold mOp2
  rw [s_bind]
  cases mfrz ma en with
  | ok a e =>
    dsimp only
    rw [s_bind]
    cases mfrz mb e with
    | ok b e => first | rfl | (dsimp only; cases look e a <;> first | rfl | (cases look e b <;> rfl))
    | exc _ _ => rfl
    | stuck => rfl
  | exc _ _ => rfl
  | stuck => rfl
@[simp] theorem s_B (m : M SV) : mB m en = match m en with
  | .ok (.d (.bool b)) e => .ok b e
  | .exc x e => .exc x e
  | _ => .stuck := by
  unfold mB mbind
  cases h : m en with
  | ok sv e =>
    cases sv with
    | d d => cases d <;> rfl
    | bor _ => rfl
    | own o => rfl
  | exc x e => rfl
  | stuck => rfl
@[simp] theorem s_BV (t : M Bool) : mBV t en = match t en with
  | .ok b e => .ok (.d (.bool b)) e
  | .exc x e => .exc x e
  | .stuck => .stuck := by
  unfold mBV
  rw [s_bind]
  cases t en with
  | ok a e => rfl
  | exc _ _ => rfl
  | stuck => rfl
@[simp] theorem s_notT (t : M Bool) : mNotT t en = match t en with
  | .ok b e => .ok (!b) e
  | .exc x e => .exc x e
  | .stuck => .stuck := by
  unfold mNotT
  rw [s_bind]
  cases t en with
  | ok a e => rfl
  | exc _ _ => rfl
  | stuck => rfl
@[simp] theorem s_andT (t u : M Bool) : mAndT t u en = match t en with
  | .ok true e => u e
  | .ok false e => .ok false e
  | .exc x e => .exc x e
  | .stuck => .stuck := by
  unfold mAndT mbind
  cases h : t en with
  | ok b e => cases b <;> rfl
  | exc x e => rfl
  | stuck => rfl
@[simp] theorem s_orT (t u : M Bool) : mOrT t u en = match t en with
  | .ok false e => u e
  | .ok true e => .ok true e
  | .exc x e => .exc x e
  | .stuck => .stuck := by
  unfold mOrT mbind
  cases h : t en with
  | ok b e => cases b <;> rfl
  | exc x e => rfl
  | stuck => rfl
@[simp] theorem s_if (t : M Bool) (a b : M SV) : mIf t a b en = match t en with
  | .ok true e => a e
  | .ok false e => b e
  | .exc x e => .exc x e
  | .stuck => .stuck := by
  unfold mIf mbind
  cases h : t en with
  | ok b e => cases b <;> rfl
  | exc x e => rfl
  | stuck => rfl
@[simp] theorem s_ifS (t : M Bool) (a b : M Ct) : mIfS t a b en = match t en with
  | .ok true e => a e
  | .ok false e => b e
  | .exc x e => .exc x e
  | .stuck => .stuck := by
  unfold mIfS mbind
  cases h : t en with
  | ok b e => cases b <;> rfl
  | exc x e => rfl
  | stuck => rfl
@[simp] theorem s_nil : mNil en = .ok [] en := rfl
@[simp] theorem s_cons (m : M SV) (r : M (List SV)) : mCons m r en = match mfrz m en with
  | .ok a e => (match r e with
    | .ok as e => if lentOk e a then .ok (a :: as) e else .stuck
    | .exc x e => .exc x e
    | .stuck => .stuck)
  | .exc x e => .exc x e
  | .stuck => .stuck := by
  unfold mCons
  rw [s_bind]
  cases mfrz m en with
  | ok a e =>
    dsimp only
    rw [s_bind]
    cases r e with
    | ok b e => rfl
    | exc _ _ => rfl
    | stuck => rfl
  | exc _ _ => rfl
  | stuck => rfl
@[simp] theorem s_ret (m : M SV) : mRet m en = match m en with
  | .ok sv e => .ok (.rt sv) e
  | .exc x e => .exc x e
  | .stuck => .stuck := by
  unfold mRet
  rw [s_bind]
  cases m en with
  | ok a e => rfl
  | exc _ _ => rfl
  | stuck => rfl
@[simp] theorem s_nx : mNx en = .ok .nx en := rfl
@[simp] theorem s_seq (m n : M Ct) : mSeq m n en = match m en with
  | .ok .nx e => n e
  | .ok (.rt sv) e => .ok (.rt sv) e
  | .ok .bk e => .ok .bk e
  | .ok .ct e => .ok .ct e
  | .exc x e => .exc x e
  | .stuck => .stuck := by
  unfold mSeq mbind
  cases h : m en with
  | ok b e => cases b <;> rfl
  | exc x e => rfl
  | stuck => rfl
@[simp] theorem s_set (i : Nat) (m : M SV) : mSet i m en = match m en with
  | .ok (.d d) e => .ok .nx (e.set i (some (.d d)))
  | .ok (.own o) e => .ok .nx (e.set i (some (.own o)))
  | .ok (.bor _) _ => .stuck
  | .exc x e => .exc x e
  | .stuck => .stuck := by
  unfold mSet mbind
  cases h : m en with
  | ok b e => cases b <;> rfl
  | exc x e => rfl
  | stuck => rfl
@[simp] theorem s_callD (f : List D → M SV) (mas : M (List SV)) : mCallD f mas en = match mas en with
  | .ok svs e => (match looks e svs with
    | some ds => f ds e
    | none => .stuck)
  | .exc x e => .exc x e
  | .stuck => .stuck := by
  unfold mCallD
  rw [s_bind]
  cases mas en with
  | ok a e => first | rfl | (dsimp only; cases looks e a <;> rfl)
  | exc _ _ => rfl
  | stuck => rfl
@[simp] theorem s_call (F : Fm) (mas : M (List SV)) : mCall F mas en = match mas en with
  | .ok svs e => (match looksA e svs with
    | some ds => (match F ds with
      | .ok (.d d) _ => if flat d then .ok (.d d) e else .ok (.d d) (frzAll e)
      | .ok (.own o) _ => if flatO o then .ok (.own o) e else .ok (.own o) (frzAll e)
      | .ok (.bor _) _ => .stuck
      | .exc x _ => .exc x (frzAll e)
      | .stuck => .stuck)
    | none => .stuck)
  | .exc x e => .exc x e
  | .stuck => .stuck := by
  unfold mCall
  rw [s_bind]
  cases mas en with
  | ok a e => first | rfl | (dsimp only; cases looksA e a <;> first | rfl | (rename_i ds; dsimp only; cases F ds <;> first | rfl | (rename_i sv _; cases sv <;> rfl)))
  | exc _ _ => rfl
  | stuck => rfl
@[simp] theorem s_isi (T : TyN) (m : M SV) : mIsi T m en = match mfrz m en with
  | .ok sv e => (match look e sv with
    | some x => bvD (isiD T x) e
    | none => .stuck)
  | .exc x e => .exc x e
  | .stuck => .stuck := by
  unfold mIsi
  rw [s_op1]
@[simp] theorem s_bv (o : Option Bool) : bvD o en = match o with
  | some b => .ok (.d (.bool b)) en
  | none => .stuck := rfl
@[simp] theorem s_iv (o : Option D) : ivD o en = match o with
  | some d => .ok (.d d) en
  | none => .stuck := rfl
@[simp] theorem s_d1 (f : D → M SV) (x : D) : d1 f [x] = f x := rfl
@[simp] theorem s_dIs_b (a b : Bool) : dIs (.bool a) (.bool b) = mpure (.d (.bool (decide (a = b)))) := rfl
@[simp] theorem s_dNis_b (a b : Bool) : dNis (.bool a) (.bool b) = mpure (.d (.bool (!decide (a = b)))) := rfl
@[simp] theorem s_dLe_i (a b : Int) : dLe (.int a) (.int b) = mpure (.d (.bool (decide (a ≤ b)))) := rfl
@[simp] theorem s_dLt_i (a b : Int) : dLt (.int a) (.int b) = mpure (.d (.bool (decide (a < b)))) := rfl
@[simp] theorem s_dGt_i (a b : Int) : dGt (.int a) (.int b) = mpure (.d (.bool (decide (b < a)))) := rfl
@[simp] theorem s_dAdd_i (a b : Int) : dAdd (.int a) (.int b) = mpure (.d (.int (a + b))) := rfl
@[simp] theorem s_dInt_i (a : Int) : dInt (.int a) = mpure (.d (.int a)) := rfl
@[simp] theorem s_dInt_b (a : Bool) : dInt (.bool a) = mpure (.d (.int (if a then 1 else 0))) := rfl
@[simp] theorem s_dIx (x y : D) : dIx x y en = match ixD x y with
  | some d => .ok (.d d) en
  | none => .stuck := rfl
@[simp] theorem s_ix_t (ds : List D) (i : Int) : ixD (.tuple ds) (.int i) = atI ds i := rfl
@[simp] theorem s_ix_l (ds : List D) (i : Int) : ixD (.list ds) (.int i) = atI ds i := rfl
@[simp] theorem s_dEq (x y : D) : dEq x y en = match eqD x y with
  | some b => .ok (.d (.bool b)) en
  | none => .stuck := rfl
@[simp] theorem s_dNe (x y : D) : dNe x y en = match eqD x y with
  | some b => .ok (.d (.bool !b)) en
  | none => .stuck := by
  unfold dNe bvD
  cases eqD x y <;> rfl
@[simp] theorem s_eq_i (a b : Int) : eqD (.int a) (.int b) = some (decide (a = b)) := rfl
@[simp] theorem s_eq_s (a b : Str) : eqD (.str a) (.str b) = some (decide (a = b)) := rfl
@[simp] theorem s_eq_b (a b : Bool) : eqD (.bool a) (.bool b) = some (decide (a = b)) := rfl
@[simp] theorem s_len_t (ds : List D) : dLen (.tuple ds) = mpure (.d (.int ds.length)) := rfl
@[simp] theorem s_len_l (ds : List D) : dLen (.list ds) = mpure (.d (.int ds.length)) := rfl
@[simp] theorem s_len_scr (ns : List Int) : dLen (scrD ns) = mpure (.d (.int ns.length)) := by
  have h : (ns.map PyData.int).length = ns.length := List.length_map _
  show (fun en => Rs.ok (SV.d (.int ((ns.map PyData.int).length : Nat))) en) = _
  rw [h]
  rfl
@[simp] theorem s_chain (f g : D → D → M SV) (ma mb mc : M SV) : mChain f g ma mb mc en = match mfrz ma en with
  | .ok a e => (match mfrz mb e with
    | .ok b e => (match look e a, look e b with
      | some x, some y => (match f x y e with
        | .ok (.d (.bool true)) e => mOp1 (fun z => g y z) mc e
        | .ok (.d (.bool false)) e => .ok (.d (.bool false)) e
        | .exc x e => .exc x e
        | _ => .stuck)
      | _, _ => .stuck)
    | .exc x e => .exc x e
    | .stuck => .stuck)
  | .exc x e => .exc x e
  | .stuck => .stuck := by
  unfold mChain
  rw [s_bind]
  cases mfrz ma en with
  | ok a e =>
    dsimp only
    rw [s_bind]
    cases mfrz mb e with
    | ok b e =>
      dsimp only
      cases look e a with
      | none => rfl
      | some x =>
        cases look e b with
        | none => rfl
        | some y =>
          dsimp only
          rw [s_bind]
          cases f x y e with
          | ok r e =>
            cases r with
            | d d => cases d with
              | bool b => cases b <;> rfl
              | _ => rfl
            | own _ => rfl
            | bor _ => rfl
          | exc _ _ => rfl
          | stuck => rfl
    | exc _ _ => rfl
    | stuck => rfl
  | exc _ _ => rfl
  | stuck => rfl
theorem run_ok {n N : Nat} {body : M Ct} {ds : List D} {d : D} {e : En} (hl : ds.length = n) (h : body (ds.map (fun d => some (SV.d d)) ++ List.replicate (N - n) none) = .ok (.rt (.d d)) e) : runF n N body ds = .ok (.d d) [] := by
  unfold runF
  rw [if_pos hl, h]
theorem run_own {n N : Nat} {body : M Ct} {ds : List D} {o : OB} {e : En} (hl : ds.length = n) (h : body (ds.map (fun d => some (SV.d d)) ++ List.replicate (N - n) none) = .ok (.rt (.own o)) e) : runF n N body ds = .ok (.own o) [] := by
  unfold runF
  rw [if_pos hl, h]
theorem run_bor {n N : Nat} {body : M Ct} {ds : List D} {i : Nat} {o : OB} {e : En} (hl : ds.length = n) (h : body (ds.map (fun d => some (SV.d d)) ++ List.replicate (N - n) none) = .ok (.rt (.bor i)) e) (ho : e[i]? = some (some (.own o))) : runF n N body ds = .ok (.own o) [] := by
  unfold runF
  rw [if_pos hl, h]
  simp only [ho]
theorem run_exc {n N : Nat} {body : M Ct} {ds : List D} {x : Xc} {e : En} (hl : ds.length = n) (h : body (ds.map (fun d => some (SV.d d)) ++ List.replicate (N - n) none) = .exc x e) : runF n N body ds = .exc x [] := by
  unfold runF
  rw [if_pos hl, h]
end L2

namespace L2
open PySem PySem.Spec PyProof.Rows
/-! ### comprehensions and loops as maps and folds -/
theorem compGo_map {tg : Tg} {me : M SV} {en0 : En} {g : D → D} : ∀ (ds acc : List D), (∀ d ∈ ds, ∃ en1, setTg tg d en0 = some en1 ∧ mkeep me en1 = .ok (.d (g d)) en1) → acc.length + ds.length ≤ sizeLine → compGo tg mYes me en0 ds acc = some (acc ++ ds.map g)
  | [], acc, _, _ => by simp [compGo]
  | d :: r, acc, h, l => by
    obtain ⟨en1, h1, h2⟩ := h d List.mem_cons_self
    have l2 : acc.length < sizeLine := by simp at l; omega
    unfold compGo
    simp only [h1]
    have e : mYes en1 = .ok true en1 := rfl
    simp only [e, if_true, h2, true_and, l2]
    rw [compGo_map r _ (fun x m => h x (List.mem_cons_of_mem _ m)) (by simp at l ⊢; omega)]
    simp
theorem compGo_filter {tg : Tg} {mc : M Bool} {me : M SV} {en0 : En} {p : D → Bool} {g : D → D} : ∀ (ds acc : List D), (∀ d ∈ ds, ∃ en1, setTg tg d en0 = some en1 ∧ mc en1 = .ok (p d) en1 ∧ (p d = true → mkeep me en1 = .ok (.d (g d)) en1)) → acc.length + ds.length ≤ sizeLine → compGo tg mc me en0 ds acc = some (acc ++ (ds.filter p).map g)
  | [], acc, _, _ => by simp [compGo]
  | d :: r, acc, h, l => by
    obtain ⟨en1, h1, h2, h3⟩ := h d List.mem_cons_self
    have l2 : acc.length < sizeLine := by simp at l; omega
    unfold compGo
    simp only [h1]
    cases e : p d with
    | false =>
      simp only [h2, e, if_true]
      rw [compGo_filter r _ (fun x m => h x (List.mem_cons_of_mem _ m)) (by simp at l ⊢; omega)]
      simp [e]
    | true =>
      simp only [h2, e, if_true, h3 e, true_and, l2]
      rw [compGo_filter r _ (fun x m => h x (List.mem_cons_of_mem _ m)) (by simp at l ⊢; omega)]
      simp [e]
variable {en : En}
theorem comp_ok {tg : Tg} {vs : List Nat} {mc : M Bool} {me : M SV} {ds r : List D} (h : noOwn en vs = true) (e : compGo tg mc me (wipeEn en vs) ds [] = some r) : mComp tg vs mc me ds en = .ok (.own (.lst r)) en := by
  unfold mComp
  rw [if_pos h, e]
@[simp] theorem s_lc (tg : Tg) (vs : List Nat) (mi : M SV) (mc : M Bool) (me : M SV) : mLc tg vs mi mc me en = match mfrz mi en with
  | .ok (.d (.list ds)) e => mComp tg vs mc me ds e
  | .ok (.d (.tuple ds)) e => mComp tg vs mc me ds e
  | .ok (.d (.str z)) e => mComp tg vs mc me (signs z) e
  | .ok (.bor i) e => (match e[i]? with
    | some (some (.own (.lst ds))) => if vs.contains i then .stuck else mComp tg vs mc me ds e
    | _ => .stuck)
  | .exc x e => .exc x e
  | _ => .stuck := by
  unfold mLc
  rw [s_bind]
  cases mfrz mi en with
  | ok sv e => cases sv with
    | d d => cases d <;> rfl
    | bor _ => rfl
    | own _ => rfl
  | exc _ _ => rfl
  | stuck => rfl
@[simp] theorem s_tup (r : M (List SV)) : mTup r en = match r en with
  | .ok svs e => (match looks e svs with
    | some ds => if ds.length ≤ sizeLine ∧ (svs.all fun s => match s with | .d _ => true | _ => false) = true then .ok (.d (.tuple ds)) e else .stuck
    | none => .stuck)
  | .exc x e => .exc x e
  | .stuck => .stuck := by
  unfold mTup
  rw [s_bind]
  cases r en with
  | ok a e => first | rfl | (dsimp only; cases looks e a <;> rfl)
  | exc _ _ => rfl
  | stuck => rfl
@[simp] theorem s_lst (r : M (List SV)) : mLst r en = match r en with
  | .ok svs e => (match looks e svs with
    | some ds => if ds.length ≤ sizeLine ∧ (svs.all fun s => match s with | .d _ => true | _ => false) = true then .ok (.own (.lst ds)) e else .stuck
    | none => .stuck)
  | .exc x e => .exc x e
  | .stuck => .stuck := by
  unfold mLst
  rw [s_bind]
  cases r en with
  | ok a e => first | rfl | (dsimp only; cases looks e a <;> rfl)
  | exc _ _ => rfl
  | stuck => rfl
@[simp] theorem s_sortSet (m : M SV) : mSortSet m en = match mfrz m en with
  | .ok sv e => (match look e sv with
    | some d => (match ssD d with
      | some xs => .ok (.own (.lst (xs.map .str))) e
      | none => .stuck)
    | none => .stuck)
  | .exc x e => .exc x e
  | .stuck => .stuck := by
  unfold mSortSet
  rw [s_bind]
  cases mfrz m en with
  | ok a e => first | rfl | (dsimp only; cases look e a <;> first | rfl | (rename_i d; dsimp only; cases ssD d <;> rfl))
  | exc _ _ => rfl
  | stuck => rfl
theorem sizeLine_ge : 1000000 ≤ sizeLine := by
  rw [sizeLine_eq]
  omega
@[simp] theorem dAll_bools (bs : List Bool) : dAll (.list (bs.map .bool)) = mpure (.d (.bool (bs.all id))) := by
  have h : ∀ bs : List Bool, bools (bs.map .bool) = some bs := fun bs => by
    induction bs with
    | nil => rfl
    | cons b r ih => simp only [List.map_cons, bools, ih, Option.map_some]
  show bvD ((bools (bs.map .bool)).map fun bs => bs.all id) = _
  rw [h]
  rfl
theorem forGo_fold {γ : Type} {tg : Tg} {body : M Ct} {c : Option (Nat × List D)} (st : γ → En) (step : γ → D → γ) (hc : ∀ s, chkOk c (st s) = true) : ∀ (ds : List D) (s : γ), (∀ s, ∀ d ∈ ds, ∃ en1, setTg tg d (st s) = some en1 ∧ (body en1 = .ok .nx (st (step s d)) ∨ body en1 = .ok .ct (st (step s d)))) → forGo tg c body ds (st s) = .ok .nx (st (ds.foldl step s))
  | [], s, _ => by unfold forGo; rw [if_pos (hc s)]; rfl
  | d :: r, s, h => by
    obtain ⟨en1, h1, h2⟩ := h s d List.mem_cons_self
    unfold forGo
    rw [if_pos (hc s), h1]
    dsimp only
    rcases h2 with h2 | h2
    all_goals
      rw [h2]
      exact forGo_fold st step hc r (step s d) fun s x m => h s x (List.mem_cons_of_mem _ m)
end L2

namespace L2
open PySem PySem.Spec PyProof.Rows
/-! ### lists of texts compared -/
theorem strs_lay : ∀ xs : List Str, (∀ x ∈ xs, PyData.strOk x = true) → PyData.canLayAll0 (xs.map .str) = true
  | [], _ => by simp [PyData.canLayAll0]
  | x :: r, h => by simp [PyData.canLayAll0, PyData.canLay0, strs_lay r fun y m => h y (List.mem_cons_of_mem _ m), h x List.mem_cons_self]
theorem strs_depth : ∀ xs : List Str, PyData.depthAll (xs.map .str) = 0
  | [] => by simp [PyData.depthAll]
  | x :: r => by simp [PyData.depthAll, PyData.depth, strs_depth r]
theorem strs_plain : ∀ xs : List Str, plains (xs.map .str) = true
  | [] => rfl
  | x :: r => by simp [plains, plain, strs_plain r]
theorem strs_eqv : ∀ xs ys : List Str, PyData.eqvAll (xs.map .str) (ys.map .str) = decide (xs = ys)
  | [], [] => by simp [PyData.eqvAll]
  | [], _ :: _ => by simp [PyData.eqvAll]
  | _ :: _, [] => by simp [PyData.eqvAll]
  | x :: r, y :: s => by
    simp only [List.map_cons, PyData.eqvAll, PyData.eqv, strs_eqv r s]
    by_cases h : x = y <;> by_cases g : r = s <;> simp [h, g]
theorem eq_strs (xs ys : List Str) (hx : ∀ x ∈ xs, PyData.strOk x = true) (hy : ∀ x ∈ ys, PyData.strOk x = true) : eqD (.list (xs.map .str)) (.list (ys.map .str)) = some (decide (xs = ys)) := by
  have e1 : scalD (.list (xs.map .str)) (.list (ys.map .str)) = none := rfl
  have s : ∀ zs : List Str, (∀ x ∈ zs, PyData.strOk x = true) → SeqAt.shaped (.list (zs.map .str)) = true := fun zs h => by
    simp [SeqAt.shaped, PyData.canLay0, strs_lay zs h, PyData.depth, strs_depth]
  unfold eqD
  rw [e1]
  have c : plain (.list (xs.map .str)) = true ∧ plain (.list (ys.map .str)) = true ∧ SeqAt.shaped (.list (xs.map .str)) = true ∧ SeqAt.shaped (.list (ys.map .str)) = true := ⟨by simp [plain, strs_plain], by simp [plain, strs_plain], s _ hx, s _ hy⟩
  simp only [c, and_self, if_true]
  congr 1
  rw [show PyData.eqv (.list (xs.map .str)) (.list (ys.map .str)) = PyData.eqvAll (xs.map .str) (ys.map .str) by simp [PyData.eqv]]
  exact strs_eqv xs ys
theorem strsOf_map : ∀ xs : List Str, strsOf (xs.map .str) = some xs
  | [] => rfl
  | x :: r => by
    show (strsOf (r.map .str)).map (x :: ·) = _
    rw [strsOf_map r]
    rfl
theorem ssD_strs {xs : List Str} (h : xs.length < 64) : ssD (.list (xs.map .str)) = some (sortSet xs) := by
  show (match strsOf (xs.map .str) with
    | some xs => if xs.length < 64 then some (sortSet xs) else none
    | none => none) = _
  rw [strsOf_map]
  simp only [h, if_true]
/-! ### words -/
abbrev Ws := List (Str × Int)
def pD (p : Str × Int) : D := .tuple [.str p.1, .int p.2]
def wsD (ws : Ws) : D := .tuple (ws.map pD)
theorem flat_pD (p : Str × Int) : flat (pD p) = true := rfl
theorem flats_ws : ∀ ws : Ws, flats (ws.map pD) = true
  | [] => rfl
  | p :: r => by
    show (flat (pD p) && flats (r.map pD)) = true
    rw [flats_ws r]
    rfl
theorem flat_wsD (ws : Ws) : flat (wsD ws) = true := flats_ws ws
end L2

namespace L2
open PySem PySem.Spec PyProof.Rows
/-! ### sorted names -/
def ltS (a b : Str) : Prop := leS a b = true ∧ a ≠ b
theorem sortSet_pw (xs : List Str) : (sortSet xs).Pairwise fun a b => leS a b = true := sortStrs_pw _
theorem sortSet_nodup (xs : List Str) : (sortSet xs).Nodup := (sortStrs_perm _).nodup_iff.mpr (nodup_dedup _ xs (Nat.le_refl _))
theorem mem_sortSet {xs : List Str} {x : Str} : x ∈ sortSet xs ↔ x ∈ xs := (sortStrs_perm _).mem_iff.trans List.mem_eraseDups
theorem sortSet_eq {xs : List Str} (h1 : xs.Pairwise fun a b => leS a b = true) (h2 : xs.Nodup) : xs = sortSet xs := sortSet_uniq h2 (fun _ => Iff.rfl) h1
/-! ### dicts of words -/
def tabOf (ws : Ws) : List (Key × D) := ws.map fun p => (.inr p.1, .int p.2)
theorem putD_new {kds : List (Key × D)} {k : Key} {d : D} (h : ∀ p ∈ kds, p.1 ≠ k) : putD kds k d = kds ++ [(k, d)] := by
  unfold putD
  rw [if_neg]
  intro c
  obtain ⟨p, mp, e⟩ := List.any_eq_true.mp c
  exact h p mp (of_decide_eq_true e)
theorem dcGo_ws {mk mv : M SV} {en0 : En} {tg : Tg} (h : ∀ p : Str × Int, ∃ en1, setTg tg (pD p) en0 = some en1 ∧ mkeep mk en1 = .ok (.d (.str p.1)) en1 ∧ mkeep mv en1 = .ok (.d (.int p.2)) en1) :
    ∀ (ws : Ws) (pre : Ws), ((pre ++ ws).map (·.1)).Nodup → pre.length + ws.length ≤ sizeLine → dcGo tg mYes mk mv en0 (ws.map pD) (tabOf pre) = some (tabOf (pre ++ ws))
  | [], pre, _, _ => by simp [dcGo]
  | p :: r, pre, nd, hl => by
    obtain ⟨en1, h1, h2, h3⟩ := h p
    have e : mYes en1 = .ok true en1 := rfl
    have hlen : (tabOf pre).length < sizeLine := by
      unfold tabOf
      rw [List.length_map]
      simp at hl
      omega
    have hk : ∀ q ∈ tabOf pre, q.1 ≠ (Sum.inr p.1 : Key) := fun q mq c => by
      unfold tabOf at mq
      obtain ⟨w, mw, rfl⟩ := List.mem_map.mp mq
      have c2 : w.1 = p.1 := by injection c
      rw [List.map_append, List.map_cons, List.nodup_append] at nd
      exact nd.2.2 w.1 (List.mem_map.mpr ⟨w, mw, rfl⟩) p.1 List.mem_cons_self c2
    have et : putD (tabOf pre) (.inr p.1) (.int p.2) = tabOf (pre ++ [p]) := by
      rw [putD_new hk]
      unfold tabOf
      rw [List.map_append]
      rfl
    rw [List.map_cons]
    unfold dcGo
    simp only [h1, e, if_true, h2, h3, keyD, true_and, hlen, et]
    rw [dcGo_ws h r (pre ++ [p]) (by simpa using nd) (by simp at hl ⊢; omega)]
    simp
@[simp] theorem s_dc {en : En} (tg : Tg) (vs : List Nat) (mi : M SV) (mc : M Bool) (mk mv : M SV) : mDc tg vs mi mc mk mv en = match mfrz mi en with
  | .ok (.d (.list ds)) e => mDcGo tg vs mc mk mv ds e
  | .ok (.d (.tuple ds)) e => mDcGo tg vs mc mk mv ds e
  | .ok (.d (.str z)) e => mDcGo tg vs mc mk mv (L2.signs z) e
  | .ok (.bor i) e => (match e[i]? with
    | some (some (.own (.lst ds))) => if vs.contains i then .stuck else mDcGo tg vs mc mk mv ds e
    | _ => .stuck)
  | .exc x e => .exc x e
  | _ => .stuck := by
  unfold mDc
  rw [s_bind]
  cases mfrz mi en with
  | ok sv e => cases sv with
    | d d => cases d <;> rfl
    | bor _ => rfl
    | own _ => rfl
  | exc _ _ => rfl
  | stuck => rfl
theorem dc_ok {en : En} {tg : Tg} {vs : List Nat} {mc : M Bool} {mk mv : M SV} {ds : List D} {r : List (Key × D)} (h : noOwn en vs = true) (e : dcGo tg mc mk mv (wipeEn en vs) ds [] = some r) : mDcGo tg vs mc mk mv ds en = .ok (.own (.dct r)) en := by
  unfold mDcGo
  rw [if_pos h, e]
def valW (ws : Ws) (x : Str) : Int := match ws.find? fun p => decide (p.1 = x) with
  | some p => p.2
  | none => 0
theorem valD_tab (ws : Ws) (x : Str) : (valD (tabOf ws) (.inr x)).getD (.int 0) = .int (valW ws x) := by
  unfold valD tabOf valW
  rw [List.find?_map]
  have e : ((fun kv : Key × D => decide (kv.1 = (Sum.inr x : Key))) ∘ fun p : Str × Int => ((Sum.inr p.1 : Key), PyData.int p.2)) = fun p => decide (p.1 = x) := by
    funext p
    simp
  rw [e]
  cases ws.find? fun p => decide (p.1 = x) <;> rfl
@[simp] theorem s_raise {en : En} (cls : Str) (nms : List Str) (mas : M (List SV)) : mRaise cls nms mas en = match mas en with
  | .ok svs e => (match dataOf svs with
    | some ds => .exc ⟨cls, (nms.zip ds).reverse⟩ e
    | none => .stuck)
  | .exc x e => .exc x e
  | .stuck => .stuck := by
  unfold mRaise
  rw [s_bind]
  cases mas en with
  | ok a e => first | rfl | (dsimp only; cases dataOf a <;> rfl)
  | exc _ _ => rfl
  | stuck => rfl
@[simp] theorem s_data_nil : dataOf [] = some [] := rfl
@[simp] theorem s_data_d (d : D) (r : List SV) : dataOf (.d d :: r) = match dataOf r with
  | some ds => some (d :: ds)
  | none => none := rfl
@[simp] theorem s_get2_own {en e1 e2 : En} {mo mk mx : M SV} {kds : List (Key × D)} {x : Str} {z : D} (h1 : mo en = .ok (.own (.dct kds)) e1) (h2 : mk e1 = .ok (.d (.str x)) e2) (h3 : mx e2 = .ok (.d z) e2) : mGet2 mo mk mx en = .ok (.d ((valD kds (.inr x)).getD z)) e2 := by
  unfold mGet2
  rw [s_bind, h1]
  dsimp only
  rw [s_bind, s_frz, h2]
  dsimp only
  rw [s_bind, s_keep, h3]
  rfl
theorem ix_dct (kds : List (D × D)) (k : Str) : ixD (.dict kds) (.str k) = lookD (.str k) kds := by
  unfold ixD
  split
  · rename_i heq _; exact PyData.noConfusion heq
  · rename_i heq _; exact PyData.noConfusion heq
  · rename_i heq _; exact PyData.noConfusion heq
  · rename_i h1 h2; exact PyData.noConfusion h2
  · rename_i heq _
    cases heq
    rfl
  · rename_i h _ _ _ _
    exact (h kds rfl).elim
end L2

namespace L2
open PySem PySem.Spec PyProof.Rows
variable {en : En}
@[simp] theorem s_sub (a b : Int) : dSub (.int a) (.int b) = mpure (.d (.int (a - b))) := rfl
@[simp] theorem s_mod (a b : Int) : dMod (.int a) (.int b) en = if 0 < b then .ok (.d (.int (a % b))) en else .stuck := by
  show ivD (if 0 < b then some (.int (a % b)) else none) en = _
  split <;> rfl
@[simp] theorem s_div (a b : Int) : dDiv (.int a) (.int b) en = if 0 < b ∧ b < 2 ^ 64 then .ok (.d (.int (a / b))) en else .stuck := by
  show ivD (if 0 < b ∧ b < 2 ^ 64 then some (.int (a / b)) else none) en = _
  split <;> rfl
@[simp] theorem s_mul (a b : Int) : dMulL (.int a) (.int b) en = if (-(2 ^ 64) < a ∧ a < 2 ^ 64) ∨ (-(2 ^ 64) < b ∧ b < 2 ^ 64) then .ok (.d (.int (a * b))) en else .stuck := by
  show ivD (if (-(2 ^ 64) < a ∧ a < 2 ^ 64) ∨ (-(2 ^ 64) < b ∧ b < 2 ^ 64) then some (.int (a * b)) else none) en = _
  split <;> rfl
@[simp] theorem s_pow (a b : Int) : dPow (.int a) (.int b) en = if (0 ≤ b ∧ b ≤ 1000000) ∧ a.natAbs < 2 ^ 64 then .ok (.d (.int (a ^ b.toNat))) en else .stuck := by
  show ivD (if (0 ≤ b ∧ b ≤ 1000000) ∧ a.natAbs < 2 ^ 64 then some (.int (a ^ b.toNat)) else none) en = _
  split <;> rfl
@[simp] theorem s_max2 (a b : Int) : dMax2 [.int a, .int b] = mpure (.d (.int (if b > a then b else a))) := rfl
@[simp] theorem s_min2 (a b : Int) : dMin2 [.int a, .int b] = mpure (.d (.int (if b < a then b else a))) := rfl
@[simp] theorem s_mut (i : Nat) (f : List D → D → Option (List D)) (me : M SV) : mMut i f me en = match en[i]? with
  | some (some (.own (.lst _))) => (match mkeep me en with
    | .ok (.d d) e => (match e[i]? with
      | some (some (.own (.lst ds))) => (match f ds d with
        | some es => .ok .nx (e.set i (some (.own (.lst es))))
        | none => .stuck)
      | _ => .stuck)
    | .exc x e => .exc x e
    | _ => .stuck)
  | _ => .stuck := by
  unfold mMut
  cases en[i]? with
  | none => rfl
  | some o =>
    cases o with
    | none => rfl
    | some s =>
      cases s with
      | d _ => rfl
      | bor _ => rfl
      | own o =>
        cases o with
        | dct _ => rfl
        | lst ds0 =>
          dsimp only
          rw [s_bind]
          cases mkeep me en with
          | exc _ _ => rfl
          | stuck => rfl
          | ok sv e =>
            cases sv with
            | own _ => rfl
            | bor _ => rfl
            | d d =>
              dsimp only
              cases e[i]? with
              | none => rfl
              | some o => cases o with
                | none => rfl
                | some s => cases s with
                  | d _ => rfl
                  | bor _ => rfl
                  | own o => cases o with
                    | lst ds => first | rfl | (dsimp only; cases f ds d <;> rfl)
                    | dct _ => rfl
@[simp] theorem s_append (i : Nat) (me : M SV) : mAppend i me = mMut i fAppend me := rfl
@[simp] theorem s_fapp (ds : List D) (d : D) : fAppend ds d = if ds.length < sizeLine then some (ds ++ [d]) else none := rfl
@[simp] theorem s_tg (i : Nat) (d : D) : setTg (.nm i) d en = some (en.set i (some (.d d))) := rfl
@[simp] theorem s_forR1 (tg : Tg) (mas : M (List SV)) (body : M Ct) : mForR1 tg mas body en = match mas en with
  | .ok svs e => (match looks e svs with
    | some [.int j] => if -(2 ^ 62) ≤ j ∧ j < 2 ^ 62 then forGo tg none body (rngD 0 j.toNat) e else .stuck
    | _ => .stuck)
  | .exc x e => .exc x e
  | .stuck => .stuck := by
  unfold mForR1
  rw [s_bind]
  cases mas en with
  | ok a e => rfl
  | exc _ _ => rfl
  | stuck => rfl
theorem forGo_inv {tg : Tg} {c : Option (Nat × List D)} {body : M Ct} (P : Nat → En → Prop) {ds0 : List D} (hc : ∀ i e, P i e → chkOk c e = true)
    (step : ∀ i d e, ds0[i]? = some d → P i e → ∃ e1 e2, setTg tg d e = some e1 ∧ (body e1 = .ok .nx e2 ∨ body e1 = .ok .ct e2) ∧ P (i + 1) e2) :
    ∀ (ds : List D) (i : Nat), ds = ds0.drop i → ∀ e, P i e → ∃ e', forGo tg c body ds e = .ok .nx e' ∧ P (i + ds.length) e'
  | [], i, _, e, h => ⟨e, by unfold forGo; rw [if_pos (hc i e h)], h⟩
  | d :: r, i, hd, e, h => by
    have hi : ds0[i]? = some d := by
      have := congrArg List.head? hd
      simpa [List.head?_drop] using this.symm
    obtain ⟨e1, e2, h1, h2, h3⟩ := step i d e hi h
    have hr : r = ds0.drop (i + 1) := by
      have := congrArg List.tail hd
      simpa [List.tail_drop] using this
    obtain ⟨e', q1, q2⟩ := forGo_inv P hc step r (i + 1) hr e2 h3
    refine ⟨e', ?_, by rw [List.length_cons, show i + (r.length + 1) = i + 1 + r.length by omega]; exact q2⟩
    unfold forGo
    rw [if_pos (hc i e h), h1]
    dsimp only
    rcases h2 with h2 | h2 <;> (rw [h2]; exact q1)
theorem for_inv {tg : Tg} {body : M Ct} (P : Nat → En → Prop) {ds : List D} (step : ∀ i d e, ds[i]? = some d → P i e → ∃ e1 e2, setTg tg d e = some e1 ∧ (body e1 = .ok .nx e2 ∨ body e1 = .ok .ct e2) ∧ P (i + 1) e2) {e : En} (h : P 0 e) :
    ∃ e', forGo tg none body ds e = .ok .nx e' ∧ P ds.length e' := by
  have := forGo_inv P (c := none) (fun _ _ _ => rfl) step ds 0 rfl e h
  simpa using this
theorem rng_get {lo : Int} {n i : Nat} {d : D} (h : (rngD lo n)[i]? = some d) : i < n ∧ d = .int (lo + (i : Nat)) := by
  unfold rngD at h
  rw [List.getElem?_map] at h
  cases q : (List.range n)[i]? with
  | none => rw [q] at h; cases h
  | some k =>
    rw [q] at h
    cases h
    have hk := List.getElem?_eq_some_iff.mp q
    obtain ⟨h1, h2⟩ := hk
    rw [List.getElem_range] at h2
    subst h2
    exact ⟨by simpa using h1, rfl⟩
theorem atI_at {ds : List D} {i : Int} {d : D} (h0 : 0 ≤ i) (h : ds[i.toNat]? = some d) : atI ds i = some d := by
  have := atI_nat h
  rwa [Int.toNat_of_nonneg h0] at this
theorem ix_scr (ns : List Int) (i : Int) : ixD (scrD ns) (.int i) = atI (ns.map .int) i := rfl
theorem forR1_run {tg : Tg} {mas : M (List SV)} {body : M Ct} {e : En} {j : Int} (h : mas en = .ok [.d (.int j)] e) (h0 : 0 ≤ j) (h1 : j ≤ 1000000) : mForR1 tg mas body en = forGo tg none body (rngD 0 j.toNat) e := by
  rw [s_forR1, h]
  show (if -(2 ^ 62) ≤ j ∧ j < 2 ^ 62 then forGo tg none body (rngD 0 j.toNat) e else .stuck) = _
  rw [if_pos ⟨by omega, by omega⟩]
end L2

namespace KG
open PySem PySem.Spec PyProof.Rows L2
noncomputable def m_is_integer : M Ct := mRet (mBV (mAndT (mB (mIsi .tInt (mVar 0))) (mB (mBV (mNotT (mB (mIsi .tBool (mVar 0))))))))
noncomputable def F_is_integer : Fm := runF 1 1 m_is_integer
noncomputable def m_is_row : M Ct := mSeq (mIfS (mNotT (mB (mIsi .tTuple (mVar 0)))) (mRet (mC (.bool false))) (mNx)) (mSeq (mIfS (mNotT (mB (mCallD (d1 dAll) (mCons (mLc (.nm 2) [2] (mVar 0) (mYes) (mBV (mAndT (mB (mCall F_is_integer (mCons (mVar 2) (mNil)))) (mB (mChain dLe dLt (mC (.int 0)) (mVar 2) (mVar 1)))))) (mNil))))) (mRet (mC (.bool false))) (mNx)) (mRet (mOp2 dEq (mCallD (d1 dList) (mCons (mVar 0) (mNil))) (mSortSetI (mVar 0)))))
noncomputable def F_is_row : Fm := runF 2 3 m_is_row
noncomputable def m_is_graph : M Ct := mRet (mBV (mAndT (mB (mIsi .tTuple (mVar 0))) (mB (mCallD (d1 dAll) (mCons (mLcE (.tp [1, 2]) [1, 2] (mVar 0) (mYes) (mCall F_is_row (mCons (mVar 2) (mCons (mVar 1) (mNil))))) (mNil))))))
noncomputable def F_is_graph : Fm := runF 1 3 m_is_graph
noncomputable def m_check_graph : M Ct := mIfS (mNotT (mB (mCall F_is_graph (mCons (mVar 0) (mNil))))) (mRaise "InvalidGraph" ["value"] (mCons (mVar 0) (mNil))) (mNx)
noncomputable def F_check_graph : Fm := runF 1 1 m_check_graph
noncomputable def m_is_free : M Ct := mRet (mCallD (d1 dAll) (mCons (mLc (.nm 3) [3] (mOp2 dIx (mVar 0) (mVar 2)) (mYes) (mOp2 dInK (mVar 3) (mVar 1))) (mNil)))
noncomputable def F_is_free : Fm := runF 3 4 m_is_free
noncomputable def m_listed : M Ct := mSeq (mExpr (mCall F_check_graph (mCons (mVar 0) (mNil)))) (mSeq (mSet 3 (mLst (mNil))) (mSeq (mSet 4 (mpure (.own (.dct [])))) (mSeq (mSet 5 (mCallD (d1 dList) (mCons (mVar 2) (mNil)))) (mSeq (mWhile 64 (mTru (mVar 5)) (mSeq (mSet 6 (mSl2 (mLc (.nm 7) [7] (mVar 5) (mB (mCall F_is_free (mCons (mVar 0) (mCons (mVar 4) (mCons (mVar 7) (mNil)))))) (mVar 7)) none (some (mVar 1)))) (mSeq (mAppend 3 (mCallD (d1 dTuple) (mCons (mCallD (d1 dSorted) (mCons (mVar 6) (mNil))) (mNil)))) (mSeq (mUpd 4 (mDc (.nm 7) [7] (mVar 6) (mYes) (mVar 7) (mC (.bool true)))) (mSet 5 (mLc (.nm 7) [7] (mVar 5) (mB (mOp2 dNinK (mVar 7) (mVar 4))) (mVar 7))))))) (mRet (mCallD (d1 dTuple) (mCons (mVar 3) (mNil))))))))
noncomputable def F_listed : Fm := runF 3 8 m_listed
noncomputable def m__law_cell : M Ct := mSeq (mIfS (mB (mOp2 dLt (mVar 1) (mCallD (d1 dLen) (mCons (mVar 0) (mNil))))) (mRet (mOp2 dIx (mVar 0) (mVar 1))) (mNx)) (mSeq (mSet 2 (mC (.int 17))) (mSeq (mFor (.nm 3) [2] (mSl2 (mVar 0) none (some (mC (.int 3)))) (mSet 2 (mOp2 dMod (mCallD (d1 dInt) (mCons (mOp2 dAdd (mOp2 dMulL (mVar 2) (mC (.int 1009))) (mVar 3)) (mNil))) (mC (.int 999983))))) (mRet (mOp2 dAdd (mOp2 dMulL (mVar 2) (mC (.int 64))) (mVar 1)))))
noncomputable def F__law_cell : Fm := runF 2 4 m__law_cell
noncomputable def m__law_draws : M Ct := mSeq (mSet 2 (mCallD (d1 dAbs) (mCons (mVar 0) (mNil)))) (mSeq (mSet 3 (mOp2 dGe (mVar 2) (mOp2 dPow (mC (.int 10)) (mC (.int 18))))) (mSeq (mIfS (mTru (mVar 3)) (mSet 2 (mOp2 dSub (mVar 2) (mOp2 dPow (mC (.int 10)) (mC (.int 18))))) (mIfS (mB (mOp2 dLt (mVar 0) (mC (.int 0)))) (mSet 2 (mOp2 dAdd (mVar 2) (mC (.int 500009)))) (mNx))) (mSeq (mSet 4 (mLst (mNil))) (mSeq (mForR1 (.nm 5) (mCons (mCallD (d1 dLen) (mCons (mVar 1) (mNil))) (mNil)) (mIfS (mTru (mVar 3)) (mSeq (mAppend 4 (mOp2 dMod (mCallD (d1 dInt) (mCons (mVar 2) (mNil))) (mOp2 dIx (mVar 1) (mVar 5)))) (mSet 2 (mOp2 dDiv (mVar 2) (mOp2 dIx (mVar 1) (mVar 5))))) (mSeq (mSet 6 (mOp2 dMod (mCallD (d1 dInt) (mCons (mOp2 dAdd (mOp2 dMulL (mVar 2) (mC (.int 48271))) (mOp2 dMulL (mOp2 dAdd (mVar 5) (mC (.int 1))) (mC (.int 69621)))) (mNil))) (mC (.int 2147483647)))) (mSeq (mSet 6 (mOp2 dMod (mCallD (d1 dInt) (mCons (mOp2 dAdd (mOp2 dMulL (mVar 6) (mC (.int 40692))) (mOp2 dMulL (mOp2 dDiv (mVar 6) (mC (.int 3791))) (mOp2 dAdd (mVar 5) (mC (.int 5))))) (mNil))) (mC (.int 2147483399)))) (mAppend 4 (mOp2 dMod (mCallD (d1 dInt) (mCons (mOp2 dDiv (mVar 6) (mC (.int 7))) (mNil))) (mOp2 dIx (mVar 1) (mVar 5)))))))) (mRet (mVar 4))))))
noncomputable def F__law_draws : Fm := runF 2 7 m__law_draws
noncomputable def m__law_graph : M Ct := mSeq (mSet 3 (mCall F__law_draws (mCons (mCall F__law_cell (mCons (mVar 0) (mCons (mVar 1) (mNil)))) (mCons (mLst (mCons (mOp2 dAdd (mVar 2) (mC (.int 1))) (mCons (mC (.int 4)) (mNil)))) (mNil))))) (mSeq (mSet 4 (mLst (mNil))) (mSeq (mForR1 (.nm 5) (mCons (mOp2 dIx (mVar 3) (mC (.int 0))) (mNil)) (mSeq (mSet 6 (mCall F__law_draws (mCons (mCall F__law_cell (mCons (mVar 0) (mCons (mOp2 dAdd (mOp2 dAdd (mVar 1) (mC (.int 1))) (mVar 5)) (mNil)))) (mCons (mOp2 dAdd (mLst (mCons (mOp2 dAdd (mC (.int 3)) (mOp2 dIx (mVar 3) (mC (.int 1)))) (mNil))) (mOp2 dMulL (mLst (mCons (mCallD dMax2 (mCons (mC (.int 1)) (mCons (mVar 5) (mNil)))) (mNil))) (mC (.int 3)))) (mNil))))) (mSeq (mSet 7 (mLst (mNil))) (mSeq (mFor (.nm 8) [] (mSl2 (mVar 6) (some (mC (.int 1))) (some (mOp2 dAdd (mC (.int 1)) (mCallD dMin2 (mCons (mC (.int 3)) (mCons (mOp2 dIx (mVar 6) (mC (.int 0))) (mNil))))))) (mIfS (mAndT (mB (mOp2 dGt (mVar 5) (mC (.int 0)))) (mB (mOp2 dNin (mVar 8) (mVar 7)))) (mInsert 7 (mCallD (d1 dLen) (mCons (mLc (.nm 9) [9] (mVar 7) (mB (mOp2 dLt (mVar 9) (mVar 8))) (mVar 9)) (mNil))) (mVar 8)) (mNx))) (mAppend 4 (mCallD (d1 dTuple) (mCons (mVar 7) (mNil)))))))) (mRet (mCallD (d1 dTuple) (mCons (mVar 4) (mNil))))))
noncomputable def F__law_graph : Fm := runF 3 10 m__law_graph
noncomputable def m__law_free : M Ct := mRet (mLcR (.nm 2) [2] (mCons (mCallD (d1 dLen) (mCons (mVar 0) (mNil))) (mNil)) (mAndT (mB (mOp2 dNin (mVar 2) (mVar 1))) (mB (mOp2 dEq (mLc (.nm 3) [3] (mOp2 dIx (mVar 0) (mVar 2)) (mB (mOp2 dNin (mVar 3) (mVar 1))) (mVar 3)) (mLst (mNil))))) (mVar 2))
noncomputable def F__law_free : Fm := runF 2 4 m__law_free
noncomputable def m__law_listed : M Ct := mSeq (mSet 3 (mLst (mNil))) (mSeq (mSet 4 (mLst (mNil))) (mSeq (mForR1 (.nm 5) (mCons (mCallD (d1 dLen) (mCons (mVar 0) (mNil))) (mNil)) (mSeq (mSet 6 (mCall F__law_free (mCons (mVar 0) (mCons (mVar 3) (mNil))))) (mSeq (mIfS (mB (mOp2 dEq (mVar 6) (mLst (mNil)))) (mpure .bk) (mNx)) (mSeq (mSet 7 (mSl2 (mLc (.nm 8) [8] (mVar 2) (mB (mOp2 dIn (mVar 8) (mVar 6))) (mVar 8)) none (some (mVar 1)))) (mSeq (mAppend 4 (mCallD (d1 dTuple) (mCons (mLcR (.nm 9) [9] (mCons (mCallD (d1 dLen) (mCons (mVar 0) (mNil))) (mNil)) (mB (mOp2 dIn (mVar 9) (mVar 7))) (mVar 9)) (mNil)))) (mSet 3 (mOp2 dAdd (mVar 3) (mVar 7)))))))) (mRet (mCallD (d1 dTuple) (mCons (mVar 4) (mNil))))))
noncomputable def F__law_listed : Fm := runF 3 10 m__law_listed
noncomputable def m__law_order : M Ct := mSeq (mSet 2 (mCall F__law_draws (mCons (mVar 0) (mCons (mOp2 dAdd (mLcR (.nm 5) [5] (mCons (mVar 1) (mNil)) (mYes) (mCallD dMax2 (mCons (mC (.int 1)) (mCons (mOp2 dSub (mVar 1) (mVar 5)) (mNil))))) (mLst (mCons (mC (.int 1)) (mNil)))) (mNil))))) (mSeq (mSet 3 (mLRange (mVar 1))) (mSeq (mSet 4 (mLst (mNil))) (mSeq (mForR1 (.nm 5) (mCons (mVar 1) (mNil)) (mSeq (mAppend 4 (mOp2 dIx (mVar 3) (mOp2 dIx (mVar 2) (mVar 5)))) (mSet 3 (mOp2 dAdd (mSl2 (mVar 3) none (some (mOp2 dIx (mVar 2) (mVar 5)))) (mSl2 (mVar 3) (some (mOp2 dAdd (mOp2 dIx (mVar 2) (mVar 5)) (mC (.int 1)))) none))))) (mRet (mVar 4)))))
noncomputable def F__law_order : Fm := runF 2 6 m__law_order
end KG

namespace L2
open PySem PySem.Spec PyProof.Rows
variable {en : En}
/-! ### more of the mirror's steps -/
@[simp] theorem s_tru (m : M SV) : mTru m en = match mfrz m en with
  | .ok sv e => (match look e sv with
    | some d => (match truD d with
      | some b => .ok b e
      | none => .stuck)
    | none => .stuck)
  | .exc x e => .exc x e
  | .stuck => .stuck := by
  unfold mTru
  rw [s_bind]
  cases mfrz m en with
  | ok a e => first | rfl | (dsimp only; cases look e a <;> first | rfl | (rename_i d; dsimp only; cases truD d <;> rfl))
  | exc _ _ => rfl
  | stuck => rfl
@[simp] theorem s_tru_b (b : Bool) : truD (.bool b) = some b := rfl
@[simp] theorem s_tru_l (ds : List D) : truD (.list ds) = some (!ds.isEmpty) := rfl
@[simp] theorem s_tru_t (ds : List D) : truD (.tuple ds) = some (!ds.isEmpty) := rfl
@[simp] theorem s_for (tg : Tg) (wb : List Nat) (me : M SV) (body : M Ct) : mFor tg wb me body en = match mfrz me en with
  | .ok (.d (.list ds)) e => forGo tg none body ds e
  | .ok (.d (.tuple ds)) e => forGo tg none body ds e
  | .ok (.d (.str z)) e => forGo tg none body (L2.signs z) e
  | .ok (.bor i) e => (match e[i]? with
    | some (some (.own (.lst ds))) => if (tg.slots ++ wb).contains i then .stuck else forGo tg (some (i, ds)) body ds e
    | _ => .stuck)
  | .exc x e => .exc x e
  | _ => .stuck := by
  unfold mFor
  rw [s_bind]
  cases mfrz me en with
  | ok sv e => cases sv with
    | d d => cases d <;> rfl
    | bor _ => rfl
    | own _ => rfl
  | exc _ _ => rfl
  | stuck => rfl
@[simp] theorem s_lcR (tg : Tg) (vs : List Nat) (mas : M (List SV)) (mc : M Bool) (me : M SV) : mLcR tg vs mas mc me en = match mas en with
  | .ok svs e => (match looks e svs with
    | some [.int j] => if -(2 ^ 62) ≤ j ∧ j < 2 ^ 62 then mComp tg vs mc me (rngD 0 j.toNat) e else .stuck
    | _ => .stuck)
  | .exc x e => .exc x e
  | .stuck => .stuck := by
  unfold mLcR
  rw [s_bind]
  cases mas en <;> rfl
@[simp] theorem s_lcE (tg : Tg) (vs : List Nat) (mi : M SV) (mc : M Bool) (me : M SV) : mLcE tg vs mi mc me en = match mfrz mi en with
  | .ok (.d (.tuple ds)) e => mComp tg vs mc me (enumD ds) e
  | .exc x e => .exc x e
  | _ => .stuck := by
  unfold mLcE
  rw [s_bind]
  cases mfrz mi en with
  | ok sv e => cases sv with
    | d d => cases d <;> rfl
    | bor _ => rfl
    | own _ => rfl
  | exc _ _ => rfl
  | stuck => rfl
@[simp] theorem s_sortSetI (m : M SV) : mSortSetI m en = match mfrz m en with
  | .ok sv e => (match look e sv with
    | some d => (match siD d with
      | some is => .ok (.own (.lst (is.map .int))) e
      | none => .stuck)
    | none => .stuck)
  | .exc x e => .exc x e
  | .stuck => .stuck := by
  unfold mSortSetI
  rw [s_bind]
  cases mfrz m en with
  | ok a e => first | rfl | (dsimp only; cases look e a <;> first | rfl | (rename_i d; dsimp only; cases siD d <;> rfl))
  | exc _ _ => rfl
  | stuck => rfl
@[simp] theorem s_lrange (m : M SV) : mLRange m en = match mfrz m en with
  | .ok sv e => (match look e sv with
    | some (.int j) => if -(2 ^ 62) ≤ j ∧ j ≤ 2 ^ 20 then .ok (.own (.lst (rngD 0 j.toNat))) e else .stuck
    | _ => .stuck)
  | .exc x e => .exc x e
  | .stuck => .stuck := by
  unfold mLRange
  rw [s_bind]
  cases mfrz m en with
  | ok a e => first | rfl | (dsimp only; cases look e a <;> first | rfl | (rename_i d; cases d <;> rfl))
  | exc _ _ => rfl
  | stuck => rfl
@[simp] theorem s_expr (m : M SV) : mExpr m en = match m en with
  | .ok _ e => .ok .nx e
  | .exc x e => .exc x e
  | .stuck => .stuck := by
  unfold mExpr
  rw [s_bind]
  cases m en <;> rfl
theorem s_slH {ma mh : M SV} {x : D} {j : Int} {e1 e2 : En} {sv : SV} (h1 : mfrz ma en = .ok sv e1) (h2 : mfrz mh e1 = .ok (.d (.int j)) e2) (hx : look e2 sv = some x) : mSl2 ma none (some mh) en = dSl x none (some j) e2 := by
  unfold mSl2
  rw [s_bind, h1]
  dsimp only
  rw [s_bind, h2]
  dsimp only
  rw [hx]
  rfl
theorem s_slL {ma ml : M SV} {x : D} {j : Int} {e1 e2 : En} {sv : SV} (h1 : mfrz ma en = .ok sv e1) (h2 : mfrz ml e1 = .ok (.d (.int j)) e2) (hx : look e2 sv = some x) : mSl2 ma (some ml) none en = dSl x (some j) none e2 := by
  unfold mSl2
  rw [s_bind, h1]
  dsimp only
  rw [s_bind, h2]
  dsimp only
  rw [hx]
  rfl
theorem s_slLH {ma ml mh : M SV} {x : D} {i j : Int} {e1 e2 e3 : En} {sv : SV} (h1 : mfrz ma en = .ok sv e1) (h2 : mfrz ml e1 = .ok (.d (.int i)) e2) (h3 : mfrz mh e2 = .ok (.d (.int j)) e3) (hx : look e3 sv = some x) : mSl2 ma (some ml) (some mh) en = dSl x (some i) (some j) e3 := by
  unfold mSl2
  rw [s_bind, h1]
  dsimp only
  rw [s_bind, h2]
  dsimp only
  rw [s_look_d]
  dsimp only
  rw [s_bind, h3]
  dsimp only
  rw [hx]
  rfl
@[simp] theorem s_mulL (ds : List D) (k : Int) : dMulL (.list ds) (.int k) en = if (-(2 ^ 63) ≤ k ∧ k < 2 ^ 63) ∧ ds.length * k.toNat ≤ sizeLine then Rs.ok (SV.own (OB.lst (repD ds k.toNat))) en else Rs.stuck := by
  show (if (-(2 ^ 63) ≤ k ∧ k < 2 ^ 63) ∧ ds.length * k.toNat ≤ sizeLine then (mpure (SV.own (OB.lst (repD ds k.toNat))) : M SV) else mstuck) en = _
  split <;> rfl
@[simp] theorem s_add_l (xs ys : List D) : dAdd (.list xs) (.list ys) en = if xs.length + ys.length ≤ sizeLine then Rs.ok (SV.own (OB.lst (xs ++ ys))) en else Rs.stuck := by
  show (if xs.length + ys.length ≤ sizeLine then (mpure (SV.own (OB.lst (xs ++ ys))) : M SV) else mstuck) en = _
  split <;> rfl
@[simp] theorem s_dInK (x y : D) : dInK x y en = match inK x y with
  | some b => .ok (.d (.bool b)) en
  | none => .stuck := rfl
@[simp] theorem s_dNinK (x y : D) : dNinK x y en = match inK x y with
  | some b => .ok (.d (.bool !b)) en
  | none => .stuck := by
  unfold dNinK bvD
  cases inK x y <;> rfl
@[simp] theorem s_dIn (x y : D) : dIn x y en = match inD x y with
  | some b => .ok (.d (.bool b)) en
  | none => .stuck := rfl
@[simp] theorem s_dNin (x y : D) : dNin x y en = match inD x y with
  | some b => .ok (.d (.bool !b)) en
  | none => .stuck := by
  unfold dNin bvD
  cases inD x y <;> rfl
@[simp] theorem s_dGe_i (a b : Int) : dGe (.int a) (.int b) = mpure (.d (.bool (decide (b ≤ a)))) := rfl
@[simp] theorem s_dList_l (ds : List D) : dList (.list ds) = mpure (.own (.lst ds)) := rfl
@[simp] theorem s_dList_t (ds : List D) : dList (.tuple ds) = mpure (.own (.lst ds)) := rfl
@[simp] theorem s_dTuple_l (ds : List D) : dTuple (.list ds) = mpure (.d (.tuple ds)) := rfl
@[simp] theorem s_dAbs (i : Int) : dAbs (.int i) = mpure (.d (.int (if i < 0 then -i else i))) := rfl
@[simp] theorem s_dRepr (x : D) : dRepr x en = match reprD x with
  | some z => .ok (.d (.str z)) en
  | none => .stuck := by
  unfold dRepr ivD
  cases reprD x <;> rfl
theorem seq_ok {m n : M Ct} {e : En} (h : m en = .ok .nx e) : mSeq m n en = n e := by rw [s_seq, h]
theorem call_d {F : Fm} {mas : M (List SV)} {svs : List SV} {e e2 : En} {ds : List D} {d : D} (h1 : mas en = .ok svs e) (h2 : looksA e svs = some ds) (h3 : F ds = .ok (.d d) e2) (hf : flat d = true) : mCall F mas en = .ok (.d d) e := by
  rw [s_call, h1]
  dsimp only
  rw [h2]
  dsimp only
  rw [h3]
  dsimp only
  rw [if_pos hf]
theorem call_own {F : Fm} {mas : M (List SV)} {svs : List SV} {e e2 : En} {ds : List D} {o : OB} (h1 : mas en = .ok svs e) (h2 : looksA e svs = some ds) (h3 : F ds = .ok (.own o) e2) (hf : flatO o = true) : mCall F mas en = .ok (.own o) e := by
  rw [s_call, h1]
  dsimp only
  rw [h2]
  dsimp only
  rw [h3]
  dsimp only
  rw [if_pos hf]
theorem frz_own {m : M SV} {e : En} {ds : List D} (h : m en = .ok (.own (.lst ds)) e) : mfrz m en = .ok (.d (.list ds)) e := by rw [s_frz, h]
theorem frz_d {m : M SV} {e : En} {d : D} (h : m en = .ok (.d d) e) : mfrz m en = .ok (.d d) e := by rw [s_frz, h]
theorem set_own {i : Nat} {m : M SV} {e : En} {o : OB} (h : m en = .ok (.own o) e) : mSet i m en = .ok .nx (e.set i (some (.own o))) := by rw [s_set, h]
theorem set_d {i : Nat} {m : M SV} {e : En} {d : D} (h : m en = .ok (.d d) e) : mSet i m en = .ok .nx (e.set i (some (.d d))) := by rw [s_set, h]
theorem append_ok {i : Nat} {m : M SV} {e : En} {d : D} {ds0 ds : List D} (h0 : en[i]? = some (some (.own (.lst ds0)))) (h : mkeep m en = .ok (.d d) e) (h1 : e[i]? = some (some (.own (.lst ds)))) (hl : ds.length < sizeLine) : mAppend i m en = .ok .nx (e.set i (some (.own (.lst (ds ++ [d]))))) := by
  rw [s_append, s_mut, h0]
  dsimp only
  rw [h]
  dsimp only
  rw [h1]
  dsimp only
  rw [s_fapp, if_pos hl]
theorem cons_ok {m : M SV} {r : M (List SV)} {a : SV} {as : List SV} {e e2 : En} (h1 : mfrz m en = .ok a e) (h2 : r e = .ok as e2) (hl : lentOk e2 a = true) : mCons m r en = .ok (a :: as) e2 := by
  rw [s_cons, h1]
  dsimp only
  rw [h2]
  dsimp only
  rw [if_pos hl]
theorem callD_ok {f : List D → M SV} {mas : M (List SV)} {svs : List SV} {ds : List D} {e : En} (h1 : mas en = .ok svs e) (h2 : looks e svs = some ds) : mCallD f mas en = f ds e := by
  rw [s_callD, h1]
  dsimp only
  rw [h2]
theorem op2_ok {f : D → D → M SV} {ma mb : M SV} {a b : SV} {x y : D} {e1 e2 : En} (h1 : mfrz ma en = .ok a e1) (h2 : mfrz mb e1 = .ok b e2) (hx : look e2 a = some x) (hy : look e2 b = some y) : mOp2 f ma mb en = f x y e2 := by
  rw [s_op2, h1]
  dsimp only
  rw [h2]
  dsimp only
  rw [hx, hy]
/-! ### lists of ints and what is in them -/
theorem isFlat_ints (xs : List Int) : (xs.map PyData.int).all isFlat = true := by
  rw [List.all_eq_true]
  intro d m
  obtain ⟨i, _, rfl⟩ := List.mem_map.mp m
  rfl
theorem any_ints (xs : List Int) (k : Int) : ((xs.map PyData.int).any fun d => PyData.eqv d (.int k)) = decide (k ∈ xs) := by
  induction xs with
  | nil => rfl
  | cons x r ih =>
    rw [List.map_cons, List.any_cons, ih]
    have e : PyData.eqv (.int x) (.int k) = decide (x = k) := by
      simp only [PyData.eqv]
      rfl
    rw [e, Bool.eq_iff_iff, Bool.or_eq_true, decide_eq_true_eq, decide_eq_true_eq, decide_eq_true_eq, List.mem_cons]
    exact or_congr eq_comm Iff.rfl
@[simp] theorem inD_l (xs : List Int) (k : Int) : inD (.int k) (.list (xs.map .int)) = some (decide (k ∈ xs)) := by
  show (if isFlat (.int k) = true ∧ (xs.map PyData.int).all isFlat = true then some ((xs.map PyData.int).any fun d => PyData.eqv d (.int k)) else _) = _
  rw [if_pos ⟨rfl, isFlat_ints xs⟩, any_ints]
@[simp] theorem inD_t (xs : List Int) (k : Int) : inD (.int k) (.tuple (xs.map .int)) = some (decide (k ∈ xs)) := by
  show (if isFlat (.int k) = true ∧ (xs.map PyData.int).all isFlat = true then some ((xs.map PyData.int).any fun d => PyData.eqv d (.int k)) else _) = _
  rw [if_pos ⟨rfl, isFlat_ints xs⟩, any_ints]
/-- a comprehension over embedded items -/
theorem compGo_emb {α : Type} {f : α → D} {tg : Tg} {mc : M Bool} {me : M SV} {en0 : En} {p : α → Bool} {g : α → D} : ∀ (xs : List α) (acc : List D), (∀ x ∈ xs, ∃ en1, setTg tg (f x) en0 = some en1 ∧ mc en1 = .ok (p x) en1 ∧ (p x = true → mkeep me en1 = .ok (.d (g x)) en1)) → acc.length + xs.length ≤ sizeLine →
    compGo tg mc me en0 (xs.map f) acc = some (acc ++ (xs.filter p).map g)
  | [], acc, _, _ => by simp [compGo]
  | x :: r, acc, h, l => by
    obtain ⟨en1, h1, h2, h3⟩ := h x List.mem_cons_self
    have l2 : acc.length < sizeLine := by simp at l; omega
    rw [List.map_cons]
    unfold compGo
    simp only [h1]
    cases e : p x with
    | false =>
      simp only [h2, e, if_true]
      rw [compGo_emb r _ (fun x m => h x (List.mem_cons_of_mem _ m)) (by simp at l ⊢; omega)]
      simp [e]
    | true =>
      simp only [h2, e, if_true, h3 e, true_and, l2]
      rw [compGo_emb r _ (fun x m => h x (List.mem_cons_of_mem _ m)) (by simp at l ⊢; omega)]
      simp [e]
theorem comp_emb {α : Type} {f : α → D} {tg : Tg} {vs : List Nat} {mc : M Bool} {me : M SV} {p : α → Bool} {g : α → D} (xs : List α) (hn : noOwn en vs = true) (h : ∀ x ∈ xs, ∃ en1, setTg tg (f x) (wipeEn en vs) = some en1 ∧ mc en1 = .ok (p x) en1 ∧ (p x = true → mkeep me en1 = .ok (.d (g x)) en1))
    (hl : xs.length ≤ sizeLine) : mComp tg vs mc me (xs.map f) en = .ok (.own (.lst ((xs.filter p).map g))) en := by
  have z := compGo_emb xs [] h (by simpa using hl)
  rw [List.nil_append] at z
  exact comp_ok hn z
/-- all of bools -/
theorem bools_map (bs : List Bool) : bools (bs.map .bool) = some bs := by
  induction bs with
  | nil => rfl
  | cons b r ih => simp only [List.map_cons, bools, ih, Option.map_some]
/-- a for loop over embedded items, nothing but the environment -/
theorem for_step {tg : Tg} {c : Option (Nat × List D)} {body : M Ct} {d : D} {r : List D} {e e1 e2 : En} (hc : chkOk c e = true) (h1 : setTg tg d e = some e1) (h2 : body e1 = .ok .nx e2) : forGo tg c body (d :: r) e = forGo tg c body r e2 := by
  rw [forGo, if_pos hc, h1]
  dsimp only
  rw [h2]
theorem for_bk {tg : Tg} {c : Option (Nat × List D)} {body : M Ct} {d : D} {r : List D} {e e1 e2 : En} (hc : chkOk c e = true) (h1 : setTg tg d e = some e1) (h2 : body e1 = .ok .bk e2) : forGo tg c body (d :: r) e = .ok .nx e2 := by
  rw [forGo, if_pos hc, h1]
  dsimp only
  rw [h2]
theorem for_nil {tg : Tg} {c : Option (Nat × List D)} {body : M Ct} {e : En} (hc : chkOk c e = true) : forGo tg c body [] e = .ok .nx e := by
  rw [forGo, if_pos hc]
theorem wh_step {n : Nat} {t : M Bool} {b : M Ct} {e e1 e2 : En} (h1 : t e = .ok true e1) (h2 : b e1 = .ok .nx e2) : whGo t b (n + 1) e = whGo t b n e2 := by
  rw [whGo, h1]
  dsimp only
  rw [h2]
theorem wh_end {n : Nat} {t : M Bool} {b : M Ct} {e e1 : En} (h1 : t e = .ok false e1) : whGo t b (n + 1) e = .ok .nx e1 := by
  rw [whGo, h1]
end L2

namespace KG
open PySem PySem.Spec PyProof.Rows L2
/-! ### graphs and what is listed, without the language -/
abbrev Gr := List (List Int)
def rngI (n : Nat) : List Int := (List.range n).map fun k => ((k : Nat) : Int)
theorem mem_rng {n : Nat} {k : Int} : k ∈ rngI n ↔ 0 ≤ k ∧ k < n := by
  unfold rngI
  rw [List.mem_map]
  constructor
  · rintro ⟨a, m, rfl⟩
    have := List.mem_range.mp m
    omega
  · intro h
    exact ⟨k.toNat, List.mem_range.mpr (by omega), by omega⟩
theorem rng_asc (n : Nat) : (rngI n).Pairwise (· < ·) := by
  unfold rngI
  rw [List.pairwise_map]
  exact List.pairwise_lt_range.imp fun h => by omega
theorem rng_nodup (n : Nat) : (rngI n).Nodup := (rng_asc n).imp fun h => by omega
theorem rng_len (n : Nat) : (rngI n).length = n := by simp [rngI]
theorem rngD_rng (n : Nat) : rngD 0 n = (rngI n).map .int := by
  unfold rngD rngI
  rw [List.map_map]
  exact List.map_congr_left fun k _ => by simp
structure GOk (g : Gr) : Prop where
  few : g.length ≤ 62
  asc : ∀ r ∈ g, r.Pairwise (· < ·)
  low : ∀ (i : Nat) (r : List Int), g[i]? = some r → ∀ x ∈ r, 0 ≤ x ∧ x < i
def rowOf (g : Gr) (k : Int) : List Int := g.getD k.toNat []
def isFr (g : Gr) (done : List Int) (k : Int) : Bool := (rowOf g k).all fun p => decide (p ∈ done)
theorem isFr_iff {g : Gr} {done : List Int} {k : Int} : isFr g done k = true ↔ ∀ p ∈ rowOf g k, p ∈ done := by
  unfold isFr
  rw [List.all_eq_true]
  exact ⟨fun h p m => of_decide_eq_true (h p m), fun h p m => decide_eq_true (h p m)⟩
theorem row_low {g : Gr} (G : GOk g) {k p : Int} (h0 : 0 ≤ k) (m : p ∈ rowOf g k) : 0 ≤ p ∧ p < k := by
  unfold rowOf at m
  rw [List.getD_eq_getElem?_getD] at m
  cases e : g[k.toNat]? with
  | none => rw [e] at m; simp at m
  | some r =>
    rw [e] at m
    have := G.low _ _ e p (by simpa using m)
    omega
/-- what listed takes in a step -/
def pkStep (g : Gr) (c : Nat) (done left : List Int) : List Int := (left.filter (isFr g done)).take c
def pk (g : Gr) (c : Nat) : Nat → List Int → List Int → List (List Int)
  | 0, _, _ => []
  | n + 1, done, left => if left = [] then [] else sortI (pkStep g c done left) :: pk g c n (done ++ pkStep g c done left) (left.filter fun k => !decide (k ∈ done ++ pkStep g c done left))
def lwFree (g : Gr) (done : List Int) : List Int := (rngI g.length).filter fun k => !decide (k ∈ done) && isFr g done k
def lwStep (g : Gr) (c : Nat) (order done : List Int) : List Int := (order.filter fun k => decide (k ∈ lwFree g done)).take c
def lw (g : Gr) (c : Nat) (order : List Int) : Nat → List Int → List (List Int)
  | 0, _ => []
  | n + 1, done => if lwFree g done = [] then [] else ((rngI g.length).filter fun k => decide (k ∈ lwStep g c order done)) :: lw g c order n (done ++ lwStep g c order done)
/-- a row of all nodes -/
structure Ord (n : Nat) (o : List Int) : Prop where
  nd : o.Nodup
  mem : ∀ k, k ∈ o ↔ 0 ≤ k ∧ k < n
theorem Ord.len {n : Nat} {o : List Int} (O : Ord n o) : o.length = n := by
  have p : o.Perm (rngI n) := (List.perm_ext_iff_of_nodup O.nd (rng_nodup n)).mpr fun k => (O.mem k).trans mem_rng.symm
  rw [p.length_eq, rng_len]
theorem min_of : ∀ (l : List Int), l ≠ [] → ∃ k ∈ l, ∀ j ∈ l, k ≤ j
  | [], h => absurd rfl h
  | [x], _ => ⟨x, List.mem_cons_self, fun j m => by rw [List.mem_singleton.mp m]; exact Int.le_refl _⟩
  | x :: y :: r, _ => by
    obtain ⟨k, m, h⟩ := min_of (y :: r) (by simp)
    by_cases e : x ≤ k
    · exact ⟨x, List.mem_cons_self, fun j mj => by
        rcases List.mem_cons.mp mj with rfl | mj
        · exact Int.le_refl _
        · exact Int.le_trans e (h j mj)⟩
    · exact ⟨k, List.mem_cons_of_mem _ m, fun j mj => by
        rcases List.mem_cons.mp mj with rfl | mj
        · omega
        · exact h j mj⟩
theorem take_sub {α : Type} {l : List α} {c : Nat} {x : α} (m : x ∈ l.take c) : x ∈ l := List.mem_of_mem_take m
section
variable {g : Gr} {c : Nat} {order done : List Int}
theorem step_eq (O : Ord g.length order) : lwStep g c order done = pkStep g c done (order.filter fun k => !decide (k ∈ done)) := by
  unfold lwStep pkStep
  rw [List.filter_filter]
  congr 1
  refine List.filter_congr fun k m => ?_
  rw [Bool.eq_iff_iff]
  simp only [decide_eq_true_eq, Bool.and_eq_true, lwFree, List.mem_filter, mem_rng, Bool.not_eq_true', decide_eq_false_iff_not]
  have := (O.mem k).mp m
  constructor
  · rintro ⟨_, h1, h2⟩; exact ⟨h2, h1⟩
  · rintro ⟨h2, h1⟩; exact ⟨this, h1, h2⟩
theorem step_sub {left : List Int} {k : Int} (m : k ∈ pkStep g c done left) : k ∈ left ∧ isFr g done k = true := List.mem_filter.mp (take_sub m)
theorem step_nodup {left : List Int} (nd : left.Nodup) : (pkStep g c done left).Nodup := (nd.filter _).sublist (List.take_sublist _ _)
/-- there is always one that is ready -/
theorem some_free (G : GOk g) (O : Ord g.length order) (hl : (order.filter fun k => !decide (k ∈ done)) ≠ []) : ∃ k, k ∈ (order.filter fun k => !decide (k ∈ done)) ∧ isFr g done k = true := by
  obtain ⟨k, m, h⟩ := min_of _ hl
  refine ⟨k, m, isFr_iff.mpr fun p mp => ?_⟩
  have mk := List.mem_filter.mp m
  have rk := (O.mem k).mp mk.1
  have lp := row_low G rk.1 mp
  refine Classical.byContradiction fun n => ?_
  have mp' : p ∈ order.filter fun k => !decide (k ∈ done) := List.mem_filter.mpr ⟨(O.mem p).mpr ⟨lp.1, by omega⟩, by simp [n]⟩
  have := h p mp'
  omega
theorem step_some (G : GOk g) (O : Ord g.length order) (hc : 1 ≤ c) (hl : (order.filter fun k => !decide (k ∈ done)) ≠ []) : pkStep g c done (order.filter fun k => !decide (k ∈ done)) ≠ [] := by
  obtain ⟨k, m, f⟩ := some_free G O hl
  unfold pkStep
  intro e
  have mk : k ∈ (order.filter fun k => !decide (k ∈ done)).filter (isFr g done) := List.mem_filter.mpr ⟨m, f⟩
  rw [List.take_eq_nil_iff] at e
  rcases e with e | e
  · omega
  · rw [e] at mk; cases mk
theorem left_next {st : List Int} : ((order.filter fun k => !decide (k ∈ done)).filter fun k => !decide (k ∈ done ++ st)) = order.filter fun k => !decide (k ∈ done ++ st) := by
  rw [List.filter_filter]
  refine List.filter_congr fun k _ => ?_
  rw [Bool.eq_iff_iff]
  simp only [Bool.and_eq_true, Bool.not_eq_true', decide_eq_false_iff_not, List.mem_append, not_or]
  exact ⟨fun h => h.1, fun h => ⟨h, h.1⟩⟩
theorem left_less {st : List Int} (hs : st ≠ []) (sub : ∀ k ∈ st, k ∈ order.filter fun k => !decide (k ∈ done)) : (order.filter fun k => !decide (k ∈ done ++ st)).length < (order.filter fun k => !decide (k ∈ done)).length := by
  rw [← left_next]
  obtain ⟨k, mk⟩ := List.exists_mem_of_ne_nil _ hs
  exact List.length_filter_lt_length_iff_exists.mpr ⟨k, sub k mk, by simp [mk]⟩
theorem free_nil (O : Ord g.length order) (hl : (order.filter fun k => !decide (k ∈ done)) = []) : lwFree g done = [] := by
  unfold lwFree
  rw [List.filter_eq_nil_iff]
  intro k m h
  simp only [Bool.and_eq_true, Bool.not_eq_true', decide_eq_false_iff_not] at h
  have mo : k ∈ order := (O.mem k).mpr (mem_rng.mp m)
  have : k ∈ order.filter fun k => !decide (k ∈ done) := List.mem_filter.mpr ⟨mo, by simp [h.1]⟩
  rw [hl] at this
  cases this
theorem free_some (G : GOk g) (O : Ord g.length order) (hl : (order.filter fun k => !decide (k ∈ done)) ≠ []) : lwFree g done ≠ [] := by
  obtain ⟨k, m, f⟩ := some_free G O hl
  intro e
  have mk := List.mem_filter.mp m
  have : k ∈ lwFree g done := by
    unfold lwFree
    exact List.mem_filter.mpr ⟨mem_rng.mpr ((O.mem k).mp mk.1), by simpa [f] using mk.2⟩
  rw [e] at this
  cases this
theorem asc_eq {n : Nat} {st : List Int} (nd : st.Nodup) (h : ∀ k ∈ st, 0 ≤ k ∧ k < n) : sortI st = (rngI n).filter fun k => decide (k ∈ st) :=
  (sortI_uniq ((rng_asc n).filter _) fun k => by
    rw [List.mem_filter, mem_rng, decide_eq_true_eq]
    exact ⟨fun x => x.2, fun x => ⟨h k x, x⟩⟩).symm
theorem pk_lw (G : GOk g) (O : Ord g.length order) (hc : 1 ≤ c) : ∀ (m m1 : Nat) (done : List Int), (order.filter fun k => !decide (k ∈ done)).length ≤ m → (order.filter fun k => !decide (k ∈ done)).length < m1 →
    pk g c m1 done (order.filter fun k => !decide (k ∈ done)) = lw g c order m done := by
  intro m
  induction m with
  | zero =>
    intro m1 done h1 h2
    have e : (order.filter fun k => !decide (k ∈ done)) = [] := List.length_eq_zero_iff.mp (by omega)
    rw [e]
    cases m1 with
    | zero => rfl
    | succ m1 => rfl
  | succ m ih =>
    intro m1 done h1 h2
    cases m1 with
    | zero => omega
    | succ m1 =>
      by_cases e : (order.filter fun k => !decide (k ∈ done)) = []
      · rw [e, pk, lw, if_pos rfl, if_pos (free_nil O e)]
      · rw [pk, lw, if_neg e, if_neg (free_some G O e), step_eq O]
        have hs := step_some (c := c) G O hc e
        have sub : ∀ k ∈ pkStep g c done (order.filter fun k => !decide (k ∈ done)), k ∈ order.filter fun k => !decide (k ∈ done) := fun k mk => (step_sub mk).1
        have hlt := left_less hs sub
        rw [left_next, ih m1 _ (by omega) (by omega)]
        congr 1
        exact asc_eq (step_nodup (O.nd.filter _)) fun k mk => (O.mem k).mp (List.mem_filter.mp (sub k mk)).1
end
end KG

namespace L2
open PySem PySem.Spec PyProof.Rows
variable {en : En}
theorem eqv_ints (xs ys : List Int) : PyData.eqvAll (xs.map .int) (ys.map .int) = decide (xs = ys) := by
  induction xs generalizing ys with
  | nil => cases ys <;> simp [PyData.eqvAll]
  | cons x r ih =>
    cases ys with
    | nil => simp [PyData.eqvAll]
    | cons y s =>
      simp only [List.map_cons, PyData.eqvAll, ih s, PyData.eqv]
      by_cases h : x = y <;> by_cases g : r = s <;> simp [h, g]
theorem ints_plain (xs : List Int) : plains (xs.map .int) = true := by
  induction xs with
  | nil => rfl
  | cons x r ih => simp [plains, plain, ih]
theorem ints_lay (xs : List Int) : PyData.canLayAll0 (xs.map .int) = true := by
  induction xs with
  | nil => simp [PyData.canLayAll0]
  | cons x r ih => simp [PyData.canLayAll0, PyData.canLay0, ih]
theorem ints_depth (xs : List Int) : PyData.depthAll (xs.map .int) = 0 := by
  induction xs with
  | nil => simp [PyData.depthAll]
  | cons x r ih => simp [PyData.depthAll, PyData.depth, ih]
theorem ints_shaped (xs : List Int) : SeqAt.shaped (.list (xs.map .int)) = true := by
  simp [SeqAt.shaped, PyData.canLay0, ints_lay, PyData.depth, ints_depth]
theorem eq_ints (xs ys : List Int) : eqD (.list (xs.map .int)) (.list (ys.map .int)) = some (decide (xs = ys)) := by
  have e1 : scalD (.list (xs.map .int)) (.list (ys.map .int)) = none := rfl
  unfold eqD
  rw [e1]
  have c : plain (.list (xs.map .int)) = true ∧ plain (.list (ys.map .int)) = true ∧ SeqAt.shaped (.list (xs.map .int)) = true ∧ SeqAt.shaped (.list (ys.map .int)) = true := ⟨by simp [plain, ints_plain], by simp [plain, ints_plain], ints_shaped _, ints_shaped _⟩
  simp only [c, and_self, if_true]
  congr 1
  rw [show PyData.eqv (.list (xs.map .int)) (.list (ys.map .int)) = PyData.eqvAll (xs.map .int) (ys.map .int) by simp [PyData.eqv]]
  exact eqv_ints xs ys
theorem flats_ints (xs : List Int) : flats (xs.map .int) = true := by
  induction xs with
  | nil => rfl
  | cons x r ih => simp [flats, flat, ih]
theorem run_nx {n N : Nat} {body : M Ct} {ds : List D} {e : En} (hl : ds.length = n) (h : body (ds.map (fun d => some (SV.d d)) ++ List.replicate (N - n) none) = .ok .nx e) : runF n N body ds = .ok (.d .none) [] := by
  unfold runF
  rw [if_pos hl, h]
theorem len_emb {α : Type} (f : α → D) (xs : List α) : ((xs.map f).length : Int) = (xs.length : Int) := by rw [List.length_map]
end L2
namespace KG
open PySem PySem.Spec PyProof.Rows L2
def rowD (r : List Int) : D := .tuple (r.map .int)
def gD (g : Gr) : D := .tuple (g.map rowD)
theorem flat_row (r : List Int) : flat (rowD r) = true := flats_ints r
theorem flats_rows (g : Gr) : flats (g.map rowD) = true := by
  induction g with
  | nil => rfl
  | cons r g ih =>
    rw [List.map_cons]
    show (flat (rowD r) && flats (g.map rowD)) = true
    rw [flat_row, ih]
    rfl
theorem flat_g (g : Gr) : flat (gD g) = true := flats_rows g
theorem asc_len {n : Nat} {r : List Int} (asc : r.Pairwise (· < ·)) (low : ∀ x ∈ r, 0 ≤ x ∧ x < n) : r.length ≤ n := by
  have e := asc_eq (n := n) (asc.imp fun h => by omega) low
  rw [sortI_self asc] at e
  rw [e]
  refine Nat.le_trans (List.length_filter_le _ _) ?_
  rw [rng_len]
  exact Nat.le_refl _
theorem isint_ok (x : Int) : F_is_integer [.int x] = .ok (.d (.bool true)) [] := by
  unfold F_is_integer m_is_integer
  rfl
theorem row_ok {r : List Int} {i : Int} (hl : r.length ≤ 62) (asc : r.Pairwise (· < ·)) (low : ∀ x ∈ r, 0 ≤ x ∧ x < i) : F_is_row [rowD r, .int i] = .ok (.d (.bool true)) [] := by
  have hz := sizeLine_ge
  have hc : mComp (.nm 2) [2] mYes (mBV (mAndT (mB (mCall F_is_integer (mCons (mVar 2) (mNil)))) (mB (mChain dLe dLt (mC (.int 0)) (mVar 2) (mVar 1))))) (r.map .int) [some (.d (rowD r)), some (.d (.int i)), none] = .ok (.own (.lst ((r.map fun _ => true).map .bool))) [some (.d (rowD r)), some (.d (.int i)), none] := by
    rw [comp_emb (f := PyData.int) (p := fun _ => true) (g := fun _ => .bool true) r rfl (fun x m => ?_) (by omega)]
    · rw [List.filter_eq_self.mpr fun _ _ => rfl, List.map_map]
      rfl
    · refine ⟨[some (.d (rowD r)), some (.d (.int i)), some (.d (.int x))], rfl, rfl, fun _ => ?_⟩
      obtain ⟨h0, h1⟩ := low x m
      simp [isint_ok, flat, h0, h1]
  have hs : siD (rowD r) = some r := by
    unfold rowD
    show (match intsOf (r.map .int) with
      | some is => if is.length ≤ 62 then some (sortI is) else none
      | none => none) = _
    rw [intsOf_map]
    simp only [hl, if_true, sortI_self asc]
  refine run_ok rfl (e := [some (.d (rowD r)), some (.d (.int i)), none]) ?_
  have ht : isiD .tTuple (rowD r) = some true := rfl
  have hall : (r.map fun _ => true).all id = true := by simp
  have hr : dList (rowD r) = mpure (.own (.lst (r.map .int))) := rfl
  unfold m_is_row
  simp only [s_seq, s_ifS, s_notT, s_B, s_isi, s_frz, s_var, s_look_d, s_bv, ht, List.map_cons, List.map_nil, List.cons_append, List.nil_append, List.getElem?_cons_zero, List.getElem?_cons_succ, List.replicate, Bool.not_true, s_nx, s_callD, s_cons, s_nil, s_lc]
  have e0 : rowD r = .tuple (r.map .int) := rfl
  simp only [e0] at hc ⊢
  simp only [show (3 - 2 : Nat) = 1 from rfl, List.replicate, hc, s_lent_d, if_true, s_looks_cons, s_looks_nil, s_look_d, s_d1, dAll_bools, hall, s_pure, Bool.not_true, s_ret, s_op2, s_frz, s_callD, s_cons, s_nil, s_var, List.getElem?_cons_zero, s_dList_t, s_sortSetI, s_dEq]
  rw [← e0, hs]
  simp only [s_look_d, eq_ints, decide_true]
/-- is_graph -/
theorem enum_emb (g : Gr) : enumD (g.map rowD) = g.zipIdx.map fun p => .tuple [.int p.2, rowD p.1] := by
  unfold enumD
  rw [List.zipIdx_map, List.map_map]
  rfl
theorem graph_ok {g : Gr} (G : GOk g) : F_is_graph [gD g] = .ok (.d (.bool true)) [] := by
  have hz := sizeLine_ge
  have hc : mComp (.tp [1, 2]) [1, 2] mYes (mCall F_is_row (mCons (mVar 2) (mCons (mVar 1) (mNil)))) (enumD (g.map rowD)) [some (.d (gD g)), none, none] = .ok (.own (.lst ((g.zipIdx.map fun _ => true).map .bool))) [some (.d (gD g)), none, none] := by
    rw [enum_emb, comp_emb (f := fun p : List Int × Nat => PyData.tuple [.int p.2, rowD p.1]) (p := fun _ => true) (g := fun _ => .bool true) g.zipIdx rfl (fun p m => ?_) (by rw [List.length_zipIdx]; have := G.few; omega)]
    · rw [List.filter_eq_self.mpr fun _ _ => rfl, List.map_map]
      rfl
    · obtain ⟨r, i⟩ := p
      have hi : g[i]? = some r := by
        have := List.mem_zipIdx_iff_getElem?.mp m
        exact this
      have hlen : i < g.length := (List.getElem?_eq_some_iff.mp hi).1
      have hg := G.few
      have asc := G.asc r (List.mem_of_getElem? hi)
      have low := G.low i r hi
      have few : r.length ≤ 62 := by
        have := asc_len asc low
        omega
      refine ⟨[some (.d (gD g)), some (.d (.int i)), some (.d (rowD r))], rfl, rfl, fun _ => ?_⟩
      have hr := row_ok (i := (i : Int)) few asc low
      simp only [s_keep, s_call, s_cons, s_frz, s_var, List.getElem?_cons_zero, List.getElem?_cons_succ, s_nil, s_lent_d, if_true, s_looksA_cons, s_looksA_nil, s_lookA_d, hr, flat]
  have hall : (g.zipIdx.map fun _ => true).all id = true := by simp
  refine run_ok rfl (e := [some (.d (gD g)), none, none]) ?_
  have ht : isiD .tTuple (gD g) = some true := rfl
  have e0 : gD g = .tuple (g.map rowD) := rfl
  unfold m_is_graph
  simp only [e0] at hc ht ⊢
  simp only [s_ret, s_BV, s_andT, s_B, s_isi, s_frz, s_var, List.map_cons, List.map_nil, List.cons_append, List.nil_append, List.getElem?_cons_zero, show (3 - 1 : Nat) = 2 from rfl, List.replicate, s_look_d, s_bv, ht, s_callD, s_cons, s_nil, s_lcE, hc, s_lent_d, if_true, s_looks_cons, s_looks_nil, s_d1, dAll_bools, hall, s_pure]
theorem check_ok {g : Gr} (G : GOk g) : F_check_graph [gD g] = .ok (.d .none) [] := by
  have hg := graph_ok G
  refine run_nx rfl (e := [some (.d (gD g))]) ?_
  unfold m_check_graph
  simp only [List.map_cons, List.map_nil, List.cons_append, List.nil_append, show (1 - 1 : Nat) = 0 from rfl, List.replicate, s_ifS, s_notT, s_B, s_call, s_cons, s_frz, s_var, List.getElem?_cons_zero, s_nil, s_lent_d, if_true, s_looksA_cons, s_looksA_nil, s_lookA_d, hg, flat, Bool.not_true, s_nx]
end KG

namespace L2
open PySem PySem.Spec PyProof.Rows
theorem cut_take (ds : List D) {c : Int} (h : 0 ≤ c) : L2.cutD ds none (some c) = ds.take c.toNat := by
  unfold L2.cutD
  have e1 : HT.sIx ds.length 0 none = 0 := rfl
  have e2 : HT.sIx ds.length ds.length (some c) = min c.toNat ds.length := by
    show (if c < 0 then (c + (ds.length : Int)).toNat else min c.toNat ds.length) = _
    rw [if_neg (by omega)]
  rw [e1, e2, List.drop_zero, Nat.sub_zero]
  by_cases hc : c.toNat ≤ ds.length
  · rw [Nat.min_eq_left hc]
  · rw [Nat.min_eq_right (by omega), List.take_length, List.take_of_length_le (by omega)]
theorem sortInts_sortI {xs : List Int} (nd : xs.Nodup) : sortInts xs = sortI xs := by
  have p : (sortInts xs).Perm xs := List.mergeSort_perm _ _
  refine sortI_uniq ?_ fun k => p.mem_iff
  have h1 := sortInts_pw xs
  have h2 : (sortInts xs).Nodup := p.nodup_iff.mpr nd
  exact (h1.and h2).imp fun h => by
    have := h.1
    have := h.2
    omega
theorem intsOf_strs (i : Int) (r : List Int) : strsOf ((i :: r).map .int) = none := rfl
theorem sortD_ints (xs : List Int) : sortD (.list (xs.map .int)) = some ((sortInts xs).map .int) := by
  cases xs with
  | nil =>
    have e1 : sortStrs [] = [] := List.perm_nil.mp (sortStrs_perm [])
    have e2 : sortInts [] = [] := List.perm_nil.mp (List.mergeSort_perm _ _)
    show (if ([] : List Str).length < 64 then some ((sortStrs []).map PyData.str) else none) = _
    rw [if_pos (by decide), e1, e2]
    rfl
  | cons i r =>
    show (match strsOf ((i :: r).map PyData.int) with
      | some xs => if xs.length < 64 then some ((sortStrs xs).map PyData.str) else none
      | none => (match intsOf ((i :: r).map PyData.int) with
        | some ns => some ((sortInts ns).map PyData.int)
        | none => none)) = _
    rw [intsOf_strs, intsOf_map]
theorem s_dSl_l {en : En} (ds : List D) (lo hi : Option Int) : dSl (.list ds) lo hi en = .ok (.own (.lst (L2.cutD ds lo hi))) en := rfl
@[simp] theorem s_dSorted {en : En} (d : D) : dSorted d en = match sortD d with
  | some l => .ok (.own (.lst l)) en
  | none => .stuck := rfl
@[simp] theorem s_upd {en : En} (i : Nat) (me : M SV) : mUpd i me en = match en[i]? with
  | some (some (.own (.dct _))) => (match me en with
    | .ok (.own (.dct more)) e => (match e[i]? with
      | some (some (.own (.dct kds))) => if kds.length + more.length ≤ sizeLine then .ok .nx (e.set i (some (.own (.dct (mergeD kds more))))) else .stuck
      | _ => .stuck)
    | .exc x e => .exc x e
    | _ => .stuck)
  | _ => .stuck := by
  unfold mUpd
  cases en[i]? with
  | none => rfl
  | some o =>
    cases o with
    | none => rfl
    | some s =>
      cases s with
      | d _ => rfl
      | bor _ => rfl
      | own o =>
        cases o with
        | lst _ => rfl
        | dct _ =>
          dsimp only
          rw [s_bind]
          cases me en with
          | exc _ _ => rfl
          | stuck => rfl
          | ok sv e =>
            cases sv with
            | d _ => rfl
            | bor _ => rfl
            | own o =>
              cases o with
              | lst _ => rfl
              | dct more =>
                dsimp only
                cases e[i]? with
                | none => rfl
                | some o => cases o with
                  | none => rfl
                  | some s => cases s with
                    | d _ => rfl
                    | bor _ => rfl
                    | own o => cases o <;> rfl
/-- a dict of ints, each with True -/
def doneK (done : List Int) : List (Key × D) := done.map fun k => (.inl k, .bool true)
theorem doneK_at (done : List Int) : ((doneK done).all fun p => isAt p.2) = true := by
  unfold doneK
  rw [List.all_map]
  exact List.all_eq_true.mpr fun _ _ => rfl
theorem inK_done (done : List Int) (k : Int) : inK (.int k) (dctD (doneK done)) = some (decide (k ∈ done)) := by
  unfold dctD
  show (match keyD (.int k), keysD ((doneK done).map fun p => (kD p.1, p.2)) with
    | some k, some ks => some (ks.any fun j => decide (j = k))
    | _, _ => none) = _
  rw [keysD_map]
  unfold doneK
  rw [List.map_map]
  show some (List.any (List.map _ done) _) = _
  congr 1
  rw [List.any_map, Bool.eq_iff_iff, List.any_eq_true, decide_eq_true_eq]
  constructor
  · rintro ⟨x, m, h⟩
    have h' : (Sum.inl x : Key) = Sum.inl k := of_decide_eq_true h
    injection h' with h'
    exact h' ▸ m
  · intro m
    exact ⟨k, m, decide_eq_true (by rfl)⟩
theorem putD_fresh {kds : List (Key × D)} {k : Key} {d : D} (h : ∀ p ∈ kds, p.1 ≠ k) : putD kds k d = kds ++ [(k, d)] := by
  unfold putD
  rw [if_neg]
  intro c
  obtain ⟨p, mp, e⟩ := List.any_eq_true.mp c
  exact h p mp (of_decide_eq_true e)
theorem doneK_ne {done : List Int} {k : Int} (h : k ∉ done) : ∀ p ∈ doneK done, p.1 ≠ (Sum.inl k : Key) := fun p mp e => by
  obtain ⟨x, mx, rfl⟩ := List.mem_map.mp mp
  have e' : (Sum.inl x : Key) = Sum.inl k := e
  injection e' with e'
  exact h (e' ▸ mx)
theorem merge_done : ∀ (st done : List Int), (done ++ st).Nodup → mergeD (doneK done) (doneK st) = doneK (done ++ st)
  | [], done, _ => by simp [mergeD, doneK]
  | k :: r, done, nd => by
    have hk : k ∉ done := fun m => by
      rw [List.nodup_append] at nd
      exact nd.2.2 k m k List.mem_cons_self rfl
    have e : putD (doneK done) (.inl k) (.bool true) = doneK (done ++ [k]) := by
      rw [putD_fresh (doneK_ne hk)]
      simp [doneK]
    show mergeD (putD (doneK done) (.inl k) (.bool true)) (doneK r) = _
    rw [e, merge_done r (done ++ [k]) (by simpa using nd)]
    simp
theorem dcGo_done {mk mv : M SV} {en0 : En} {tg : Tg} (h : ∀ k : Int, ∃ en1, setTg tg (.int k) en0 = some en1 ∧ mkeep mk en1 = .ok (.d (.int k)) en1 ∧ mkeep mv en1 = .ok (.d (.bool true)) en1) :
    ∀ (st pre : List Int), (pre ++ st).Nodup → pre.length + st.length ≤ sizeLine → dcGo tg mYes mk mv en0 (st.map .int) (doneK pre) = some (doneK (pre ++ st))
  | [], pre, _, _ => by simp [dcGo]
  | k :: r, pre, nd, hl => by
    obtain ⟨en1, h1, h2, h3⟩ := h k
    have e : mYes en1 = .ok true en1 := rfl
    have hlen : (doneK pre).length < sizeLine := by
      unfold doneK
      rw [List.length_map]
      simp at hl
      omega
    have hk : k ∉ pre := fun m => by
      rw [List.nodup_append] at nd
      exact nd.2.2 k m k List.mem_cons_self rfl
    have et : putD (doneK pre) (.inl k) (.bool true) = doneK (pre ++ [k]) := by
      rw [putD_fresh (doneK_ne hk)]
      simp [doneK]
    rw [List.map_cons]
    unfold dcGo
    simp only [h1, e, if_true, h2, h3, keyD, true_and, hlen, et]
    rw [dcGo_done h r (pre ++ [k]) (by simpa using nd) (by simp at hl ⊢; omega)]
    simp
end L2
namespace KG
open PySem PySem.Spec PyProof.Rows L2
theorem ix_row (g : Gr) {k : Int} (h0 : 0 ≤ k) (h1 : k < g.length) : ixD (gD g) (.int k) = some (rowD (rowOf g k)) := by
  show atI (g.map rowD) k = _
  refine atI_at h0 ?_
  have hl : k.toNat < g.length := by omega
  rw [List.getElem?_map, List.getElem?_eq_getElem hl]
  unfold rowOf
  rw [List.getD_eq_getElem?_getD, List.getElem?_eq_getElem hl]
  rfl
theorem row_mem {g : Gr} {k : Int} (h0 : 0 ≤ k) (h1 : k < g.length) : rowOf g k ∈ g := by
  have hl : k.toNat < g.length := by omega
  unfold rowOf
  rw [List.getD_eq_getElem?_getD, List.getElem?_eq_getElem hl]
  exact List.getElem_mem hl
theorem row_few {g : Gr} (G : GOk g) {k : Int} (h0 : 0 ≤ k) (h1 : k < g.length) : (rowOf g k).length ≤ 62 := by
  have := asc_len (n := k.toNat) (G.asc _ (row_mem h0 h1)) fun x m => by
    have := row_low G h0 m
    omega
  have := G.few
  omega
theorem free_ok {g : Gr} (G : GOk g) {done : List Int} {k : Int} (h0 : 0 ≤ k) (h1 : k < g.length) : F_is_free [gD g, dctD (doneK done), .int k] = .ok (.d (.bool (isFr g done k))) [] := by
  have hz := sizeLine_ge
  have hf := row_few G h0 h1
  have hc : mComp (.nm 3) [3] mYes (mOp2 dInK (mVar 3) (mVar 1)) ((rowOf g k).map .int) [some (.d (gD g)), some (.d (dctD (doneK done))), some (.d (.int k)), none] = .ok (.own (.lst (((rowOf g k).map fun p => decide (p ∈ done)).map .bool))) [some (.d (gD g)), some (.d (dctD (doneK done))), some (.d (.int k)), none] := by
    rw [comp_emb (f := PyData.int) (p := fun _ => true) (g := fun p => .bool (decide (p ∈ done))) (rowOf g k) rfl (fun p m => ?_) (by omega)]
    · rw [List.filter_eq_self.mpr fun _ _ => rfl, List.map_map]
      rfl
    · refine ⟨[some (.d (gD g)), some (.d (dctD (doneK done))), some (.d (.int k)), some (.d (.int p))], rfl, rfl, fun _ => ?_⟩
      simp only [s_keep, s_op2, s_frz, s_var, List.getElem?_cons_zero, List.getElem?_cons_succ, s_look_d, s_dInK, inK_done]
  have hi := ix_row g h0 h1
  refine run_ok rfl (e := [some (.d (gD g)), some (.d (dctD (doneK done))), some (.d (.int k)), none]) ?_
  unfold m_is_free
  have e0 : rowD (rowOf g k) = .tuple ((rowOf g k).map .int) := rfl
  simp only [s_ret, s_callD, s_cons, s_frz, s_lc, s_op2, s_var, List.map_cons, List.map_nil, List.cons_append, List.nil_append, List.getElem?_cons_zero, List.getElem?_cons_succ, show (4 - 3 : Nat) = 1 from rfl, List.replicate, s_look_d, s_dIx, hi, e0, hc, s_nil, s_lent_d, if_true, s_looks_cons, s_looks_nil, s_d1, dAll_bools, s_pure]
  congr 4
  unfold isFr
  rw [List.all_map]
  rfl
end KG

namespace KG
open PySem PySem.Spec PyProof.Rows L2
/-- the environment of listed's loop -/
abbrev enL (g : Gr) (c : Int) (od : D) (steps : List (List Int)) (done left : List Int) (s6 : Option SV) : En :=
  [some (.d (gD g)), some (.d (.int c)), some (.d od), some (.own (.lst (steps.map rowD))), some (.own (.dct (doneK done))), some (.own (.lst (left.map .int))), s6, none]
noncomputable abbrev bodyL : M Ct := mSeq (mSet 6 (mSl2 (mLc (.nm 7) [7] (mVar 5) (mB (mCall F_is_free (mCons (mVar 0) (mCons (mVar 4) (mCons (mVar 7) (mNil)))))) (mVar 7)) none (some (mVar 1)))) (mSeq (mAppend 3 (mCallD (d1 dTuple) (mCons (mCallD (d1 dSorted) (mCons (mVar 6) (mNil))) (mNil)))) (mSeq (mUpd 4 (mDc (.nm 7) [7] (mVar 6) (mYes) (mVar 7) (mC (.bool true)))) (mSet 5 (mLc (.nm 7) [7] (mVar 5) (mB (mOp2 dNinK (mVar 7) (mVar 4))) (mVar 7)))))
section
variable {g : Gr} (G : GOk g) {c : Int} (hc : 0 ≤ c) {od : D} {steps : List (List Int)} {done left : List Int} {s6 : Option SV}
include G hc
theorem turn1 (hl : ∀ k ∈ left, 0 ≤ k ∧ k < g.length) (hz : left.length ≤ sizeLine) :
    mSet 6 (mSl2 (mLc (.nm 7) [7] (mVar 5) (mB (mCall F_is_free (mCons (mVar 0) (mCons (mVar 4) (mCons (mVar 7) (mNil)))))) (mVar 7)) none (some (mVar 1))) (enL g c od steps done left s6) =
      .ok .nx (enL g c od steps done left (some (.own (.lst ((pkStep g c.toNat done left).map .int))))) := by
  have h1 : mComp (.nm 7) [7] (mB (mCall F_is_free (mCons (mVar 0) (mCons (mVar 4) (mCons (mVar 7) (mNil)))))) (mVar 7) (left.map .int) (enL g c od steps done left s6) = .ok (.own (.lst ((left.filter (isFr g done)).map .int))) (enL g c od steps done left s6) := by
    refine comp_emb (f := PyData.int) (p := isFr g done) (g := PyData.int) left rfl (fun k m => ?_) hz
    obtain ⟨h0, h1⟩ := hl k m
    refine ⟨[some (.d (gD g)), some (.d (.int c)), some (.d od), some (.own (.lst (steps.map rowD))), some (.own (.dct (doneK done))), some (.own (.lst (left.map .int))), s6, some (.d (.int k))], rfl, ?_, fun _ => ?_⟩
    · simp only [s_B, s_call, s_cons, s_frz, s_var, List.getElem?_cons_zero, List.getElem?_cons_succ, s_nil, s_lent_d, s_lent_bor, if_true, s_looksA_cons, s_looksA_nil, s_lookA_d, s_lookA_bor, doneK_at, free_ok G h0 h1, flat]
    · simp only [s_keep, s_var, List.getElem?_cons_zero, List.getElem?_cons_succ]
  have h2 : mfrz (mLc (.nm 7) [7] (mVar 5) (mB (mCall F_is_free (mCons (mVar 0) (mCons (mVar 4) (mCons (mVar 7) (mNil)))))) (mVar 7)) (enL g c od steps done left s6) = .ok (.d (.list ((left.filter (isFr g done)).map .int))) (enL g c od steps done left s6) := by
    have e : ([7] : List Nat).contains 5 = false := rfl
    rw [s_frz, s_lc, s_frz, s_var]
    simp only [List.getElem?_cons_zero, List.getElem?_cons_succ, e, Bool.false_eq_true, if_false, h1]
  have h3 : mfrz (mVar 1) (enL g c od steps done left s6) = .ok (.d (.int c)) (enL g c od steps done left s6) := by
    simp only [s_frz, s_var, List.getElem?_cons_zero, List.getElem?_cons_succ]
  rw [s_set, s_slH h2 h3 rfl]
  rw [s_dSl_l]
  dsimp only
  rw [cut_take _ hc, ← List.map_take]
  rfl
theorem turn2 {st : List Int} (nd : st.Nodup) (hz : steps.length < sizeLine) :
    mAppend 3 (mCallD (d1 dTuple) (mCons (mCallD (d1 dSorted) (mCons (mVar 6) (mNil))) (mNil))) (enL g c od steps done left (some (.own (.lst (st.map .int))))) = .ok .nx (enL g c od (steps ++ [sortI st]) done left (some (.own (.lst (st.map .int))))) := by
  have hl : (steps.map rowD).length < sizeLine := by rw [List.length_map]; exact hz
  simp only [s_append, s_mut, List.getElem?_cons_zero, List.getElem?_cons_succ, s_keep, s_callD, s_cons, s_frz, s_var, s_nil, s_lent_d, s_lent_bor, if_true, s_looks_cons, s_looks_nil, s_look_d, s_look_bor, s_d1, s_dSorted, sortD_ints, s_dTuple_l, s_pure, s_fapp, hl, sortInts_sortI nd]
  have e : (steps ++ [sortI st]).map rowD = steps.map rowD ++ [rowD (sortI st)] := by rw [List.map_append]; rfl
  dsimp only [enL]
  rw [e]
  rfl
theorem turn3 {st : List Int} (nd : (done ++ st).Nodup) (hz : done.length + st.length ≤ sizeLine) :
    mUpd 4 (mDc (.nm 7) [7] (mVar 6) (mYes) (mVar 7) (mC (.bool true))) (enL g c od steps done left (some (.own (.lst (st.map .int))))) = .ok .nx (enL g c od steps (done ++ st) left (some (.own (.lst (st.map .int))))) := by
  have e : ([7] : List Nat).contains 6 = false := rfl
  have h1 : mDcGo (.nm 7) [7] mYes (mVar 7) (mC (.bool true)) (st.map .int) (enL g c od steps done left (some (.own (.lst (st.map .int))))) = .ok (.own (.dct (doneK st))) (enL g c od steps done left (some (.own (.lst (st.map .int))))) := by
    have z := dcGo_done (mk := mVar 7) (mv := mC (.bool true)) (tg := .nm 7) (en0 := wipeEn (enL g c od steps done left (some (.own (.lst (st.map .int))))) [7]) (fun k => ⟨[some (.d (gD g)), some (.d (.int c)), some (.d od), some (.own (.lst (steps.map rowD))), some (.own (.dct (doneK done))), some (.own (.lst (left.map .int))), some (.own (.lst (st.map .int))), some (.d (.int k))], rfl, by simp only [s_keep, s_var, List.getElem?_cons_zero, List.getElem?_cons_succ], by simp only [s_keep, s_c]⟩) st [] (by rw [List.nil_append]; exact (List.nodup_append.mp nd).2.1) (by simp; omega)
    rw [List.nil_append] at z
    exact dc_ok rfl z
  have hl : (doneK done).length + (doneK st).length ≤ sizeLine := by
    unfold doneK
    rw [List.length_map, List.length_map]
    exact hz
  have hm : mDc (.nm 7) [7] (mVar 6) (mYes) (mVar 7) (mC (.bool true)) (enL g c od steps done left (some (.own (.lst (st.map .int))))) = .ok (.own (.dct (doneK st))) (enL g c od steps done left (some (.own (.lst (st.map .int))))) := by
    rw [s_dc, s_frz, s_var]
    simp only [List.getElem?_cons_zero, List.getElem?_cons_succ, e, Bool.false_eq_true, if_false, h1]
  rw [s_upd]
  simp only [List.getElem?_cons_zero, List.getElem?_cons_succ, hm, hl, if_true, merge_done _ _ nd]
  rfl
theorem turn4 {st : List Int} {s6 : Option SV} (hz : left.length ≤ sizeLine) :
    mSet 5 (mLc (.nm 7) [7] (mVar 5) (mB (mOp2 dNinK (mVar 7) (mVar 4))) (mVar 7)) (enL g c od steps done left s6) = .ok .nx (enL g c od steps done (left.filter fun k => !decide (k ∈ done)) s6) := by
  have e : ([7] : List Nat).contains 5 = false := rfl
  have h1 : mComp (.nm 7) [7] (mB (mOp2 dNinK (mVar 7) (mVar 4))) (mVar 7) (left.map .int) (enL g c od steps done left s6) = .ok (.own (.lst ((left.filter fun k => !decide (k ∈ done)).map .int))) (enL g c od steps done left s6) := by
    refine comp_emb (f := PyData.int) (p := fun k => !decide (k ∈ done)) (g := PyData.int) left rfl (fun k m => ?_) hz
    refine ⟨[some (.d (gD g)), some (.d (.int c)), some (.d od), some (.own (.lst (steps.map rowD))), some (.own (.dct (doneK done))), some (.own (.lst (left.map .int))), s6, some (.d (.int k))], rfl, ?_, fun _ => ?_⟩
    · simp only [s_B, s_op2, s_frz, s_var, List.getElem?_cons_zero, List.getElem?_cons_succ, s_look_d, s_look_bor, s_dNinK, inK_done]
    · simp only [s_keep, s_var, List.getElem?_cons_zero, List.getElem?_cons_succ]
  rw [s_set, s_lc, s_frz, s_var]
  simp only [List.getElem?_cons_zero, List.getElem?_cons_succ, e, Bool.false_eq_true, if_false, h1]
  rfl
end
/-- the loop, from any state that keeps what it keeps -/
theorem loopL {g : Gr} (G : GOk g) {c : Int} (hc : 1 ≤ c) {od : D} {order : List Int} (O : Ord g.length order) : ∀ (m : Nat) (done : List Int) (steps : List (List Int)) (s6 : Option SV), done.Nodup → (∀ k ∈ done, k ∈ order) → (order.filter fun k => !decide (k ∈ done)).length < m → steps.length + m ≤ 1000 →
    ∃ done' s6', whGo (mTru (mVar 5)) bodyL m (enL g c od steps done (order.filter fun k => !decide (k ∈ done)) s6) = .ok .nx (enL g c od (steps ++ pk g c.toNat m done (order.filter fun k => !decide (k ∈ done))) done' [] s6') := by
  intro m
  induction m with
  | zero => intro done steps s6 _ _ h _; omega
  | succ m ih =>
    intro done steps s6 nd sub hlt hs
    have hz := sizeLine_ge
    have hol := O.len
    have hg := G.few
    have hll : (order.filter fun k => !decide (k ∈ done)).length ≤ order.length := List.length_filter_le _ _
    by_cases e : (order.filter fun k => !decide (k ∈ done)) = []
    · refine ⟨done, s6, ?_⟩
      rw [e, pk, if_pos rfl, List.append_nil]
      refine wh_end ?_
      simp only [s_tru, s_frz, s_var, List.getElem?_cons_zero, List.getElem?_cons_succ, s_look_bor, s_tru_l, List.map_nil, List.isEmpty_nil, Bool.not_true]
    · have hst := step_some (c := c.toNat) G O (by omega) e
      have hsub : ∀ k ∈ pkStep g c.toNat done (order.filter fun k => !decide (k ∈ done)), k ∈ order.filter fun k => !decide (k ∈ done) := fun k mk => (step_sub mk).1
      have hnd : (pkStep g c.toNat done (order.filter fun k => !decide (k ∈ done))).Nodup := step_nodup (O.nd.filter _)
      have hlow : ∀ k ∈ order.filter fun k => !decide (k ∈ done), 0 ≤ k ∧ k < g.length := fun k mk => (O.mem k).mp (List.mem_filter.mp mk).1
      have hless := left_less hst hsub
      have hnd2 : (done ++ pkStep g c.toNat done (order.filter fun k => !decide (k ∈ done))).Nodup := List.nodup_append.mpr ⟨nd, hnd, fun a ma b mb => by
        rintro rfl
        have := (List.mem_filter.mp (hsub a mb)).2
        simp [ma] at this⟩
      have hdl : done.length ≤ 62 := by
        have p : done.length ≤ order.length := by
          have s1 : (order.filter fun k => decide (k ∈ done)).Perm done := (List.perm_ext_iff_of_nodup (O.nd.filter _) nd).mpr fun k => by
            rw [List.mem_filter, decide_eq_true_eq]
            exact ⟨fun h => h.2, fun h => ⟨sub k h, h⟩⟩
          rw [← s1.length_eq]
          exact List.length_filter_le _ _
        omega
      have hpl : (pkStep g c.toNat done (order.filter fun k => !decide (k ∈ done))).length ≤ 62 := by
        unfold pkStep
        rw [List.length_take]
        have : ((order.filter fun k => !decide (k ∈ done)).filter (isFr g done)).length ≤ _ := List.length_filter_le _ _
        omega
      obtain ⟨done', s6', hr⟩ := ih (done ++ pkStep g c.toNat done (order.filter fun k => !decide (k ∈ done))) (steps ++ [sortI (pkStep g c.toNat done (order.filter fun k => !decide (k ∈ done)))]) (some (.own (.lst ((pkStep g c.toNat done (order.filter fun k => !decide (k ∈ done))).map .int)))) hnd2
        (fun k mk => (List.mem_append.mp mk).elim (sub k) fun mk => (List.mem_filter.mp (hsub k mk)).1) (by omega) (by simp; omega)
      refine ⟨done', s6', ?_⟩
      have ht : mTru (mVar 5) (enL g c od steps done (order.filter fun k => !decide (k ∈ done)) s6) = .ok true (enL g c od steps done (order.filter fun k => !decide (k ∈ done)) s6) := by
        have e2 : ((order.filter fun k => !decide (k ∈ done)).map PyData.int).isEmpty = false := by
          rw [List.isEmpty_eq_false_iff]
          intro z
          exact e (List.map_eq_nil_iff.mp z)
        simp only [s_tru, s_frz, s_var, List.getElem?_cons_zero, List.getElem?_cons_succ, s_look_bor, s_tru_l, e2, Bool.not_false]
      have hb : bodyL (enL g c od steps done (order.filter fun k => !decide (k ∈ done)) s6) = .ok .nx (enL g c od (steps ++ [sortI (pkStep g c.toNat done (order.filter fun k => !decide (k ∈ done)))]) (done ++ pkStep g c.toNat done (order.filter fun k => !decide (k ∈ done))) (order.filter fun k => !decide (k ∈ done ++ pkStep g c.toNat done (order.filter fun k => !decide (k ∈ done)))) (some (.own (.lst ((pkStep g c.toNat done (order.filter fun k => !decide (k ∈ done))).map .int))))) := by
        unfold bodyL
        rw [s_seq, turn1 G (by omega) hlow (by omega)]
        dsimp only
        rw [s_seq, turn2 G (by omega) hnd (by omega)]
        dsimp only
        rw [s_seq, turn3 G (by omega) hnd2 (by omega)]
        dsimp only
        rw [turn4 (st := []) G (by omega) (by omega), left_next]
      rw [wh_step ht hb, hr, pk, if_neg e, left_next, List.append_assoc]
      rfl
theorem filter_none (o : List Int) : (o.filter fun k => !decide (k ∈ ([] : List Int))) = o := List.filter_eq_self.mpr fun k _ => by simp
theorem listed_ok {g : Gr} (G : GOk g) {c : Int} (hc : 1 ≤ c) {od : D} {order : List Int} (hod : od = .list (order.map .int) ∨ od = .tuple (order.map .int)) (O : Ord g.length order) : F_listed [gD g, .int c, od] = .ok (.d (.tuple ((pk g c.toNat 64 [] order).map rowD))) [] := by
  have hol := O.len
  have hg := G.few
  obtain ⟨done', s6', hr⟩ := loopL G hc (od := od) O 64 [] [] none (by simp) (fun k m => by cases m) (by rw [filter_none]; omega) (by simp)
  rw [filter_none, List.nil_append] at hr
  refine run_ok rfl (e := enL g c od (pk g c.toNat 64 [] order) done' [] s6') ?_
  unfold m_listed
  have h0 : [gD g, PyData.int c, od].map (fun d => some (SV.d d)) ++ List.replicate (8 - 3) none = [some (.d (gD g)), some (.d (.int c)), some (.d od), none, none, none, none, none] := rfl
  rw [h0]
  have h1 : mExpr (mCall F_check_graph (mCons (mVar 0) (mNil))) [some (.d (gD g)), some (.d (.int c)), some (.d od), none, none, none, none, none] = .ok .nx [some (.d (gD g)), some (.d (.int c)), some (.d od), none, none, none, none, none] := by
    simp only [s_expr, s_call, s_cons, s_frz, s_var, List.getElem?_cons_zero, List.getElem?_cons_succ, s_nil, s_lent_d, if_true, s_looksA_cons, s_looksA_nil, s_lookA_d, check_ok G, flat]
  have h2 : mSet 5 (mCallD (d1 dList) (mCons (mVar 2) (mNil))) [some (.d (gD g)), some (.d (.int c)), some (.d od), some (.own (.lst [])), some (.own (.dct [])), none, none, none] = .ok .nx (enL g c od [] [] order none) := by
    rcases hod with rfl | rfl
    all_goals
      simp only [s_set, s_callD, s_cons, s_frz, s_var, List.getElem?_cons_zero, List.getElem?_cons_succ, s_nil, s_lent_d, if_true, s_looks_cons, s_looks_nil, s_look_d, s_d1, s_dList_l, s_dList_t, s_pure]
      rfl
  rw [s_seq, h1]
  dsimp only
  rw [s_seq]
  have h3 : mSet 3 (mLst (mNil)) [some (.d (gD g)), some (.d (.int c)), some (.d od), none, none, none, none, none] = .ok .nx [some (.d (gD g)), some (.d (.int c)), some (.d od), some (.own (.lst [])), none, none, none, none] := by
    simp only [s_set, s_lst, s_nil, s_looks_nil, List.length_nil, List.all_nil, Nat.zero_le, and_self, if_true]
    rfl
  rw [h3]
  dsimp only
  rw [s_seq]
  have h4 : mSet 4 (mpure (.own (.dct []))) [some (.d (gD g)), some (.d (.int c)), some (.d od), some (.own (.lst [])), none, none, none, none] = .ok .nx [some (.d (gD g)), some (.d (.int c)), some (.d od), some (.own (.lst [])), some (.own (.dct [])), none, none, none] := rfl
  rw [h4]
  dsimp only
  rw [s_seq, h2]
  dsimp only
  rw [s_seq]
  unfold mWhile
  rw [hr]
  dsimp only
  simp only [s_ret, s_callD, s_cons, s_frz, s_var, List.getElem?_cons_zero, List.getElem?_cons_succ, s_nil, s_lent_bor, if_true, s_looks_cons, s_looks_nil, s_look_bor, s_d1, s_dTuple_l, s_pure]
end KG

namespace L2
open PySem PySem.Spec PyProof.Rows
theorem s_dSl_s {en : En} (ns : List Int) (lo hi : Option Int) : dSl (scrD ns) lo hi en = .ok (.own (.lst (L2.cutD (ns.map .int) lo hi))) en := rfl
theorem cut_map {α : Type} (f : α → D) (xs : List α) (lo hi : Option Int) : L2.cutD (xs.map f) lo hi = ((xs.drop (HT.sIx xs.length 0 lo)).take (HT.sIx xs.length xs.length hi - HT.sIx xs.length 0 lo)).map f := by
  unfold L2.cutD
  rw [List.length_map, List.map_take, List.map_drop]
theorem ix_scr_at {ns : List Int} {i : Int} (h0 : 0 ≤ i) (h1 : i < ns.length) : ∃ z : Int, ixD (scrD ns) (.int i) = some (.int z) := by
  have hl : i.toNat < ns.length := by omega
  refine ⟨ns[i.toNat], ?_⟩
  rw [ix_scr]
  exact atI_at h0 (by rw [List.getElem?_map, List.getElem?_eq_getElem hl]; rfl)
/-- what is drawn lies below the bounds -/
structure InB (ds bs : List Int) : Prop where
  len : ds.length = bs.length
  at_ : ∀ (i : Nat) (d b : Int), ds[i]? = some d → bs[i]? = some b → 0 ≤ d ∧ d < b
structure Bnds (bs : List Int) : Prop where
  few : bs.length ≤ 1000
  pos : ∀ b ∈ bs, 0 < b
  lt : ∀ b ∈ bs, b < 18446744073709551616
theorem md (y m : Int) (h : 0 < m) : 0 ≤ y % m ∧ y % m < m := ⟨Int.emod_nonneg _ (by omega), Int.emod_lt_of_pos _ h⟩
end L2
namespace KG
open PySem PySem.Spec PyProof.Rows L2
theorem cell_ok (ns : List Int) {k : Int} (h0 : 0 ≤ k) : ∃ z : Int, F__law_cell [scrD ns, .int k] = .ok (.d (.int z)) [] := by
  by_cases hk : k < ns.length
  · obtain ⟨z, hz⟩ := ix_scr_at h0 hk
    refine ⟨z, run_ok rfl (e := [some (.d (scrD ns)), some (.d (.int k)), none, none]) ?_⟩
    unfold m__law_cell
    simp only [s_seq, s_ifS, s_B, s_op2, s_frz, s_var, List.map_cons, List.map_nil, List.cons_append, List.nil_append, List.getElem?_cons_zero, List.getElem?_cons_succ, s_callD, s_cons, s_nil, s_lent_d, if_true, s_looks_cons, s_looks_nil, s_look_d, s_d1, s_len_scr, s_pure, s_dLt_i, hk, decide_true, s_ret, s_dIx, hz]
    rfl
  · obtain ⟨e', h1, h2⟩ := for_inv (tg := .nm 3) (body := mSet 2 (mOp2 dMod (mCallD (d1 dInt) (mCons (mOp2 dAdd (mOp2 dMulL (mVar 2) (mC (.int 1009))) (mVar 3)) (mNil))) (mC (.int 999983)))) (ds := (ns.take 3).map .int)
      (e := [some (.d (scrD ns)), some (.d (.int k)), some (.d (.int 17)), none])
      (fun _ e => ∃ (z : Int) (s : Option SV), e = [some (.d (scrD ns)), some (.d (.int k)), some (.d (.int z)), s]) (fun i d e hi ⟨z, s, he⟩ => by
        subst he
        rw [List.getElem?_map] at hi
        cases q : (ns.take 3)[i]? with
        | none => rw [q] at hi; cases hi
        | some x =>
          rw [q] at hi
          cases hi
          refine ⟨_, _, rfl, .inl ?_, ⟨(z * 1009 + x) % 999983, some (.d (.int x)), rfl⟩⟩
          simp) ⟨17, none, rfl⟩
    obtain ⟨z, s, he⟩ := h2
    subst he
    refine ⟨z * 64 + k, run_ok rfl (e := [some (.d (scrD ns)), some (.d (.int k)), some (.d (.int z)), s]) ?_⟩
    have hs : mFor (.nm 3) [2] (mSl2 (mVar 0) none (some (mC (.int 3)))) (mSet 2 (mOp2 dMod (mCallD (d1 dInt) (mCons (mOp2 dAdd (mOp2 dMulL (mVar 2) (mC (.int 1009))) (mVar 3)) (mNil))) (mC (.int 999983)))) [some (.d (scrD ns)), some (.d (.int k)), some (.d (.int 17)), none] =
        .ok .nx [some (.d (scrD ns)), some (.d (.int k)), some (.d (.int z)), s] := by
      have h3 : mfrz (mVar 0) [some (.d (scrD ns)), some (.d (.int k)), some (.d (.int 17)), none] = .ok (.d (scrD ns)) [some (.d (scrD ns)), some (.d (.int k)), some (.d (.int 17)), none] := rfl
      have h4 : mfrz (mC (.int 3)) [some (.d (scrD ns)), some (.d (.int k)), some (.d (.int 17)), none] = .ok (.d (.int 3)) [some (.d (scrD ns)), some (.d (.int k)), some (.d (.int 17)), none] := rfl
      rw [s_for, s_frz, s_slH h3 h4 rfl, s_dSl_s, cut_take _ (by omega)]
      dsimp only
      rw [← List.map_take]
      exact h1
    unfold m__law_cell
    have h5 : [scrD ns, PyData.int k].map (fun d => some (SV.d d)) ++ List.replicate (4 - 2) none = [some (.d (scrD ns)), some (.d (.int k)), none, none] := rfl
    rw [h5, s_seq]
    simp only [s_ifS, s_B, s_op2, s_frz, s_var, List.getElem?_cons_zero, List.getElem?_cons_succ, s_callD, s_cons, s_nil, s_lent_d, if_true, s_looks_cons, s_looks_nil, s_look_d, s_d1, s_len_scr, s_pure, s_dLt_i, hk, decide_false, s_nx]
    rw [s_seq]
    have h6 : mSet 2 (mC (.int 17)) [some (.d (scrD ns)), some (.d (.int k)), none, none] = .ok .nx [some (.d (scrD ns)), some (.d (.int k)), some (.d (.int 17)), none] := rfl
    rw [h6]
    dsimp only
    rw [s_seq, hs]
    dsimp only
    simp
end KG

namespace KG
open PySem PySem.Spec PyProof.Rows L2
abbrev enD (cell : Int) (bs : List Int) (rest : Int) (gr : Bool) (ds : List Int) (j mx : Option SV) : En := [some (.d (.int cell)), some (.d (.list (bs.map .int))), some (.d (.int rest)), some (.d (.bool gr)), some (.own (.lst (ds.map .int))), j, mx]
noncomputable abbrev bodyD : M Ct := mIfS (mTru (mVar 3)) (mSeq (mAppend 4 (mOp2 dMod (mCallD (d1 dInt) (mCons (mVar 2) (mNil))) (mOp2 dIx (mVar 1) (mVar 5)))) (mSet 2 (mOp2 dDiv (mVar 2) (mOp2 dIx (mVar 1) (mVar 5))))) (mSeq (mSet 6 (mOp2 dMod (mCallD (d1 dInt) (mCons (mOp2 dAdd (mOp2 dMulL (mVar 2) (mC (.int 48271))) (mOp2 dMulL (mOp2 dAdd (mVar 5) (mC (.int 1))) (mC (.int 69621)))) (mNil))) (mC (.int 2147483647)))) (mSeq (mSet 6 (mOp2 dMod (mCallD (d1 dInt) (mCons (mOp2 dAdd (mOp2 dMulL (mVar 6) (mC (.int 40692))) (mOp2 dMulL (mOp2 dDiv (mVar 6) (mC (.int 3791))) (mOp2 dAdd (mVar 5) (mC (.int 5))))) (mNil))) (mC (.int 2147483399)))) (mAppend 4 (mOp2 dMod (mCallD (d1 dInt) (mCons (mOp2 dDiv (mVar 6) (mC (.int 7))) (mNil))) (mOp2 dIx (mVar 1) (mVar 5))))))
section
variable (cell rest : Int) (bs ds : List Int) (i : Int)
theorem dr1 (mx : Option SV) (b : Int) (hi : atI (bs.map PyData.int) i = some (.int b)) (b0 : 0 < b) (b1 : b < 18446744073709551616) (hs : ds.length < sizeLine) : bodyD (enD cell bs rest true ds (some (.d (.int i))) mx) = .ok .nx (enD cell bs (rest / b) true (ds ++ [rest % b]) (some (.d (.int i))) mx) := by
  simp [hi, b0, b1, hs]
theorem dr2 (mx : Option SV) : mSet 6 (mOp2 dMod (mCallD (d1 dInt) (mCons (mOp2 dAdd (mOp2 dMulL (mVar 2) (mC (.int 48271))) (mOp2 dMulL (mOp2 dAdd (mVar 5) (mC (.int 1))) (mC (.int 69621)))) (mNil))) (mC (.int 2147483647))) (enD cell bs rest false ds (some (.d (.int i))) mx) = .ok .nx (enD cell bs rest false ds (some (.d (.int i))) (some (.d (.int ((rest * 48271 + (i + 1) * 69621) % 2147483647))))) := by
  simp
theorem dr3 (x : Int) (g : x / 3791 < 18446744073709551616 ∧ -18446744073709551616 < x / 3791) : mSet 6 (mOp2 dMod (mCallD (d1 dInt) (mCons (mOp2 dAdd (mOp2 dMulL (mVar 6) (mC (.int 40692))) (mOp2 dMulL (mOp2 dDiv (mVar 6) (mC (.int 3791))) (mOp2 dAdd (mVar 5) (mC (.int 5))))) (mNil))) (mC (.int 2147483399))) (enD cell bs rest false ds (some (.d (.int i))) (some (.d (.int x)))) = .ok .nx (enD cell bs rest false ds (some (.d (.int i))) (some (.d (.int ((x * 40692 + x / 3791 * (i + 5)) % 2147483399))))) := by
  simp [g.1, g.2]
theorem dr4 (x b : Int) (hi : atI (bs.map PyData.int) i = some (.int b)) (b0 : 0 < b) (hs : ds.length < sizeLine) : mAppend 4 (mOp2 dMod (mCallD (d1 dInt) (mCons (mOp2 dDiv (mVar 6) (mC (.int 7))) (mNil))) (mOp2 dIx (mVar 1) (mVar 5))) (enD cell bs rest false ds (some (.d (.int i))) (some (.d (.int x)))) = .ok .nx (enD cell bs rest false (ds ++ [x / 7 % b]) (some (.d (.int i))) (some (.d (.int x)))) := by
  simp [hi, b0, hs]
theorem dr5 (mx : Option SV) (b : Int) (hi : atI (bs.map PyData.int) i = some (.int b)) (b0 : 0 < b) (hs : ds.length < sizeLine) : ∃ x : Int, bodyD (enD cell bs rest false ds (some (.d (.int i))) mx) = .ok .nx (enD cell bs rest false (ds ++ [x / 7 % b]) (some (.d (.int i))) (some (.d (.int x)))) := by
  have t : mTru (mVar 3) (enD cell bs rest false ds (some (.d (.int i))) mx) = .ok false (enD cell bs rest false ds (some (.d (.int i))) mx) := by simp
  have h1 := dr2 cell rest bs ds i mx
  have p1 := md (rest * 48271 + (i + 1) * 69621) 2147483647 (by omega)
  generalize (rest * 48271 + (i + 1) * 69621) % 2147483647 = x1 at h1 p1
  have p2 : x1 / 3791 < 18446744073709551616 ∧ -18446744073709551616 < x1 / 3791 := by omega
  have h2 := dr3 cell rest bs ds i x1 p2
  generalize (x1 * 40692 + x1 / 3791 * (i + 5)) % 2147483399 = x2 at h2
  refine ⟨x2, ?_⟩
  unfold bodyD
  rw [s_ifS, t]
  dsimp only
  rw [s_seq, h1]
  dsimp only
  rw [s_seq, h2]
  dsimp only
  exact dr4 cell rest bs ds i x2 b hi b0 hs
end
theorem turnsD (cell rest : Int) (gr : Bool) (bs : List Int) (B : Bnds bs) : ∃ rest' ds j mx, forGo (.nm 5) none bodyD (rngD 0 bs.length) (enD cell bs rest gr [] none none) = .ok .nx (enD cell bs rest' gr ds j mx) ∧ InB ds bs := by
  obtain ⟨e', h1, rest', ds, j, mx, he, hl, hb⟩ := for_inv (tg := .nm 5) (body := bodyD) (ds := rngD 0 bs.length) (e := enD cell bs rest gr [] none none)
    (fun i e => ∃ (rest' : Int) (ds : List Int) (j mx : Option SV), e = enD cell bs rest' gr ds j mx ∧ ds.length = i ∧ ∀ (i : Nat) (d b : Int), ds[i]? = some d → bs[i]? = some b → 0 ≤ d ∧ d < b) (fun i d e hi ⟨rest', ds, j, mx, he, hl, hb⟩ => by
      obtain ⟨li, rfl⟩ := rng_get hi
      subst he
      rw [Int.zero_add]
      have hbi : bs[i]? = some bs[i] := List.getElem?_eq_getElem li
      have b0 := B.pos _ (List.getElem_mem li)
      have b1 := B.lt _ (List.getElem_mem li)
      have hs : ds.length < sizeLine := by have := sizeLine_ge; have := B.few; omega
      have ha : atI (bs.map PyData.int) (i : Int) = some (.int bs[i]) := atI_at (by omega) (by rw [Int.toNat_natCast, List.getElem?_map, hbi]; rfl)
      have inb : ∀ x, 0 ≤ x → x < bs[i] → ∀ (m : Nat) (d b : Int), (ds ++ [x])[m]? = some d → bs[m]? = some b → 0 ≤ d ∧ d < b := fun x h0 h1 m d b q1 q2 => by
        by_cases hm : m < ds.length
        · rw [List.getElem?_append_left hm] at q1
          exact hb m d b q1 q2
        · rw [List.getElem?_append_right (by omega)] at q1
          have e0 : m - ds.length = 0 := by
            have := (List.getElem?_eq_some_iff.mp q1).1
            simp at this
            omega
          rw [e0] at q1
          have em : m = i := by omega
          subst em
          rw [hbi] at q2
          cases q1
          cases q2
          exact ⟨h0, h1⟩
      cases gr with
      | true =>
        have m1 := md rest' bs[i] b0
        exact ⟨_, _, rfl, .inl (dr1 cell rest' bs ds i mx bs[i] ha b0 b1 hs), rest' / bs[i], ds ++ [rest' % bs[i]], _, mx, rfl, by simp [hl], inb _ m1.1 m1.2⟩
      | false =>
        obtain ⟨x, hx⟩ := dr5 cell rest' bs ds i mx bs[i] ha b0 hs
        have m1 := md (x / 7) bs[i] b0
        exact ⟨_, _, rfl, .inl hx, rest', ds ++ [x / 7 % bs[i]], _, _, rfl, by simp [hl], inb _ m1.1 m1.2⟩) ⟨rest, [], none, none, rfl, rfl, fun m d b q => by simp at q⟩
  subst he
  refine ⟨rest', ds, j, mx, h1, ⟨?_, hb⟩⟩
  rw [hl]
  simp [rngD]
end KG

namespace KG
open PySem PySem.Spec PyProof.Rows L2
theorem draws_def : m__law_draws = (mSeq (mSet 2 (mCallD (d1 dAbs) (mCons (mVar 0) (mNil)))) (mSeq (mSet 3 (mOp2 dGe (mVar 2) (mOp2 dPow (mC (.int 10)) (mC (.int 18))))) (mSeq (mIfS (mTru (mVar 3)) (mSet 2 (mOp2 dSub (mVar 2) (mOp2 dPow (mC (.int 10)) (mC (.int 18))))) (mIfS (mB (mOp2 dLt (mVar 0) (mC (.int 0)))) (mSet 2 (mOp2 dAdd (mVar 2) (mC (.int 500009)))) (mNx))) (mSeq (mSet 4 (mLst (mNil))) (mSeq (mForR1 (.nm 5) (mCons (mCallD (d1 dLen) (mCons (mVar 1) (mNil))) (mNil)) bodyD) (mRet (mVar 4))))))) := rfl
theorem draws_ok (cell : Int) (bs : List Int) (B : Bnds bs) : ∃ ds, F__law_draws [.int cell, .list (bs.map .int)] = .ok (.own (.lst (ds.map .int))) [] ∧ InB ds bs := by
  -- the head: what is left, and whether it is great
  have head : ∃ (rest : Int) (gr : Bool), ∀ (k : M Ct), (mSeq (mSet 2 (mCallD (d1 dAbs) (mCons (mVar 0) (mNil)))) (mSeq (mSet 3 (mOp2 dGe (mVar 2) (mOp2 dPow (mC (.int 10)) (mC (.int 18))))) (mSeq (mIfS (mTru (mVar 3)) (mSet 2 (mOp2 dSub (mVar 2) (mOp2 dPow (mC (.int 10)) (mC (.int 18))))) (mIfS (mB (mOp2 dLt (mVar 0) (mC (.int 0)))) (mSet 2 (mOp2 dAdd (mVar 2) (mC (.int 500009)))) (mNx))) (mSeq (mSet 4 (mLst (mNil))) k))))
      [some (.d (.int cell)), some (.d (.list (bs.map .int))), none, none, none, none, none] = k (enD cell bs rest gr [] none none) := by
    obtain ⟨P, hp⟩ : ∃ P : Int, ∀ e : En, dPow (.int 10) (.int 18) e = .ok (.d (.int P)) e := ⟨_, fun e => by
      rw [s_pow, if_pos (by decide)]⟩
    have hA : mSet 2 (mCallD (d1 dAbs) (mCons (mVar 0) (mNil))) [some (.d (.int cell)), some (.d (.list (bs.map .int))), none, none, none, none, none] = .ok .nx [some (.d (.int cell)), some (.d (.list (bs.map .int))), some (.d (.int (if cell < 0 then -cell else cell))), none, none, none, none] := rfl
    generalize (if cell < 0 then -cell else cell) = r0 at hA
    have hB : mSet 3 (mOp2 dGe (mVar 2) (mOp2 dPow (mC (.int 10)) (mC (.int 18)))) [some (.d (.int cell)), some (.d (.list (bs.map .int))), some (.d (.int r0)), none, none, none, none] = .ok .nx [some (.d (.int cell)), some (.d (.list (bs.map .int))), some (.d (.int r0)), some (.d (.bool (decide (P ≤ r0)))), none, none, none] := by
      simp only [s_set, s_op2, s_frz, s_var, List.getElem?_cons_zero, List.getElem?_cons_succ, s_c, s_look_d, hp, s_dGe_i, s_pure]
      rfl
    have hE : ∀ (r : Int) (gr : Bool), mSet 4 (mLst (mNil)) [some (.d (.int cell)), some (.d (.list (bs.map .int))), some (.d (.int r)), some (.d (.bool gr)), none, none, none] = .ok .nx (enD cell bs r gr [] none none) := fun r gr => by
      simp only [s_set, s_lst, s_nil, s_looks_nil, List.length_nil, List.all_nil, Nat.zero_le, and_self, if_true]
      rfl
    by_cases h1 : P ≤ r0
    · refine ⟨r0 - P, true, fun k => ?_⟩
      have hC : mIfS (mTru (mVar 3)) (mSet 2 (mOp2 dSub (mVar 2) (mOp2 dPow (mC (.int 10)) (mC (.int 18))))) (mIfS (mB (mOp2 dLt (mVar 0) (mC (.int 0)))) (mSet 2 (mOp2 dAdd (mVar 2) (mC (.int 500009)))) (mNx)) [some (.d (.int cell)), some (.d (.list (bs.map .int))), some (.d (.int r0)), some (.d (.bool true)), none, none, none] =
          .ok .nx [some (.d (.int cell)), some (.d (.list (bs.map .int))), some (.d (.int (r0 - P))), some (.d (.bool true)), none, none, none] := by
        simp only [s_ifS, s_tru, s_set, s_op2, s_frz, s_var, List.getElem?_cons_zero, List.getElem?_cons_succ, s_c, s_look_d, hp, s_tru_b, s_sub, s_pure]
        rfl
      rw [s_seq, hA]
      dsimp only
      rw [s_seq, hB, decide_eq_true h1]
      dsimp only
      rw [s_seq, hC]
      dsimp only
      rw [s_seq, hE]
    · by_cases h2 : cell < 0
      · refine ⟨r0 + 500009, false, fun k => ?_⟩
        have hC : mIfS (mTru (mVar 3)) (mSet 2 (mOp2 dSub (mVar 2) (mOp2 dPow (mC (.int 10)) (mC (.int 18))))) (mIfS (mB (mOp2 dLt (mVar 0) (mC (.int 0)))) (mSet 2 (mOp2 dAdd (mVar 2) (mC (.int 500009)))) (mNx)) [some (.d (.int cell)), some (.d (.list (bs.map .int))), some (.d (.int r0)), some (.d (.bool false)), none, none, none] =
            .ok .nx [some (.d (.int cell)), some (.d (.list (bs.map .int))), some (.d (.int (r0 + 500009))), some (.d (.bool false)), none, none, none] := by
          simp only [s_ifS, s_tru, s_B, s_set, s_op2, s_frz, s_var, List.getElem?_cons_zero, List.getElem?_cons_succ, s_c, s_look_d, s_tru_b, s_dLt_i, h2, decide_true, s_dAdd_i, s_pure]
          rfl
        rw [s_seq, hA]
        dsimp only
        rw [s_seq, hB, decide_eq_false h1]
        dsimp only
        rw [s_seq, hC]
        dsimp only
        rw [s_seq, hE]
      · refine ⟨r0, false, fun k => ?_⟩
        have hC : mIfS (mTru (mVar 3)) (mSet 2 (mOp2 dSub (mVar 2) (mOp2 dPow (mC (.int 10)) (mC (.int 18))))) (mIfS (mB (mOp2 dLt (mVar 0) (mC (.int 0)))) (mSet 2 (mOp2 dAdd (mVar 2) (mC (.int 500009)))) (mNx)) [some (.d (.int cell)), some (.d (.list (bs.map .int))), some (.d (.int r0)), some (.d (.bool false)), none, none, none] =
            .ok .nx [some (.d (.int cell)), some (.d (.list (bs.map .int))), some (.d (.int r0)), some (.d (.bool false)), none, none, none] := by
          simp only [s_ifS, s_tru, s_B, s_op2, s_frz, s_var, List.getElem?_cons_zero, List.getElem?_cons_succ, s_c, s_look_d, s_tru_b, s_dLt_i, h2, decide_false, s_nx, s_pure]
        rw [s_seq, hA]
        dsimp only
        rw [s_seq, hB, decide_eq_false h1]
        dsimp only
        rw [s_seq, hC]
        dsimp only
        rw [s_seq, hE]
  obtain ⟨rest, gr, hh⟩ := head
  obtain ⟨rest', ds, j, mx, h1, hb⟩ := turnsD cell rest gr bs B
  refine ⟨ds, ?_, hb⟩
  refine run_bor rfl (e := enD cell bs rest' gr ds j mx) (i := 4) (o := .lst (ds.map .int)) ?_ rfl
  have h5 : [PyData.int cell, PyData.list (bs.map PyData.int)].map (fun d => some (SV.d d)) ++ List.replicate (7 - 2) none = [some (.d (.int cell)), some (.d (.list (bs.map .int))), none, none, none, none, none] := rfl
  have hf : mForR1 (.nm 5) (mCons (mCallD (d1 dLen) (mCons (mVar 1) (mNil))) (mNil)) bodyD (enD cell bs rest gr [] none none) = .ok .nx (enD cell bs rest' gr ds j mx) := by
    rw [forR1_run (j := (bs.length : Int)) (e := enD cell bs rest gr [] none none) _ (by omega) (by have := B.few; omega)]
    · rw [Int.toNat_natCast]
      exact h1
    · simp
  rw [draws_def, h5, hh, seq_ok hf]
  simp only [s_ret, s_var, List.getElem?_cons_zero, List.getElem?_cons_succ]
end KG

namespace L2
open PySem PySem.Spec PyProof.Rows
variable {en : En}
theorem s_insert {i : Nat} {mk me : M SV} {ds : List D} {k : Int} {d : D} (h0 : en[i]? = some (some (.own (.lst ds)))) (h1 : mfrz mk en = .ok (.d (.int k)) en) (h2 : mkeep me en = .ok (.d d) en) (hl : ds.length < sizeLine) (k0 : 0 ≤ k) (k1 : k < 1000000) :
    mInsert i mk me en = .ok .nx (en.set i (some (.own (.lst (ds.take k.toNat ++ [d] ++ ds.drop k.toNat))))) := by
  unfold mInsert
  rw [h0]
  dsimp only
  rw [s_bind, h1]
  dsimp only
  rw [s_bind, h2]
  dsimp only
  rw [s_look_d, h0]
  dsimp only
  rw [if_pos ⟨hl, k0, by omega⟩]
/-- put in where it belongs -/
def insI (row : List Int) (n : Int) : List Int := row.take (row.filter fun x => decide (x < n)).length ++ [n] ++ row.drop (row.filter fun x => decide (x < n)).length
theorem split_asc : ∀ {row : List Int} (n : Int), row.Pairwise (· < ·) → row.take (row.filter fun x => decide (x < n)).length = row.filter (fun x => decide (x < n)) ∧ row.drop (row.filter fun x => decide (x < n)).length = row.filter (fun x => !decide (x < n))
  | [], _, _ => ⟨rfl, rfl⟩
  | x :: r, n, p => by
    have p' := List.pairwise_cons.mp p
    obtain ⟨h1, h2⟩ := split_asc n p'.2
    by_cases h : x < n
    · simp only [List.filter_cons, h, decide_true, if_true, List.length_cons, List.take_succ_cons, List.drop_succ_cons, Bool.not_true, Bool.false_eq_true, if_false, h1, h2]
      exact ⟨trivial, trivial⟩
    · have e : r.filter (fun x => decide (x < n)) = [] := List.filter_eq_nil_iff.mpr fun y m => by
        have := p'.1 y m
        simp
        omega
      have e2 : r.filter (fun x => !decide (x < n)) = r := List.filter_eq_self.mpr fun y m => by
        have := p'.1 y m
        simp
        omega
      simp only [List.filter_cons, h, decide_false, Bool.false_eq_true, if_false, Bool.not_false, if_true, e, e2, List.length_nil, List.take_zero, List.drop_zero]
      exact ⟨trivial, trivial⟩
theorem ins_mem {row : List Int} {n k : Int} : k ∈ insI row n ↔ k = n ∨ k ∈ row := by
  unfold insI
  rw [List.append_assoc, List.mem_append, List.mem_append, List.mem_singleton]
  have e : k ∈ row ↔ k ∈ row.take (row.filter fun x => decide (x < n)).length ∨ k ∈ row.drop (row.filter fun x => decide (x < n)).length := by
    rw [← List.mem_append, List.take_append_drop]
  rw [e]
  constructor
  · rintro (h | h | h)
    · exact .inr (.inl h)
    · exact .inl h
    · exact .inr (.inr h)
  · rintro (h | h | h)
    · exact .inr (.inl h)
    · exact .inl h
    · exact .inr (.inr h)
theorem ins_asc {row : List Int} {n : Int} (p : row.Pairwise (· < ·)) (hn : n ∉ row) : (insI row n).Pairwise (· < ·) := by
  unfold insI
  obtain ⟨h1, h2⟩ := split_asc n p
  rw [h1, h2, List.append_assoc, List.pairwise_append]
  refine ⟨p.filter _, ?_, fun a ma b mb => ?_⟩
  · rw [List.singleton_append, List.pairwise_cons]
    refine ⟨fun b mb => ?_, p.filter _⟩
    obtain ⟨m, h⟩ := List.mem_filter.mp mb
    have h' : ¬ b < n := by simpa using h
    have : b ≠ n := fun e => hn (e ▸ m)
    omega
  · have ha := of_decide_eq_true (List.mem_filter.mp ma).2
    rcases List.mem_append.mp mb with mb | mb
    · rw [List.mem_singleton.mp mb]; exact ha
    · have h' : ¬ b < n := by simpa using (List.mem_filter.mp mb).2
      omega
end L2
namespace KG
open PySem PySem.Spec PyProof.Rows L2
abbrev enG (ns : List Int) (start most : Int) (sh : List Int) (g : Gr) (k : Int) (dr : List Int) (row : List Int) (s8 : Option SV) : En :=
  [some (.d (scrD ns)), some (.d (.int start)), some (.d (.int most)), some (.own (.lst (sh.map .int))), some (.own (.lst (g.map rowD))), some (.d (.int k)), some (.own (.lst (dr.map .int))), some (.own (.lst (row.map .int))), s8, none]
noncomputable abbrev insB : M Ct := mIfS (mAndT (mB (mOp2 dGt (mVar 5) (mC (.int 0)))) (mB (mOp2 dNin (mVar 8) (mVar 7)))) (mInsert 7 (mCallD (d1 dLen) (mCons (mLc (.nm 9) [9] (mVar 7) (mB (mOp2 dLt (mVar 9) (mVar 8))) (mVar 9)) (mNil))) (mVar 8)) (mNx)
section
variable (ns : List Int) (start most : Int) (sh : List Int) (g : Gr) (k : Int) (dr : List Int) (row : List Int)
theorem ins_ok (n : Int) (hr : row.length ≤ 1000) : insB (enG ns start most sh g k dr row (some (.d (.int n)))) = .ok .nx (enG ns start most sh g k dr (if 0 < k ∧ n ∉ row then insI row n else row) (some (.d (.int n)))) := by
  have hz := sizeLine_ge
  unfold insB
  rw [s_ifS]
  have t : mAndT (mB (mOp2 dGt (mVar 5) (mC (.int 0)))) (mB (mOp2 dNin (mVar 8) (mVar 7))) (enG ns start most sh g k dr row (some (.d (.int n)))) = .ok (decide (0 < k ∧ n ∉ row)) (enG ns start most sh g k dr row (some (.d (.int n)))) := by
    by_cases h : 0 < k
    · simp only [s_andT, s_B, s_op2, s_frz, s_var, List.getElem?_cons_zero, List.getElem?_cons_succ, s_c, s_look_d, s_look_bor, s_dGt_i, s_pure, h, decide_true, s_dNin, inD_l, true_and]
      by_cases h2 : n ∈ row <;> simp [h2]
    · simp only [s_andT, s_B, s_op2, s_frz, s_var, List.getElem?_cons_zero, List.getElem?_cons_succ, s_c, s_look_d, s_dGt_i, s_pure, h, decide_false, false_and]
  rw [t]
  by_cases h : 0 < k ∧ n ∉ row
  · rw [decide_eq_true h, if_pos h]
    dsimp only
    have e9 : ([9] : List Nat).contains 7 = false := rfl
    have hcmp : mComp (.nm 9) [9] (mB (mOp2 dLt (mVar 9) (mVar 8))) (mVar 9) (row.map .int) (enG ns start most sh g k dr row (some (.d (.int n)))) = .ok (.own (.lst ((row.filter fun x => decide (x < n)).map .int))) (enG ns start most sh g k dr row (some (.d (.int n)))) := by
      refine comp_emb (f := PyData.int) (p := fun x => decide (x < n)) (g := PyData.int) row rfl (fun x m => ?_) (by omega)
      refine ⟨[some (.d (scrD ns)), some (.d (.int start)), some (.d (.int most)), some (.own (.lst (sh.map .int))), some (.own (.lst (g.map rowD))), some (.d (.int k)), some (.own (.lst (dr.map .int))), some (.own (.lst (row.map .int))), some (.d (.int n)), some (.d (.int x))], rfl, ?_, fun _ => ?_⟩
      · simp only [s_B, s_op2, s_frz, s_var, List.getElem?_cons_zero, List.getElem?_cons_succ, s_look_d, s_dLt_i, s_pure]
      · simp only [s_keep, s_var, List.getElem?_cons_zero, List.getElem?_cons_succ]
    have hk : mfrz (mCallD (d1 dLen) (mCons (mLc (.nm 9) [9] (mVar 7) (mB (mOp2 dLt (mVar 9) (mVar 8))) (mVar 9)) (mNil))) (enG ns start most sh g k dr row (some (.d (.int n)))) = .ok (.d (.int ((row.filter fun x => decide (x < n)).length : Nat))) (enG ns start most sh g k dr row (some (.d (.int n)))) := by
      simp only [s_frz, s_callD, s_cons, s_lc, s_var, List.getElem?_cons_zero, List.getElem?_cons_succ, e9, Bool.false_eq_true, if_false, hcmp, s_nil, s_lent_d, if_true, s_looks_cons, s_looks_nil, s_look_d, s_d1, s_len_l, List.length_map, s_pure]
    have hf : (row.filter fun x => decide (x < n)).length ≤ row.length := List.length_filter_le _ _
    rw [s_insert (ds := row.map .int) (k := ((row.filter fun x => decide (x < n)).length : Nat)) (d := .int n) rfl hk rfl (by rw [List.length_map]; omega) (by omega) (by omega)]
    have e : (row.map PyData.int).take ((row.filter fun x => decide (x < n)).length : Int).toNat ++ [PyData.int n] ++ (row.map PyData.int).drop ((row.filter fun x => decide (x < n)).length : Int).toNat = (insI row n).map .int := by
      rw [Int.toNat_natCast]
      unfold insI
      rw [List.map_append, List.map_append, List.map_take, List.map_drop]
      rfl
    rw [e]
    rfl
  · rw [decide_eq_false h, if_neg h]
    rfl
/-- the inner loop: what is drawn is put in -/
theorem loopG (hk : 0 ≤ k) : ∀ (xs : List Int) (row : List Int) (s8 : Option SV), (0 < k → ∀ x ∈ xs, 0 ≤ x ∧ x < k) → row.Pairwise (· < ·) → (∀ x ∈ row, 0 ≤ x ∧ x < k) → row.length + xs.length ≤ 1000 →
    ∃ row' s8', forGo (.nm 8) none insB (xs.map .int) (enG ns start most sh g k dr row s8) = .ok .nx (enG ns start most sh g k dr row' s8') ∧ row'.Pairwise (· < ·) ∧ ∀ x ∈ row', 0 ≤ x ∧ x < k
  | [], row, s8, _, p, l, _ => ⟨row, s8, for_nil rfl, p, l⟩
  | n :: r, row, s8, h, p, l, hl => by
    have hn := ins_ok ns start most sh g k dr row n (by simp at hl; omega)
    have hlen : (if 0 < k ∧ n ∉ row then insI row n else row).length ≤ row.length + 1 := by
      split
      · unfold insI
        rw [List.length_append, List.length_append, List.length_take, List.length_drop, List.length_singleton]
        omega
      · omega
    obtain ⟨row', s8', h1, h2⟩ := loopG hk r (if 0 < k ∧ n ∉ row then insI row n else row) (some (.d (.int n))) (fun hk x m => h hk x (List.mem_cons_of_mem _ m)) (by
      split
      · rename_i c; exact ins_asc p c.2
      · exact p) (by
      split
      · rename_i c
        intro x m
        rcases ins_mem.mp m with rfl | m
        · exact h c.1 _ List.mem_cons_self
        · exact l x m
      · exact l) (by simp at hl; omega)
    refine ⟨row', s8', ?_, h2⟩
    rw [List.map_cons, for_step rfl rfl hn]
    exact h1
end
end KG

namespace KG
open PySem PySem.Spec PyProof.Rows L2
/-- any environment of the outer loop -/
abbrev enH (ns : List Int) (start most : Int) (sh : List Int) (g : Gr) (s5 s6 s7 s8 : Option SV) : En :=
  [some (.d (scrD ns)), some (.d (.int start)), some (.d (.int most)), some (.own (.lst (sh.map .int))), some (.own (.lst (g.map rowD))), s5, s6, s7, s8, none]
noncomputable abbrev drwM : M Ct := mSet 6 (mCall F__law_draws (mCons (mCall F__law_cell (mCons (mVar 0) (mCons (mOp2 dAdd (mOp2 dAdd (mVar 1) (mC (.int 1))) (mVar 5)) (mNil)))) (mCons (mOp2 dAdd (mLst (mCons (mOp2 dAdd (mC (.int 3)) (mOp2 dIx (mVar 3) (mC (.int 1)))) (mNil))) (mOp2 dMulL (mLst (mCons (mCallD dMax2 (mCons (mC (.int 1)) (mCons (mVar 5) (mNil)))) (mNil))) (mC (.int 3)))) (mNil))))
noncomputable abbrev forM' : M Ct := mFor (.nm 8) [] (mSl2 (mVar 6) (some (mC (.int 1))) (some (mOp2 dAdd (mC (.int 1)) (mCallD dMin2 (mCons (mC (.int 3)) (mCons (mOp2 dIx (mVar 6) (mC (.int 0))) (mNil))))))) insB
noncomputable abbrev bodyG : M Ct := mSeq drwM (mSeq (mSet 7 (mLst (mNil))) (mSeq forM' (mAppend 4 (mCallD (d1 dTuple) (mCons (mVar 7) (mNil))))))
theorem gok_snoc {g : Gr} {r : List Int} (G : GOk g) (hl : g.length < 62) (p : r.Pairwise (· < ·)) (l : ∀ x ∈ r, 0 ≤ x ∧ x < g.length) : GOk (g ++ [r]) where
  few := by simp; omega
  asc := fun x m => by
    rcases List.mem_append.mp m with m | m
    · exact G.asc x m
    · rw [List.mem_singleton.mp m]; exact p
  low := fun i x h => by
    by_cases hi : i < g.length
    · rw [List.getElem?_append_left hi] at h
      exact G.low i x h
    · rw [List.getElem?_append_right (by omega)] at h
      have e0 : i - g.length = 0 := by
        have := (List.getElem?_eq_some_iff.mp h).1
        simp at this
        omega
      rw [e0] at h
      cases h
      have ei : i = g.length := by omega
      subst ei
      exact l
section
variable (ns : List Int) (start most : Int) (sh : List Int) (g : Gr)
theorem drw_ok (s0 : 0 ≤ start) {k : Int} (k0 : 0 ≤ k) (k1 : k ≤ 1000) {b : Int} (hb : sh[1]? = some b) (b0 : 0 ≤ b) (b1 : b ≤ 1000) (s6 s7 s8 : Option SV) : ∃ d0 d1 d2 d3 : Int, drwM (enH ns start most sh g (some (.d (.int k))) s6 s7 s8) = .ok .nx (enH ns start most sh g (some (.d (.int k))) (some (.own (.lst ([d0, d1, d2, d3].map .int)))) s7 s8) ∧
    (0 < k → (0 ≤ d1 ∧ d1 < k) ∧ (0 ≤ d2 ∧ d2 < k) ∧ (0 ≤ d3 ∧ d3 < k)) := by
  have hz := sizeLine_ge
  obtain ⟨z, hzz⟩ := cell_ok ns (k := start + 1 + k) (by omega)
  have hmx : ∃ m : Int, (if k > 1 then k else 1) = m ∧ 0 < m ∧ m ≤ 1000 ∧ (0 < k → m = k) := ⟨_, rfl, by split <;> omega, by split <;> omega, fun h => by split <;> omega⟩
  obtain ⟨m, em, m0, m1, mk⟩ := hmx
  have B : Bnds [3 + b, m, m, m] := ⟨by simp, fun x hx => by simp at hx; omega, fun x hx => by simp at hx; omega⟩
  obtain ⟨ds, hd, ib⟩ := draws_ok z [3 + b, m, m, m] B
  obtain ⟨hl, ha⟩ := ib
  match ds, hl with
  | [d0, d1, d2, d3], _ =>
    refine ⟨d0, d1, d2, d3, ?_, fun h => ?_⟩
    · have e1 : atI (sh.map PyData.int) 1 = some (.int b) := atI_at (by omega) (by show (sh.map PyData.int)[1]? = _; rw [List.getElem?_map, hb]; rfl)
      have hA : mfrz (mCall F__law_cell (mCons (mVar 0) (mCons (mOp2 dAdd (mOp2 dAdd (mVar 1) (mC (.int 1))) (mVar 5)) (mNil)))) (enH ns start most sh g (some (.d (.int k))) s6 s7 s8) = .ok (.d (.int z)) (enH ns start most sh g (some (.d (.int k))) s6 s7 s8) := by
        simp only [s_frz, s_call, s_cons, s_op2, s_var, List.getElem?_cons_zero, List.getElem?_cons_succ, s_c, s_look_d, s_dAdd_i, s_pure, s_nil, s_lent_d, if_true, s_looksA_cons, s_looksA_nil, s_lookA_d, hzz, flat]
      have hB : mfrz (mOp2 dAdd (mLst (mCons (mOp2 dAdd (mC (.int 3)) (mOp2 dIx (mVar 3) (mC (.int 1)))) (mNil))) (mOp2 dMulL (mLst (mCons (mCallD dMax2 (mCons (mC (.int 1)) (mCons (mVar 5) (mNil)))) (mNil))) (mC (.int 3)))) (enH ns start most sh g (some (.d (.int k))) s6 s7 s8) = .ok (.d (.list ([3 + b, m, m, m].map .int))) (enH ns start most sh g (some (.d (.int k))) s6 s7 s8) := by
        have h1 : mfrz (mLst (mCons (mOp2 dAdd (mC (.int 3)) (mOp2 dIx (mVar 3) (mC (.int 1)))) (mNil))) (enH ns start most sh g (some (.d (.int k))) s6 s7 s8) = .ok (.d (.list [.int (3 + b)])) (enH ns start most sh g (some (.d (.int k))) s6 s7 s8) := by
          have q : ([PyData.int (3 + b)] : List D).length ≤ sizeLine := by simp; omega
          simp only [s_frz, s_lst, s_cons, s_op2, s_c, s_var, List.getElem?_cons_zero, List.getElem?_cons_succ, s_look_d, s_look_bor, s_dIx, s_ix_l, e1, s_dAdd_i, s_pure, s_nil, s_lent_d, if_true, s_looks_cons, s_looks_nil, q, List.all_cons, List.all_nil, Bool.and_self, and_self]
        have h2 : mfrz (mOp2 dMulL (mLst (mCons (mCallD dMax2 (mCons (mC (.int 1)) (mCons (mVar 5) (mNil)))) (mNil))) (mC (.int 3))) (enH ns start most sh g (some (.d (.int k))) s6 s7 s8) = .ok (.d (.list [.int m, .int m, .int m])) (enH ns start most sh g (some (.d (.int k))) s6 s7 s8) := by
          have q : ([PyData.int m] : List D).length ≤ sizeLine := by simp; omega
          have q2 : (-(2 ^ 63) ≤ (3 : Int) ∧ (3 : Int) < 2 ^ 63) ∧ ([PyData.int m] : List D).length * (3 : Int).toNat ≤ sizeLine := ⟨by omega, by show 1 * 3 ≤ _; omega⟩
          have h3 : mfrz (mLst (mCons (mCallD dMax2 (mCons (mC (.int 1)) (mCons (mVar 5) (mNil)))) (mNil))) (enH ns start most sh g (some (.d (.int k))) s6 s7 s8) = .ok (.d (.list [.int m])) (enH ns start most sh g (some (.d (.int k))) s6 s7 s8) := by
            simp only [s_frz, s_lst, s_cons, s_callD, s_c, s_var, List.getElem?_cons_zero, List.getElem?_cons_succ, s_look_d, s_max2, em, s_pure, s_nil, s_lent_d, if_true, s_looks_cons, s_looks_nil, q, List.all_cons, List.all_nil, Bool.and_self, and_self]
          rw [s_frz, s_op2, h3]
          dsimp only
          rw [show mfrz (mC (.int 3)) (enH ns start most sh g (some (.d (.int k))) s6 s7 s8) = .ok (.d (.int 3)) (enH ns start most sh g (some (.d (.int k))) s6 s7 s8) from rfl]
          dsimp only
          rw [s_look_d, s_look_d]
          dsimp only
          rw [s_mulL, if_pos q2]
          rfl
        rw [s_frz, s_op2, h1]
        dsimp only
        rw [h2]
        dsimp only
        rw [s_look_d, s_look_d]
        dsimp only
        rw [s_add_l, if_pos (by simp; omega)]
        rfl
      show mSet 6 (mCall F__law_draws _) _ = _
      rw [s_set, s_call, s_cons, hA]
      dsimp only
      rw [s_cons, hB]
      dsimp only
      have hfl : flatO (.lst ([d0, d1, d2, d3].map .int)) = true := rfl
      simp only [s_nil, s_lent_d, if_true, s_looksA_cons, s_looksA_nil, s_lookA_d, hd, hfl]
      rfl
    · have a1 := ha 1 d1 m rfl rfl
      have a2 := ha 2 d2 m rfl rfl
      have a3 := ha 3 d3 m rfl rfl
      rw [mk h] at a1 a2 a3
      exact ⟨a1, a2, a3⟩
theorem forM_ok {k : Int} (k0 : 0 ≤ k) (d0 d1 d2 d3 : Int) (hd : 0 < k → (0 ≤ d1 ∧ d1 < k) ∧ (0 ≤ d2 ∧ d2 < k) ∧ (0 ≤ d3 ∧ d3 < k)) (s8 : Option SV) : ∃ row s8', forM' (enG ns start most sh g k [d0, d1, d2, d3] [] s8) = .ok .nx (enG ns start most sh g k [d0, d1, d2, d3] row s8') ∧ row.Pairwise (· < ·) ∧ ∀ x ∈ row, 0 ≤ x ∧ x < k := by
  obtain ⟨j, hj⟩ : ∃ j : Int, mfrz (mOp2 dAdd (mC (.int 1)) (mCallD dMin2 (mCons (mC (.int 3)) (mCons (mOp2 dIx (mVar 6) (mC (.int 0))) (mNil))))) (enG ns start most sh g k [d0, d1, d2, d3] [] s8) = .ok (.d (.int j)) (enG ns start most sh g k [d0, d1, d2, d3] [] s8) := by
    refine ⟨1 + (if d0 < 3 then d0 else 3), ?_⟩
    have e1 : atI ([d0, d1, d2, d3].map PyData.int) 0 = some (.int d0) := rfl
    simp only [s_frz, s_op2, s_c, s_callD, s_cons, s_var, List.getElem?_cons_zero, List.getElem?_cons_succ, s_look_d, s_look_bor, s_dIx, s_ix_l, e1, s_nil, s_lent_d, if_true, s_looks_cons, s_looks_nil, s_min2, s_dAdd_i, s_pure]
  have h1 : mfrz (mVar 6) (enG ns start most sh g k [d0, d1, d2, d3] [] s8) = .ok (.bor 6) (enG ns start most sh g k [d0, d1, d2, d3] [] s8) := rfl
  have h2 : mfrz (mC (.int 1)) (enG ns start most sh g k [d0, d1, d2, d3] [] s8) = .ok (.d (.int 1)) (enG ns start most sh g k [d0, d1, d2, d3] [] s8) := rfl
  have sub : ∀ x ∈ ([d0, d1, d2, d3].drop (HT.sIx 4 0 (some 1))).take (HT.sIx 4 4 (some j) - HT.sIx 4 0 (some 1)), x = d1 ∨ x = d2 ∨ x = d3 := fun x m => by
    have m' : x ∈ [d0, d1, d2, d3].drop 1 := List.mem_of_mem_take m
    simpa using m'
  have hlen : (([d0, d1, d2, d3].drop (HT.sIx 4 0 (some 1))).take (HT.sIx 4 4 (some j) - HT.sIx 4 0 (some 1))).length ≤ 4 := by
    rw [List.length_take, List.length_drop]
    simp
    omega
  obtain ⟨row', s8', q1, q2⟩ := loopG ns start most sh g k [d0, d1, d2, d3] k0 (([d0, d1, d2, d3].drop (HT.sIx 4 0 (some 1))).take (HT.sIx 4 4 (some j) - HT.sIx 4 0 (some 1))) [] s8 (fun hk x m => by
    obtain ⟨a1, a2, a3⟩ := hd hk
    rcases sub x m with rfl | rfl | rfl
    · exact a1
    · exact a2
    · exact a3) List.Pairwise.nil (fun x m => by cases m) (by simp only [List.length_nil]; omega)
  refine ⟨row', s8', ?_, q2⟩
  show mFor (.nm 8) [] (mSl2 (mVar 6) (some (mC (.int 1))) (some (mOp2 dAdd (mC (.int 1)) (mCallD dMin2 (mCons (mC (.int 3)) (mCons (mOp2 dIx (mVar 6) (mC (.int 0))) (mNil))))))) insB _ = _
  rw [s_for, s_frz, s_slLH h1 h2 hj rfl, s_dSl_l, cut_map]
  exact q1
theorem turnG (s0 : 0 ≤ start) {b : Int} (hb : sh[1]? = some b) (b0 : 0 ≤ b) (b1 : b ≤ 1000) (G : GOk g) (hl : g.length < 62) (s6 s7 s8 : Option SV) :
    ∃ (g' : Gr) (s6' s7' s8' : Option SV), bodyG (enH ns start most sh g (some (.d (.int g.length))) s6 s7 s8) = .ok .nx (enH ns start most sh g' (some (.d (.int g.length))) s6' s7' s8') ∧ GOk g' ∧ g'.length = g.length + 1 := by
  have hz := sizeLine_ge
  obtain ⟨x0, x1, x2, x3, h1, hd⟩ := drw_ok ns start most sh g s0 (k := (g.length : Int)) (by omega) (by omega) hb b0 b1 s6 s7 s8
  obtain ⟨row, s8', h2, p, l⟩ := forM_ok ns start most sh g (k := (g.length : Int)) (by omega) x0 x1 x2 x3 hd s8
  refine ⟨g ++ [row], some (.own (.lst ([x0, x1, x2, x3].map .int))), some (.own (.lst (row.map .int))), s8', ?_, gok_snoc G hl p l, by simp⟩
  have h3 : mSet 7 (mLst (mNil)) (enH ns start most sh g (some (.d (.int g.length))) (some (.own (.lst ([x0, x1, x2, x3].map .int)))) s7 s8) = .ok .nx (enG ns start most sh g g.length [x0, x1, x2, x3] [] s8) := by
    simp only [s_set, s_lst, s_nil, s_looks_nil, List.length_nil, List.all_nil, Nat.zero_le, and_self, if_true]
    rfl
  have hgl : (g.map rowD).length < sizeLine := by rw [List.length_map]; omega
  have h4 : mAppend 4 (mCallD (d1 dTuple) (mCons (mVar 7) (mNil))) (enG ns start most sh g g.length [x0, x1, x2, x3] row s8') = .ok .nx (enH ns start most sh (g ++ [row]) (some (.d (.int g.length))) (some (.own (.lst ([x0, x1, x2, x3].map .int)))) (some (.own (.lst (row.map .int)))) s8') := by
    simp only [s_append, s_mut, List.getElem?_cons_zero, List.getElem?_cons_succ, s_keep, s_callD, s_cons, s_frz, s_var, s_nil, s_lent_bor, if_true, s_looks_cons, s_looks_nil, s_look_bor, s_d1, s_dTuple_l, s_pure, s_fapp, hgl]
    have e : (g ++ [row]).map rowD = g.map rowD ++ [rowD row] := by rw [List.map_append]; rfl
    dsimp only [enH]
    rw [e]
    rfl
  unfold bodyG
  rw [seq_ok h1, seq_ok h3, seq_ok h2, h4]
end
theorem graph_def : m__law_graph = mSeq (mSet 3 (mCall F__law_draws (mCons (mCall F__law_cell (mCons (mVar 0) (mCons (mVar 1) (mNil)))) (mCons (mLst (mCons (mOp2 dAdd (mVar 2) (mC (.int 1))) (mCons (mC (.int 4)) (mNil)))) (mNil))))) (mSeq (mSet 4 (mLst (mNil))) (mSeq (mForR1 (.nm 5) (mCons (mOp2 dIx (mVar 3) (mC (.int 0))) (mNil)) bodyG) (mRet (mCallD (d1 dTuple) (mCons (mVar 4) (mNil)))))) := rfl
theorem gok_nil : GOk [] := ⟨by simp, (fun r m => by cases m), (fun i r h => by simp at h)⟩
theorem graph_drawn (ns : List Int) {start most : Int} (s0 : 0 ≤ start) (m0 : 0 ≤ most) (m1 : most ≤ 62) : ∃ g, F__law_graph [scrD ns, .int start, .int most] = .ok (.d (gD g)) [] ∧ GOk g ∧ (g.length : Int) ≤ most := by
  have hz := sizeLine_ge
  obtain ⟨z, hzz⟩ := cell_ok ns s0
  have B : Bnds [most + 1, 4] := ⟨by simp, fun x hx => by simp at hx; omega, fun x hx => by simp at hx; omega⟩
  obtain ⟨sh, hd, hl, ha⟩ := draws_ok z [most + 1, 4] B
  match sh, hl with
  | [a, b], _ =>
    have ha0 := ha 0 a (most + 1) rfl rfl
    have hb0 := ha 1 b 4 rfl rfl
    have h5 : [scrD ns, PyData.int start, PyData.int most].map (fun d => some (SV.d d)) ++ List.replicate (10 - 3) none = [some (.d (scrD ns)), some (.d (.int start)), some (.d (.int most)), none, none, none, none, none, none, none] := rfl
    have h1 : mSet 3 (mCall F__law_draws (mCons (mCall F__law_cell (mCons (mVar 0) (mCons (mVar 1) (mNil)))) (mCons (mLst (mCons (mOp2 dAdd (mVar 2) (mC (.int 1))) (mCons (mC (.int 4)) (mNil)))) (mNil)))) [some (.d (scrD ns)), some (.d (.int start)), some (.d (.int most)), none, none, none, none, none, none, none] =
        .ok .nx [some (.d (scrD ns)), some (.d (.int start)), some (.d (.int most)), some (.own (.lst ([a, b].map .int))), none, none, none, none, none, none] := by
      have hA : mfrz (mCall F__law_cell (mCons (mVar 0) (mCons (mVar 1) (mNil)))) [some (.d (scrD ns)), some (.d (.int start)), some (.d (.int most)), none, none, none, none, none, none, none] = .ok (.d (.int z)) [some (.d (scrD ns)), some (.d (.int start)), some (.d (.int most)), none, none, none, none, none, none, none] := by
        simp only [s_frz, s_call, s_cons, s_var, List.getElem?_cons_zero, List.getElem?_cons_succ, s_nil, s_lent_d, if_true, s_looksA_cons, s_looksA_nil, s_lookA_d, hzz, flat]
      have hB : mfrz (mLst (mCons (mOp2 dAdd (mVar 2) (mC (.int 1))) (mCons (mC (.int 4)) (mNil)))) [some (.d (scrD ns)), some (.d (.int start)), some (.d (.int most)), none, none, none, none, none, none, none] = .ok (.d (.list ([most + 1, 4].map .int))) [some (.d (scrD ns)), some (.d (.int start)), some (.d (.int most)), none, none, none, none, none, none, none] := by
        have q : ([PyData.int (most + 1), PyData.int 4] : List D).length ≤ sizeLine := by simp; omega
        simp only [s_frz, s_lst, s_cons, s_op2, s_c, s_var, List.getElem?_cons_zero, List.getElem?_cons_succ, s_look_d, s_dAdd_i, s_pure, s_nil, s_lent_d, if_true, s_looks_cons, s_looks_nil, q, List.all_cons, List.all_nil, Bool.and_self, and_self]
        rfl
      rw [s_set, s_call, s_cons, hA]
      dsimp only
      rw [s_cons, hB]
      dsimp only
      have hfl : flatO (.lst ([a, b].map .int)) = true := rfl
      simp only [s_nil, s_lent_d, if_true, s_looksA_cons, s_looksA_nil, s_lookA_d, hd, hfl]
      rfl
    have h2 : mSet 4 (mLst (mNil)) [some (.d (scrD ns)), some (.d (.int start)), some (.d (.int most)), some (.own (.lst ([a, b].map .int))), none, none, none, none, none, none] = .ok .nx (enH ns start most [a, b] [] none none none none) := by
      simp only [s_set, s_lst, s_nil, s_looks_nil, List.length_nil, List.all_nil, Nat.zero_le, and_self, if_true]
      rfl
    obtain ⟨e', q1, g, s5, s6, s7, s8, he, G, hgl⟩ := for_inv (tg := .nm 5) (body := bodyG) (ds := rngD 0 a.toNat) (e := enH ns start most [a, b] [] none none none none)
      (fun i e => ∃ (g : Gr) (s5 s6 s7 s8 : Option SV), e = enH ns start most [a, b] g s5 s6 s7 s8 ∧ GOk g ∧ g.length = i) (fun i d e hi ⟨g, s5, s6, s7, s8, he, G, hgl⟩ => by
        obtain ⟨li, rfl⟩ := rng_get hi
        subst he
        subst hgl
        rw [Int.zero_add]
        obtain ⟨g', s6', s7', s8', t1, t2, t3⟩ := turnG ns start most [a, b] g s0 (b := b) rfl hb0.1 (by omega) G (by omega) s6 s7 s8
        exact ⟨_, _, rfl, .inl t1, g', _, s6', s7', s8', rfl, t2, t3⟩) ⟨[], none, none, none, none, rfl, gok_nil, rfl⟩
    subst he
    have hln : (rngD 0 a.toNat).length = a.toNat := by simp [rngD]
    refine ⟨g, ?_, G, by omega⟩
    refine run_ok rfl (e := enH ns start most [a, b] g s5 s6 s7 s8) ?_
    have hf : mForR1 (.nm 5) (mCons (mOp2 dIx (mVar 3) (mC (.int 0))) (mNil)) bodyG (enH ns start most [a, b] [] none none none none) = .ok .nx (enH ns start most [a, b] g s5 s6 s7 s8) := by
      rw [forR1_run (j := a) (e := enH ns start most [a, b] [] none none none none) _ ha0.1 (by omega)]
      · exact q1
      · have e1 : atI ([a, b].map PyData.int) 0 = some (.int a) := rfl
        simp only [s_cons, s_frz, s_op2, s_var, List.getElem?_cons_zero, List.getElem?_cons_succ, s_c, s_look_d, s_look_bor, s_dIx, s_ix_l, e1, s_nil, s_lent_d, if_true]
    rw [graph_def, h5, seq_ok h1, seq_ok h2, seq_ok hf]
    simp only [s_ret, s_callD, s_cons, s_frz, s_var, List.getElem?_cons_zero, List.getElem?_cons_succ, s_nil, s_lent_bor, if_true, s_looks_cons, s_looks_nil, s_look_bor, s_d1, s_dTuple_l, s_pure]
    rfl
end KG

namespace L2
open PySem PySem.Spec PyProof.Rows
theorem cut_drop (ds : List D) {c : Int} (h : 0 ≤ c) : L2.cutD ds (some c) none = ds.drop c.toNat := by
  unfold L2.cutD
  have e1 : HT.sIx ds.length ds.length none = ds.length := rfl
  have e2 : HT.sIx ds.length 0 (some c) = min c.toNat ds.length := by
    show (if c < 0 then (c + (ds.length : Int)).toNat else min c.toNat ds.length) = _
    rw [if_neg (by omega)]
  rw [e1, e2]
  by_cases hc : c.toNat ≤ ds.length
  · rw [Nat.min_eq_left hc, List.take_of_length_le (by rw [List.length_drop]; exact Nat.le_refl _)]
  · rw [Nat.min_eq_right (by omega), Nat.sub_self, List.take_zero, List.drop_eq_nil_of_le (by omega)]
theorem lcR_run {en : En} {tg : Tg} {vs : List Nat} {mas : M (List SV)} {mc : M Bool} {me : M SV} {e : En} {j : Int} (h : mas en = .ok [.d (.int j)] e) (h0 : 0 ≤ j) (h1 : j ≤ 1000000) : mLcR tg vs mas mc me en = mComp tg vs mc me (rngD 0 j.toNat) e := by
  rw [s_lcR, h]
  show (if -(2 ^ 62) ≤ j ∧ j < 2 ^ 62 then mComp tg vs mc me (rngD 0 j.toNat) e else .stuck) = _
  rw [if_pos ⟨by omega, by omega⟩]
end L2
namespace KG
open PySem PySem.Spec PyProof.Rows L2
theorem lfree_ok {g : Gr} (G : GOk g) (done : List Int) : F__law_free [gD g, .list (done.map .int)] = .ok (.own (.lst ((lwFree g done).map .int))) [] := by
  have hz := sizeLine_ge
  have hg := G.few
  have hin : ∀ k : Int, 0 ≤ k → k < g.length → mComp (.nm 3) [3] (mB (mOp2 dNin (mVar 3) (mVar 1))) (mVar 3) ((rowOf g k).map .int) [some (.d (gD g)), some (.d (.list (done.map .int))), some (.d (.int k)), none] =
      .ok (.own (.lst (((rowOf g k).filter fun p => !decide (p ∈ done)).map .int))) [some (.d (gD g)), some (.d (.list (done.map .int))), some (.d (.int k)), none] := fun k h0 h1 => by
    have hf := row_few G h0 h1
    refine comp_emb (f := PyData.int) (p := fun p => !decide (p ∈ done)) (g := PyData.int) (rowOf g k) rfl (fun p m => ?_) (by omega)
    refine ⟨[some (.d (gD g)), some (.d (.list (done.map .int))), some (.d (.int k)), some (.d (.int p))], rfl, ?_, fun _ => ?_⟩
    · simp only [s_B, s_op2, s_frz, s_var, List.getElem?_cons_zero, List.getElem?_cons_succ, s_look_d, s_dNin, inD_l]
    · simp only [s_keep, s_var, List.getElem?_cons_zero, List.getElem?_cons_succ]
  have hc : mComp (.nm 2) [2] (mAndT (mB (mOp2 dNin (mVar 2) (mVar 1))) (mB (mOp2 dEq (mLc (.nm 3) [3] (mOp2 dIx (mVar 0) (mVar 2)) (mB (mOp2 dNin (mVar 3) (mVar 1))) (mVar 3)) (mLst (mNil))))) (mVar 2) ((rngI g.length).map .int) [some (.d (gD g)), some (.d (.list (done.map .int))), none, none] =
      .ok (.own (.lst ((lwFree g done).map .int))) [some (.d (gD g)), some (.d (.list (done.map .int))), none, none] := by
    refine comp_emb (f := PyData.int) (p := fun k => !decide (k ∈ done) && isFr g done k) (g := PyData.int) (rngI g.length) rfl (fun k m => ?_) (by rw [rng_len]; omega)
    obtain ⟨h0, h1⟩ := mem_rng.mp m
    refine ⟨[some (.d (gD g)), some (.d (.list (done.map .int))), some (.d (.int k)), none], rfl, ?_, fun _ => ?_⟩
    · have e0 : rowD (rowOf g k) = .tuple ((rowOf g k).map .int) := rfl
      have hi := ix_row g h0 h1
      have e2 : decide ((rowOf g k).filter (fun p => !decide (p ∈ done)) = []) = isFr g done k := by
        rw [Bool.eq_iff_iff, decide_eq_true_eq, isFr_iff, List.filter_eq_nil_iff]
        exact ⟨fun h p mp => Classical.byContradiction fun n => h p mp (by simp [n]), fun h p mp z => by simp [h p mp] at z⟩
      by_cases hk : k ∈ done
      · simp only [s_andT, s_B, s_op2, s_frz, s_var, List.getElem?_cons_zero, List.getElem?_cons_succ, s_look_d, s_dNin, inD_l, hk, decide_true, Bool.not_true, Bool.false_and]
      · have q : mfrz (mLc (.nm 3) [3] (mOp2 dIx (mVar 0) (mVar 2)) (mB (mOp2 dNin (mVar 3) (mVar 1))) (mVar 3)) [some (.d (gD g)), some (.d (.list (done.map .int))), some (.d (.int k)), none] = .ok (.d (.list (((rowOf g k).filter fun p => !decide (p ∈ done)).map .int))) [some (.d (gD g)), some (.d (.list (done.map .int))), some (.d (.int k)), none] := by
          rw [s_frz, s_lc, s_frz, s_op2]
          simp only [s_frz, s_var, List.getElem?_cons_zero, List.getElem?_cons_succ, s_look_d, s_dIx, hi, e0, hin k h0 h1]
        have q2 : mfrz (mLst (mNil)) [some (.d (gD g)), some (.d (.list (done.map .int))), some (.d (.int k)), none] = .ok (.d (.list (([] : List Int).map .int))) [some (.d (gD g)), some (.d (.list (done.map .int))), some (.d (.int k)), none] := by
          simp only [s_frz, s_lst, s_nil, s_looks_nil, List.length_nil, List.all_nil, Nat.zero_le, and_self, if_true, List.map_nil]
        rw [s_andT]
        have t1 : mB (mOp2 dNin (mVar 2) (mVar 1)) [some (.d (gD g)), some (.d (.list (done.map .int))), some (.d (.int k)), none] = .ok true [some (.d (gD g)), some (.d (.list (done.map .int))), some (.d (.int k)), none] := by
          simp only [s_B, s_op2, s_frz, s_var, List.getElem?_cons_zero, List.getElem?_cons_succ, s_look_d, s_dNin, inD_l, hk, decide_false, Bool.not_false]
        rw [t1]
        dsimp only
        rw [s_B, s_op2, q]
        dsimp only
        rw [q2]
        dsimp only
        rw [s_look_d, s_look_d]
        dsimp only
        rw [s_dEq, eq_ints, e2]
        simp only [hk, decide_false, Bool.not_false, Bool.true_and]
    · simp only [s_keep, s_var, List.getElem?_cons_zero, List.getElem?_cons_succ]
  refine run_own rfl (e := [some (.d (gD g)), some (.d (.list (done.map .int))), none, none]) ?_
  unfold m__law_free
  have h5 : [gD g, PyData.list (done.map PyData.int)].map (fun d => some (SV.d d)) ++ List.replicate (4 - 2) none = [some (.d (gD g)), some (.d (.list (done.map .int))), none, none] := rfl
  have eg : gD g = .tuple (g.map rowD) := rfl
  rw [h5]
  have hl : mCons (mCallD (d1 dLen) (mCons (mVar 0) (mNil))) (mNil) [some (.d (gD g)), some (.d (.list (done.map .int))), none, none] = .ok [.d (.int g.length)] [some (.d (gD g)), some (.d (.list (done.map .int))), none, none] := by
    simp only [s_cons, s_frz, s_callD, s_var, List.getElem?_cons_zero, s_nil, s_lent_d, if_true, s_looks_cons, s_looks_nil, s_look_d, s_d1, eg, s_len_t, List.length_map, s_pure]
  rw [s_ret, lcR_run hl (by omega) (by omega), Int.toNat_natCast, rngD_rng, hc]
/-! ### _law_listed -/
abbrev enW (g : Gr) (c : Int) (order done : List Int) (steps : List (List Int)) (s5 s6 s7 : Option SV) : En :=
  [some (.d (gD g)), some (.d (.int c)), some (.d (.list (order.map .int))), some (.own (.lst (done.map .int))), some (.own (.lst (steps.map rowD))), s5, s6, s7, none, none]
noncomputable abbrev bodyW : M Ct := mSeq (mSet 6 (mCall F__law_free (mCons (mVar 0) (mCons (mVar 3) (mNil))))) (mSeq (mIfS (mB (mOp2 dEq (mVar 6) (mLst (mNil)))) (mpure .bk) (mNx)) (mSeq (mSet 7 (mSl2 (mLc (.nm 8) [8] (mVar 2) (mB (mOp2 dIn (mVar 8) (mVar 6))) (mVar 8)) none (some (mVar 1)))) (mSeq (mAppend 4 (mCallD (d1 dTuple) (mCons (mLcR (.nm 9) [9] (mCons (mCallD (d1 dLen) (mCons (mVar 0) (mNil))) (mNil)) (mB (mOp2 dIn (mVar 9) (mVar 7))) (mVar 9)) (mNil)))) (mSet 3 (mOp2 dAdd (mVar 3) (mVar 7))))))
section
variable {g : Gr} (G : GOk g) {c : Int} (hc : 0 ≤ c) {order done : List Int} {steps : List (List Int)} {s5 s6 s7 : Option SV}
include G hc
theorem w1 : mSet 6 (mCall F__law_free (mCons (mVar 0) (mCons (mVar 3) (mNil)))) (enW g c order done steps s5 s6 s7) = .ok .nx (enW g c order done steps s5 (some (.own (.lst ((lwFree g done).map .int)))) s7) := by
  have hf : flatO (.lst ((lwFree g done).map .int)) = true := flats_ints _
  have ha : mCons (mVar 0) (mCons (mVar 3) (mNil)) (enW g c order done steps s5 s6 s7) = .ok [.d (gD g), .bor 3] (enW g c order done steps s5 s6 s7) := by
    simp only [s_cons, s_frz, s_var, List.getElem?_cons_zero, List.getElem?_cons_succ, s_nil, s_lent_d, s_lent_bor, if_true]
  have hl : looksA (enW g c order done steps s5 s6 s7) [.d (gD g), .bor 3] = some [gD g, .list (done.map .int)] := by
    simp only [s_looksA_cons, s_looksA_nil, s_lookA_d, s_lookA_bor, List.getElem?_cons_zero, List.getElem?_cons_succ]
  rw [set_own (call_own ha hl (lfree_ok G done) hf)]
  rfl
theorem w2 (fr : List Int) : mB (mOp2 dEq (mVar 6) (mLst (mNil))) (enW g c order done steps s5 (some (.own (.lst (fr.map .int)))) s7) = .ok (decide (fr = [])) (enW g c order done steps s5 (some (.own (.lst (fr.map .int)))) s7) := by
  have q2 : mfrz (mLst (mNil)) (enW g c order done steps s5 (some (.own (.lst (fr.map .int)))) s7) = .ok (.d (.list (([] : List Int).map .int))) (enW g c order done steps s5 (some (.own (.lst (fr.map .int)))) s7) := by
    simp only [s_frz, s_lst, s_nil, s_looks_nil, List.length_nil, List.all_nil, Nat.zero_le, and_self, if_true, List.map_nil]
  rw [s_B, s_op2]
  rw [show mfrz (mVar 6) (enW g c order done steps s5 (some (.own (.lst (fr.map .int)))) s7) = .ok (.bor 6) (enW g c order done steps s5 (some (.own (.lst (fr.map .int)))) s7) from rfl]
  dsimp only
  rw [q2]
  dsimp only
  rw [s_look_bor, s_look_d]
  simp only [List.getElem?_cons_zero, List.getElem?_cons_succ, s_dEq, eq_ints]
theorem w3 (fr : List Int) (ho : order.length ≤ 1000) : mSet 7 (mSl2 (mLc (.nm 8) [8] (mVar 2) (mB (mOp2 dIn (mVar 8) (mVar 6))) (mVar 8)) none (some (mVar 1))) (enW g c order done steps s5 (some (.own (.lst (fr.map .int)))) s7) =
    .ok .nx (enW g c order done steps s5 (some (.own (.lst (fr.map .int)))) (some (.own (.lst (((order.filter fun k => decide (k ∈ fr)).take c.toNat).map .int))))) := by
  have hz := sizeLine_ge
  have h1 : mComp (.nm 8) [8] (mB (mOp2 dIn (mVar 8) (mVar 6))) (mVar 8) (order.map .int) (enW g c order done steps s5 (some (.own (.lst (fr.map .int)))) s7) = .ok (.own (.lst ((order.filter fun k => decide (k ∈ fr)).map .int))) (enW g c order done steps s5 (some (.own (.lst (fr.map .int)))) s7) := by
    refine comp_emb (f := PyData.int) (p := fun k => decide (k ∈ fr)) (g := PyData.int) order rfl (fun k m => ?_) (by omega)
    refine ⟨[some (.d (gD g)), some (.d (.int c)), some (.d (.list (order.map .int))), some (.own (.lst (done.map .int))), some (.own (.lst (steps.map rowD))), s5, some (.own (.lst (fr.map .int))), s7, some (.d (.int k)), none], rfl, ?_, fun _ => ?_⟩
    · simp only [s_B, s_op2, s_frz, s_var, List.getElem?_cons_zero, List.getElem?_cons_succ, s_look_d, s_look_bor, s_dIn, inD_l]
    · simp only [s_keep, s_var, List.getElem?_cons_zero, List.getElem?_cons_succ]
  have h2 : mfrz (mLc (.nm 8) [8] (mVar 2) (mB (mOp2 dIn (mVar 8) (mVar 6))) (mVar 8)) (enW g c order done steps s5 (some (.own (.lst (fr.map .int)))) s7) = .ok (.d (.list ((order.filter fun k => decide (k ∈ fr)).map .int))) (enW g c order done steps s5 (some (.own (.lst (fr.map .int)))) s7) := by
    rw [s_frz, s_lc, s_frz, s_var]
    simp only [List.getElem?_cons_zero, List.getElem?_cons_succ, h1]
  have h3 : mfrz (mVar 1) (enW g c order done steps s5 (some (.own (.lst (fr.map .int)))) s7) = .ok (.d (.int c)) (enW g c order done steps s5 (some (.own (.lst (fr.map .int)))) s7) := rfl
  rw [s_set, s_slH h2 h3 rfl, s_dSl_l]
  dsimp only
  rw [cut_take _ hc, ← List.map_take]
  rfl
theorem w4 (ch : List Int) (hs : steps.length < 100000) : mAppend 4 (mCallD (d1 dTuple) (mCons (mLcR (.nm 9) [9] (mCons (mCallD (d1 dLen) (mCons (mVar 0) (mNil))) (mNil)) (mB (mOp2 dIn (mVar 9) (mVar 7))) (mVar 9)) (mNil))) (enW g c order done steps s5 s6 (some (.own (.lst (ch.map .int))))) =
    .ok .nx (enW g c order done (steps ++ [(rngI g.length).filter fun k => decide (k ∈ ch)]) s5 s6 (some (.own (.lst (ch.map .int))))) := by
  have hz := sizeLine_ge
  have hg := G.few
  have h1 : mComp (.nm 9) [9] (mB (mOp2 dIn (mVar 9) (mVar 7))) (mVar 9) ((rngI g.length).map .int) (enW g c order done steps s5 s6 (some (.own (.lst (ch.map .int))))) = .ok (.own (.lst (((rngI g.length).filter fun k => decide (k ∈ ch)).map .int))) (enW g c order done steps s5 s6 (some (.own (.lst (ch.map .int))))) := by
    refine comp_emb (f := PyData.int) (p := fun k => decide (k ∈ ch)) (g := PyData.int) (rngI g.length) rfl (fun k m => ?_) (by rw [rng_len]; omega)
    refine ⟨[some (.d (gD g)), some (.d (.int c)), some (.d (.list (order.map .int))), some (.own (.lst (done.map .int))), some (.own (.lst (steps.map rowD))), s5, s6, some (.own (.lst (ch.map .int))), none, some (.d (.int k))], rfl, ?_, fun _ => ?_⟩
    · simp only [s_B, s_op2, s_frz, s_var, List.getElem?_cons_zero, List.getElem?_cons_succ, s_look_d, s_look_bor, s_dIn, inD_l]
    · simp only [s_keep, s_var, List.getElem?_cons_zero, List.getElem?_cons_succ]
  have eg : gD g = .tuple (g.map rowD) := rfl
  have hl : mCons (mCallD (d1 dLen) (mCons (mVar 0) (mNil))) (mNil) (enW g c order done steps s5 s6 (some (.own (.lst (ch.map .int))))) = .ok [.d (.int g.length)] (enW g c order done steps s5 s6 (some (.own (.lst (ch.map .int))))) := by
    simp only [s_cons, s_frz, s_callD, s_var, List.getElem?_cons_zero, s_nil, s_lent_d, if_true, s_looks_cons, s_looks_nil, s_look_d, s_d1, eg, s_len_t, List.length_map, s_pure]
  have h2 : mfrz (mLcR (.nm 9) [9] (mCons (mCallD (d1 dLen) (mCons (mVar 0) (mNil))) (mNil)) (mB (mOp2 dIn (mVar 9) (mVar 7))) (mVar 9)) (enW g c order done steps s5 s6 (some (.own (.lst (ch.map .int))))) = .ok (.d (.list (((rngI g.length).filter fun k => decide (k ∈ ch)).map .int))) (enW g c order done steps s5 s6 (some (.own (.lst (ch.map .int))))) := by
    rw [s_frz, lcR_run hl (by omega) (by omega), Int.toNat_natCast, rngD_rng, h1]
  have hsl : (steps.map rowD).length < sizeLine := by rw [List.length_map]; omega
  have h3 : mkeep (mCallD (d1 dTuple) (mCons (mLcR (.nm 9) [9] (mCons (mCallD (d1 dLen) (mCons (mVar 0) (mNil))) (mNil)) (mB (mOp2 dIn (mVar 9) (mVar 7))) (mVar 9)) (mNil))) (enW g c order done steps s5 s6 (some (.own (.lst (ch.map .int))))) = .ok (.d (rowD ((rngI g.length).filter fun k => decide (k ∈ ch)))) (enW g c order done steps s5 s6 (some (.own (.lst (ch.map .int))))) := by
    rw [s_keep, callD_ok (cons_ok h2 (s_nil) rfl) rfl]
    rfl
  rw [append_ok rfl h3 rfl hsl]
  have e : (steps ++ [(rngI g.length).filter fun k => decide (k ∈ ch)]).map rowD = steps.map rowD ++ [rowD ((rngI g.length).filter fun k => decide (k ∈ ch))] := by rw [List.map_append]; rfl
  dsimp only [enW]
  rw [e]
  rfl
theorem w5 (ch : List Int) (hs : done.length + ch.length ≤ 1000000) : mSet 3 (mOp2 dAdd (mVar 3) (mVar 7)) (enW g c order done steps s5 s6 (some (.own (.lst (ch.map .int))))) = .ok .nx (enW g c order (done ++ ch) steps s5 s6 (some (.own (.lst (ch.map .int))))) := by
  have hz := sizeLine_ge
  have hl : (done.map PyData.int).length + (ch.map PyData.int).length ≤ sizeLine := by rw [List.length_map, List.length_map]; omega
  simp only [s_set, s_op2, s_frz, s_var, List.getElem?_cons_zero, List.getElem?_cons_succ, s_look_bor, s_add_l, hl, if_true]
  have e : (done ++ ch).map PyData.int = done.map PyData.int ++ ch.map PyData.int := List.map_append
  dsimp only [enW]
  rw [e]
  rfl
end
theorem loopW {g : Gr} (G : GOk g) {c : Int} (hc : 0 ≤ c) {order : List Int} (ho : order.length ≤ 62) : ∀ (ds : List D) (done : List Int) (steps : List (List Int)) (s5 s6 s7 : Option SV), done.length + 62 * ds.length ≤ 10000 → steps.length + ds.length ≤ 10000 →
    ∃ done' s5' s6' s7', forGo (.nm 5) none bodyW ds (enW g c order done steps s5 s6 s7) = .ok .nx (enW g c order done' (steps ++ lw g c.toNat order ds.length done) s5' s6' s7')
  | [], done, steps, s5, s6, s7, _, _ => ⟨done, s5, s6, s7, by rw [for_nil rfl]; simp [lw]⟩
  | d :: r, done, steps, s5, s6, s7, h1, h2 => by
    simp only [List.length_cons] at h1 h2
    have t1 := w1 G hc (order := order) (done := done) (steps := steps) (s5 := some (.d d)) (s6 := s6) (s7 := s7)
    have t2 := w2 G hc (order := order) (done := done) (steps := steps) (s5 := some (.d d)) (s7 := s7) (lwFree g done)
    by_cases e : lwFree g done = []
    · refine ⟨done, some (.d d), some (.own (.lst ((lwFree g done).map .int))), s7, ?_⟩
      rw [decide_eq_true e] at t2
      have hb : bodyW (enW g c order done steps (some (.d d)) s6 s7) = .ok .bk (enW g c order done steps (some (.d d)) (some (.own (.lst ((lwFree g done).map .int)))) s7) := by
        unfold bodyW
        rw [seq_ok t1, s_seq, s_ifS, t2]
        rfl
      rw [for_bk rfl rfl hb, List.length_cons, lw, if_pos e, List.append_nil]
    · rw [decide_eq_false e] at t2
      have t3 := w3 G hc (order := order) (done := done) (steps := steps) (s5 := some (.d d)) (s7 := s7) (lwFree g done) (by omega)
      have hcl : (lwStep g c.toNat order done).length ≤ 62 := by
        unfold lwStep
        rw [List.length_take]
        have : (order.filter fun k => decide (k ∈ lwFree g done)).length ≤ _ := List.length_filter_le _ _
        omega
      have t4 := w4 G hc (order := order) (done := done) (steps := steps) (s5 := some (.d d)) (s6 := some (.own (.lst ((lwFree g done).map .int)))) (lwStep g c.toNat order done) (by omega)
      have t5 := w5 G hc (order := order) (done := done) (steps := steps ++ [(rngI g.length).filter fun k => decide (k ∈ lwStep g c.toNat order done)]) (s5 := some (.d d)) (s6 := some (.own (.lst ((lwFree g done).map .int)))) (lwStep g c.toNat order done) (by omega)
      obtain ⟨done', s5', s6', s7', hr⟩ := loopW G hc ho r (done ++ lwStep g c.toNat order done) (steps ++ [(rngI g.length).filter fun k => decide (k ∈ lwStep g c.toNat order done)]) (some (.d d)) (some (.own (.lst ((lwFree g done).map .int)))) (some (.own (.lst ((lwStep g c.toNat order done).map .int)))) (by simp; omega) (by simp; omega)
      refine ⟨done', s5', s6', s7', ?_⟩
      have hif : mIfS (mB (mOp2 dEq (mVar 6) (mLst (mNil)))) (mpure .bk) (mNx) (enW g c order done steps (some (.d d)) (some (.own (.lst ((lwFree g done).map .int)))) s7) = .ok .nx (enW g c order done steps (some (.d d)) (some (.own (.lst ((lwFree g done).map .int)))) s7) := by
        rw [s_ifS, t2]
        rfl
      have hb : bodyW (enW g c order done steps (some (.d d)) s6 s7) = .ok .nx (enW g c order (done ++ lwStep g c.toNat order done) (steps ++ [(rngI g.length).filter fun k => decide (k ∈ lwStep g c.toNat order done)]) (some (.d d)) (some (.own (.lst ((lwFree g done).map .int)))) (some (.own (.lst ((lwStep g c.toNat order done).map .int))))) := by
        unfold bodyW
        rw [seq_ok t1, seq_ok hif, seq_ok t3]
        show mSeq _ _ (enW g c order done steps (some (.d d)) (some (.own (.lst ((lwFree g done).map .int)))) (some (.own (.lst ((lwStep g c.toNat order done).map .int))))) = _
        rw [seq_ok t4, t5]
      rw [for_step rfl rfl hb, hr, List.length_cons, lw, if_neg e, List.append_assoc]
      rfl
theorem llisted_def : m__law_listed = mSeq (mSet 3 (mLst (mNil))) (mSeq (mSet 4 (mLst (mNil))) (mSeq (mForR1 (.nm 5) (mCons (mCallD (d1 dLen) (mCons (mVar 0) (mNil))) (mNil)) bodyW) (mRet (mCallD (d1 dTuple) (mCons (mVar 4) (mNil)))))) := rfl
theorem llisted_ok {g : Gr} (G : GOk g) {c : Int} (hc : 0 ≤ c) {order : List Int} (ho : order.length ≤ 62) : F__law_listed [gD g, .int c, .list (order.map .int)] = .ok (.d (.tuple ((lw g c.toNat order g.length []).map rowD))) [] := by
  have hg := G.few
  have hln : (rngD 0 g.length).length = g.length := by simp [rngD]
  obtain ⟨done', s5', s6', s7', hr⟩ := loopW G hc ho (rngD 0 g.length) [] [] none none none (by simp only [List.length_nil]; omega) (by simp only [List.length_nil]; omega)
  rw [hln, List.nil_append] at hr
  refine run_ok rfl (e := enW g c order done' (lw g c.toNat order g.length []) s5' s6' s7') ?_
  have h5 : [gD g, PyData.int c, PyData.list (order.map PyData.int)].map (fun d => some (SV.d d)) ++ List.replicate (10 - 3) none = [some (.d (gD g)), some (.d (.int c)), some (.d (.list (order.map .int))), none, none, none, none, none, none, none] := rfl
  have h1 : mSet 3 (mLst (mNil)) [some (.d (gD g)), some (.d (.int c)), some (.d (.list (order.map .int))), none, none, none, none, none, none, none] = .ok .nx [some (.d (gD g)), some (.d (.int c)), some (.d (.list (order.map .int))), some (.own (.lst [])), none, none, none, none, none, none] := by
    simp only [s_set, s_lst, s_nil, s_looks_nil, List.length_nil, List.all_nil, Nat.zero_le, and_self, if_true]
    rfl
  have h2 : mSet 4 (mLst (mNil)) [some (.d (gD g)), some (.d (.int c)), some (.d (.list (order.map .int))), some (.own (.lst [])), none, none, none, none, none, none] = .ok .nx (enW g c order [] [] none none none) := by
    simp only [s_set, s_lst, s_nil, s_looks_nil, List.length_nil, List.all_nil, Nat.zero_le, and_self, if_true]
    rfl
  have eg : gD g = .tuple (g.map rowD) := rfl
  have hf : mForR1 (.nm 5) (mCons (mCallD (d1 dLen) (mCons (mVar 0) (mNil))) (mNil)) bodyW (enW g c order [] [] none none none) = .ok .nx (enW g c order done' (lw g c.toNat order g.length []) s5' s6' s7') := by
    rw [forR1_run (j := (g.length : Int)) (e := enW g c order [] [] none none none) _ (by omega) (by omega)]
    · rw [Int.toNat_natCast]
      exact hr
    · simp only [s_cons, s_frz, s_callD, s_var, List.getElem?_cons_zero, s_nil, s_lent_d, if_true, s_looks_cons, s_looks_nil, s_look_d, s_d1, eg, s_len_t, List.length_map, s_pure]
  rw [llisted_def, h5, seq_ok h1, seq_ok h2, seq_ok hf]
  simp only [s_ret, s_callD, s_cons, s_frz, s_var, List.getElem?_cons_zero, List.getElem?_cons_succ, s_nil, s_lent_bor, if_true, s_looks_cons, s_looks_nil, s_look_bor, s_d1, s_dTuple_l, s_pure]
end KG

namespace KG
open PySem PySem.Spec PyProof.Rows L2
abbrev enO (cell n : Int) (dr left order : List Int) (s5 : Option SV) : En :=
  [some (.d (.int cell)), some (.d (.int n)), some (.own (.lst (dr.map .int))), some (.own (.lst (left.map .int))), some (.own (.lst (order.map .int))), s5]
noncomputable abbrev bodyO : M Ct := mSeq (mAppend 4 (mOp2 dIx (mVar 3) (mOp2 dIx (mVar 2) (mVar 5)))) (mSet 3 (mOp2 dAdd (mSl2 (mVar 3) none (some (mOp2 dIx (mVar 2) (mVar 5)))) (mSl2 (mVar 3) (some (mOp2 dAdd (mOp2 dIx (mVar 2) (mVar 5)) (mC (.int 1)))) none)))
theorem cut_perm (l : List Int) {j : Nat} {x : Int} (h : l[j]? = some x) (a : List Int) : ((a ++ [x]) ++ (l.take j ++ l.drop (j + 1))).Perm (a ++ l) := by
  have e : l = l.take j ++ x :: l.drop (j + 1) := by
    have hj := (List.getElem?_eq_some_iff.mp h)
    obtain ⟨hl, hx⟩ := hj
    rw [← hx, ← List.drop_eq_getElem_cons hl, List.take_append_drop]
  rw [List.append_assoc]
  refine List.Perm.append_left a ?_
  refine List.Perm.trans ?_ (List.Perm.of_eq e.symm)
  rw [List.singleton_append]
  exact List.perm_middle.symm
section
variable (cell n : Int) (dr left order : List Int)
theorem turnO {i : Nat} {d x : Int} (hd : dr[i]? = some d) (d0 : 0 ≤ d) (hx : left[d.toNat]? = some x) (hl : left.length ≤ 1000) (ho : order.length ≤ 1000) :
    bodyO (enO cell n dr left order (some (.d (.int i)))) = .ok .nx (enO cell n dr (left.take d.toNat ++ left.drop (d.toNat + 1)) (order ++ [x]) (some (.d (.int i)))) := by
  have hz := sizeLine_ge
  have e1 : atI (dr.map PyData.int) (i : Int) = some (.int d) := atI_at (by omega) (by rw [Int.toNat_natCast, List.getElem?_map, hd]; rfl)
  have e2 : atI (left.map PyData.int) d = some (.int x) := atI_at d0 (by rw [List.getElem?_map, hx]; rfl)
  have hix : ∀ (order : List Int), mfrz (mOp2 dIx (mVar 2) (mVar 5)) (enO cell n dr left order (some (.d (.int i)))) = .ok (.d (.int d)) (enO cell n dr left order (some (.d (.int i)))) := fun order => by
    simp only [s_frz, s_op2, s_var, List.getElem?_cons_zero, List.getElem?_cons_succ, s_look_d, s_look_bor, s_dIx, s_ix_l, e1]
  have h1 : mAppend 4 (mOp2 dIx (mVar 3) (mOp2 dIx (mVar 2) (mVar 5))) (enO cell n dr left order (some (.d (.int i)))) = .ok .nx (enO cell n dr left (order ++ [x]) (some (.d (.int i)))) := by
    have hk : mkeep (mOp2 dIx (mVar 3) (mOp2 dIx (mVar 2) (mVar 5))) (enO cell n dr left order (some (.d (.int i)))) = .ok (.d (.int x)) (enO cell n dr left order (some (.d (.int i)))) := by
      rw [s_keep, op2_ok (a := .bor 3) rfl (hix order) rfl rfl]
      simp only [s_dIx, s_ix_l, e2]
    have hlo : (order.map PyData.int).length < sizeLine := by rw [List.length_map]; omega
    rw [append_ok rfl hk rfl hlo]
    have e : (order ++ [x]).map PyData.int = order.map PyData.int ++ [PyData.int x] := by rw [List.map_append]; rfl
    dsimp only [enO]
    rw [e]
    rfl
  have h2 : mfrz (mSl2 (mVar 3) none (some (mOp2 dIx (mVar 2) (mVar 5)))) (enO cell n dr left (order ++ [x]) (some (.d (.int i)))) = .ok (.d (.list ((left.take d.toNat).map .int))) (enO cell n dr left (order ++ [x]) (some (.d (.int i)))) := by
    refine frz_own ?_
    rw [s_slH (sv := .bor 3) rfl (hix (order ++ [x])) rfl, s_dSl_l, cut_take _ d0, List.map_take]
  have h3 : mfrz (mSl2 (mVar 3) (some (mOp2 dAdd (mOp2 dIx (mVar 2) (mVar 5)) (mC (.int 1)))) none) (enO cell n dr left (order ++ [x]) (some (.d (.int i)))) = .ok (.d (.list ((left.drop (d.toNat + 1)).map .int))) (enO cell n dr left (order ++ [x]) (some (.d (.int i)))) := by
    refine frz_own ?_
    have hj : mfrz (mOp2 dAdd (mOp2 dIx (mVar 2) (mVar 5)) (mC (.int 1))) (enO cell n dr left (order ++ [x]) (some (.d (.int i)))) = .ok (.d (.int (d + 1))) (enO cell n dr left (order ++ [x]) (some (.d (.int i)))) := by
      refine frz_d ?_
      rw [op2_ok (hix (order ++ [x])) rfl rfl rfl, s_dAdd_i]
      rfl
    rw [s_slL (sv := .bor 3) rfl hj rfl, s_dSl_l, cut_drop _ (by omega), List.map_drop, show (d + 1).toNat = d.toNat + 1 by omega]
  have hlen : ((left.take d.toNat).map PyData.int).length + ((left.drop (d.toNat + 1)).map PyData.int).length ≤ sizeLine := by
    rw [List.length_map, List.length_map, List.length_take, List.length_drop]
    omega
  have h4 : mSet 3 (mOp2 dAdd (mSl2 (mVar 3) none (some (mOp2 dIx (mVar 2) (mVar 5)))) (mSl2 (mVar 3) (some (mOp2 dAdd (mOp2 dIx (mVar 2) (mVar 5)) (mC (.int 1)))) none)) (enO cell n dr left (order ++ [x]) (some (.d (.int i)))) = .ok .nx (enO cell n dr (left.take d.toNat ++ left.drop (d.toNat + 1)) (order ++ [x]) (some (.d (.int i)))) := by
    refine (set_own (o := .lst ((left.take d.toNat).map .int ++ (left.drop (d.toNat + 1)).map .int)) (e := enO cell n dr left (order ++ [x]) (some (.d (.int i)))) ?_).trans ?_
    · rw [op2_ok h2 h3 rfl rfl, s_add_l, if_pos hlen]
    · rw [← List.map_append]
      rfl
  unfold bodyO
  rw [seq_ok h1, h4]
end
theorem order_def : m__law_order = mSeq (mSet 2 (mCall F__law_draws (mCons (mVar 0) (mCons (mOp2 dAdd (mLcR (.nm 5) [5] (mCons (mVar 1) (mNil)) (mYes) (mCallD dMax2 (mCons (mC (.int 1)) (mCons (mOp2 dSub (mVar 1) (mVar 5)) (mNil))))) (mLst (mCons (mC (.int 1)) (mNil)))) (mNil))))) (mSeq (mSet 3 (mLRange (mVar 1))) (mSeq (mSet 4 (mLst (mNil))) (mSeq (mForR1 (.nm 5) (mCons (mVar 1) (mNil)) bodyO) (mRet (mVar 4))))) := rfl
/-- the bounds of what is drawn -/
def bndO (n : Nat) : List Int := ((rngI n).map fun k => if (n : Int) - k > 1 then (n : Int) - k else 1) ++ [1]
theorem bndO_get {n i : Nat} (h : i < n) : (bndO n)[i]? = some ((n : Int) - i) := by
  unfold bndO
  rw [List.getElem?_append_left (by rw [List.length_map, rng_len]; exact h), List.getElem?_map]
  have e : (rngI n)[i]? = some (i : Int) := by
    unfold rngI
    rw [List.getElem?_map, List.getElem?_range h]
    rfl
  rw [e]
  simp only [Option.map_some]
  congr 1
  split <;> omega
theorem order_ok (cell : Int) {n : Nat} (hn : n ≤ 62) : ∃ o, F__law_order [.int cell, .int n] = .ok (.own (.lst (o.map .int))) [] ∧ Ord n o := by
  have hz := sizeLine_ge
  have B : Bnds (bndO n) := by
    refine ⟨by unfold bndO; simp [rng_len]; omega, fun b m => ?_, fun b m => ?_⟩ <;>
      (unfold bndO at m
       rcases List.mem_append.mp m with m | m
       · obtain ⟨k, mk, rfl⟩ := List.mem_map.mp m
         have := mem_rng.mp mk
         split <;> omega
       · rw [List.mem_singleton.mp m]; omega)
  obtain ⟨dr, hd, hdl, hda⟩ := draws_ok cell (bndO n) B
  have hdl' : dr.length = n + 1 := by rw [hdl]; unfold bndO; simp [rng_len]
  have h5 : [PyData.int cell, PyData.int n].map (fun d => some (SV.d d)) ++ List.replicate (6 - 2) none = [some (.d (.int cell)), some (.d (.int n)), none, none, none, none] := rfl
  have hc : mfrz (mLcR (.nm 5) [5] (mCons (mVar 1) (mNil)) (mYes) (mCallD dMax2 (mCons (mC (.int 1)) (mCons (mOp2 dSub (mVar 1) (mVar 5)) (mNil))))) [some (.d (.int cell)), some (.d (.int n)), none, none, none, none] = .ok (.d (.list (((rngI n).map fun k => if (n : Int) - k > 1 then (n : Int) - k else 1).map .int))) [some (.d (.int cell)), some (.d (.int n)), none, none, none, none] := by
    refine frz_own ?_
    rw [lcR_run (mas := mCons (mVar 1) mNil) (j := (n : Int)) (e := [some (.d (.int cell)), some (.d (.int n)), none, none, none, none]) rfl (by omega) (by omega), Int.toNat_natCast, rngD_rng]
    rw [comp_emb (f := PyData.int) (p := fun _ => true) (g := fun k => .int (if (n : Int) - k > 1 then (n : Int) - k else 1)) (rngI n) rfl (fun k m => ?_) (by rw [rng_len]; omega)]
    · rw [List.filter_eq_self.mpr fun _ _ => rfl, List.map_map]
      rfl
    · refine ⟨[some (.d (.int cell)), some (.d (.int n)), none, none, none, some (.d (.int k))], rfl, rfl, fun _ => ?_⟩
      simp only [s_keep, s_callD, s_cons, s_frz, s_c, s_op2, s_var, List.getElem?_cons_zero, List.getElem?_cons_succ, s_look_d, s_sub, s_pure, s_nil, s_lent_d, if_true, s_looks_cons, s_looks_nil, s_max2]
  have hB : mfrz (mOp2 dAdd (mLcR (.nm 5) [5] (mCons (mVar 1) (mNil)) (mYes) (mCallD dMax2 (mCons (mC (.int 1)) (mCons (mOp2 dSub (mVar 1) (mVar 5)) (mNil))))) (mLst (mCons (mC (.int 1)) (mNil)))) [some (.d (.int cell)), some (.d (.int n)), none, none, none, none] = .ok (.d (.list ((bndO n).map .int))) [some (.d (.int cell)), some (.d (.int n)), none, none, none, none] := by
    refine frz_own ?_
    have h1 : mfrz (mLst (mCons (mC (.int 1)) (mNil))) [some (.d (.int cell)), some (.d (.int n)), none, none, none, none] = .ok (.d (.list (([1] : List Int).map .int))) [some (.d (.int cell)), some (.d (.int n)), none, none, none, none] := by
      have q : ([PyData.int 1] : List D).length ≤ sizeLine := by simp; omega
      simp only [s_frz, s_lst, s_cons, s_c, s_nil, s_lent_d, if_true, s_looks_cons, s_looks_nil, s_look_d, q, List.all_cons, List.all_nil, Bool.and_self, and_self]
      rfl
    have q : (((rngI n).map fun k => if (n : Int) - k > 1 then (n : Int) - k else 1).map PyData.int).length + (([1] : List Int).map PyData.int).length ≤ sizeLine := by
      rw [List.length_map, List.length_map, rng_len]
      simp
      omega
    rw [op2_ok hc h1 rfl rfl, s_add_l, if_pos q, ← List.map_append]
    rfl
  have h1 : mSet 2 (mCall F__law_draws (mCons (mVar 0) (mCons (mOp2 dAdd (mLcR (.nm 5) [5] (mCons (mVar 1) (mNil)) (mYes) (mCallD dMax2 (mCons (mC (.int 1)) (mCons (mOp2 dSub (mVar 1) (mVar 5)) (mNil))))) (mLst (mCons (mC (.int 1)) (mNil)))) (mNil)))) [some (.d (.int cell)), some (.d (.int n)), none, none, none, none] = .ok .nx [some (.d (.int cell)), some (.d (.int n)), some (.own (.lst (dr.map .int))), none, none, none] := by
    rw [set_own (call_own (cons_ok (a := .d (.int cell)) rfl (cons_ok hB s_nil rfl) rfl) rfl hd (flats_ints dr))]
    rfl
  have h2 : mSet 3 (mLRange (mVar 1)) [some (.d (.int cell)), some (.d (.int n)), some (.own (.lst (dr.map .int))), none, none, none] = .ok .nx [some (.d (.int cell)), some (.d (.int n)), some (.own (.lst (dr.map .int))), some (.own (.lst ((rngI n).map .int))), none, none] := by
    have q : ∀ j : Int, 0 ≤ j → j ≤ 100 → ∀ e : En, e[1]? = some (some (.d (.int j))) → mLRange (mVar 1) e = .ok (.own (.lst (rngD 0 j.toNat))) e := fun j a b e he => by
      rw [s_lrange, s_frz, s_var, he]
      dsimp only
      rw [s_look_d]
      dsimp only
      rw [if_pos ⟨by omega, by omega⟩]
    rw [set_own (q n (by omega) (by omega) _ rfl), Int.toNat_natCast, rngD_rng]
    rfl
  have h3 : mSet 4 (mLst (mNil)) [some (.d (.int cell)), some (.d (.int n)), some (.own (.lst (dr.map .int))), some (.own (.lst ((rngI n).map .int))), none, none] = .ok .nx (enO cell n dr (rngI n) [] none) := by
    simp only [s_set, s_lst, s_nil, s_looks_nil, List.length_nil, List.all_nil, Nat.zero_le, and_self, if_true]
    rfl
  obtain ⟨e', q1, left, order, s5, he, hll, hol, hp⟩ := for_inv (tg := .nm 5) (body := bodyO) (ds := rngD 0 n) (e := enO cell n dr (rngI n) [] none)
    (fun i e => ∃ (left order : List Int) (s5 : Option SV), e = enO cell n dr left order s5 ∧ left.length + i = n ∧ order.length = i ∧ (order ++ left).Perm (rngI n)) (fun i d e hi ⟨left, order, s5, he, hll, hol, hp⟩ => by
      obtain ⟨li, rfl⟩ := rng_get hi
      subst he
      rw [Int.zero_add]
      have hdi : dr[i]? = some dr[i] := List.getElem?_eq_getElem (by omega)
      have hb := hda i dr[i] ((n : Int) - i) hdi (bndO_get li)
      have hlt : dr[i].toNat < left.length := by omega
      have hx : left[dr[i].toNat]? = some left[dr[i].toNat] := List.getElem?_eq_getElem hlt
      have t := turnO cell n dr left order hdi hb.1 hx (by omega) (by omega)
      refine ⟨_, _, rfl, .inl t, _, _, _, rfl, ?_, by simp [hol], ?_⟩
      · rw [List.length_append, List.length_take, List.length_drop]
        omega
      · exact (cut_perm left hx order).trans hp) ⟨rngI n, [], none, rfl, by rw [rng_len]; rfl, rfl, List.Perm.refl _⟩
  subst he
  have hln : (rngD 0 n).length = n := by simp [rngD]
  rw [hln] at hll hol
  have hl0 : left = [] := List.length_eq_zero_iff.mp (by omega)
  subst hl0
  rw [List.append_nil] at hp
  refine ⟨order, ?_, ⟨hp.nodup_iff.mpr (rng_nodup n), fun k => hp.mem_iff.trans mem_rng⟩⟩
  refine run_bor rfl (e := enO cell n dr [] order s5) (i := 4) (o := .lst (order.map .int)) ?_ rfl
  have hf : mForR1 (.nm 5) (mCons (mVar 1) (mNil)) bodyO (enO cell n dr (rngI n) [] none) = .ok .nx (enO cell n dr [] order s5) := by
    rw [forR1_run (mas := mCons (mVar 1) mNil) (j := (n : Int)) (e := enO cell n dr (rngI n) [] none) rfl (by omega) (by omega), Int.toNat_natCast]
    exact q1
  rw [order_def, h5, seq_ok h1, seq_ok h2, seq_ok h3, seq_ok hf]
  rfl
end KG

namespace KG
open PySem PySem.Spec PyProof.Rows L2
/-! ### the text of what is listed -/
def smallI (x : Int) : Prop := 0 ≤ x ∧ x < 62
theorem small_text {x : Int} (h : smallI x) : (PyData.shown (.int x)).length ≤ 4 ∧ PyData.showable (.int x) = true := by
  have key : ∀ k ∈ List.range 62, (PyData.shown (.int (k : Nat))).length ≤ 4 ∧ PyData.showable (.int (k : Nat)) = true := by decide +kernel
  have e : x = ((x.toNat : Nat) : Int) := by have := h.1; omega
  rw [e]
  exact key _ (List.mem_range.mpr (by have := h.1; have := h.2; omega))
theorem row_text : ∀ {r : List Int}, (∀ x ∈ r, smallI x) → (((PyData.shownAll (r.map .int)).map (·.length)).sum ≤ 4 * r.length ∧ (PyData.shownAll (r.map .int)).length = r.length) ∧ PyData.showableAll (r.map .int) = true
  | [], _ => ⟨⟨by simp [PyData.shownAll], rfl⟩, rfl⟩
  | x :: r, h => by
    obtain ⟨h1, h2⟩ := small_text (h x List.mem_cons_self)
    obtain ⟨⟨h3, h4⟩, h5⟩ := row_text (r := r) fun y m => h y (List.mem_cons_of_mem _ m)
    refine ⟨⟨?_, ?_⟩, ?_⟩
    · rw [List.map_cons, PyData.shownAll, List.map_cons, List.sum_cons, List.length_cons]
      omega
    · rw [List.map_cons, PyData.shownAll, List.length_cons, List.length_cons, h4]
    · rw [List.map_cons, PyData.showableAll, h2, h5]
      rfl
theorem rowD_text {r : List Int} (h : ∀ x ∈ r, smallI x) (hl : r.length ≤ 62) : (PyData.shown (rowD r)).length ≤ 400 ∧ PyData.showable (rowD r) = true := by
  obtain ⟨⟨h3, h4⟩, h5⟩ := row_text h
  refine ⟨?_, ?_⟩
  · show (tupleText (PyData.shownAll (r.map .int))).length ≤ 400
    have := tupleText_len_le (PyData.shownAll (r.map .int))
    omega
  · show PyData.showableAll (r.map .int) = true
    exact h5
theorem rows_text : ∀ {s : List (List Int)}, (∀ r ∈ s, (∀ x ∈ r, smallI x) ∧ r.length ≤ 62) → (((PyData.shownAll (s.map rowD)).map (·.length)).sum ≤ 400 * s.length ∧ (PyData.shownAll (s.map rowD)).length = s.length) ∧ PyData.showableAll (s.map rowD) = true
  | [], _ => ⟨⟨by simp [PyData.shownAll], rfl⟩, rfl⟩
  | r :: s, h => by
    obtain ⟨h1, h2⟩ := rowD_text (h r List.mem_cons_self).1 (h r List.mem_cons_self).2
    obtain ⟨⟨h3, h4⟩, h5⟩ := rows_text (s := s) fun y m => h y (List.mem_cons_of_mem _ m)
    refine ⟨⟨?_, ?_⟩, ?_⟩
    · rw [List.map_cons, PyData.shownAll, List.map_cons, List.sum_cons, List.length_cons]
      omega
    · rw [List.map_cons, PyData.shownAll, List.length_cons, List.length_cons, h4]
    · rw [List.map_cons, PyData.showableAll, h2, h5]
      rfl
theorem rows_plain (s : List (List Int)) : plains (s.map rowD) = true := by
  induction s with
  | nil => rfl
  | cons r s ih =>
    rw [List.map_cons]
    show (plains (r.map .int) && plains (s.map rowD)) = true
    rw [ih, ints_plain]
    rfl
theorem rows_lay (s : List (List Int)) : PyData.canLayAll0 (s.map rowD) = true := by
  induction s with
  | nil => simp [PyData.canLayAll0]
  | cons r s ih =>
    have e : PyData.canLay0 (rowD r) = true := by
      show PyData.canLay0 (.tuple (r.map .int)) = true
      simp only [PyData.canLay0, ints_lay]
    simp only [List.map_cons, PyData.canLayAll0, e, ih, Bool.and_self]
theorem rows_depth (s : List (List Int)) : PyData.depthAll (s.map rowD) ≤ 1 := by
  induction s with
  | nil => simp [PyData.depthAll]
  | cons r s ih =>
    have e : PyData.depth (rowD r) = 1 := by
      show PyData.depth (.tuple (r.map .int)) = 1
      simp only [PyData.depth, ints_depth]
    simp only [List.map_cons, PyData.depthAll, e]
    omega
theorem rows_shaped (s : List (List Int)) : SeqAt.shaped (.tuple (s.map rowD)) = true := by
  have h := rows_depth s
  show (PyData.canLay0 (.tuple (s.map rowD)) && decide (PyData.depth (.tuple (s.map rowD)) ≤ 64)) = true
  rw [Bool.and_eq_true]
  refine ⟨by simp only [PyData.canLay0]; exact rows_lay s, decide_eq_true ?_⟩
  simp only [PyData.depth]
  omega
/-- the text of a schedule: some text -/
theorem repr_rows {s : List (List Int)} (hl : s.length ≤ 100) (h : ∀ r ∈ s, (∀ x ∈ r, smallI x) ∧ r.length ≤ 62) : ∃ z, reprD (.tuple (s.map rowD)) = some z := by
  obtain ⟨⟨h3, h4⟩, h5⟩ := rows_text h
  have hz := sizeLine_ge
  have ht : (PyData.shown (.tuple (s.map rowD))).length ≤ sizeLine := by
    show (tupleText (PyData.shownAll (s.map rowD))).length ≤ sizeLine
    have := tupleText_len_le (PyData.shownAll (s.map rowD))
    omega
  have hs : PyData.showable (.tuple (s.map rowD)) = true := h5
  refine ⟨PyData.shown (.tuple (s.map rowD)), ?_⟩
  show (if plains (s.map rowD) = true ∧ SeqAt.shaped (.tuple (s.map rowD)) = true ∧ PyData.showable (.tuple (s.map rowD)) = true ∧ (PyData.shown (.tuple (s.map rowD))).length ≤ sizeLine then some (PyData.shown (.tuple (s.map rowD))) else none) = _
  rw [if_pos ⟨rows_plain s, rows_shaped s, hs, ht⟩]
theorem lw_small {g : Gr} (G : GOk g) (c : Nat) (order : List Int) : ∀ (m : Nat) (done : List Int), (lw g c order m done).length ≤ m ∧ ∀ r ∈ lw g c order m done, (∀ x ∈ r, smallI x) ∧ r.length ≤ 62
  | 0, done => ⟨Nat.le_refl _, fun r m => by cases m⟩
  | m + 1, done => by
    have hg := G.few
    rw [lw]
    split
    · exact ⟨Nat.zero_le _, fun r m => by cases m⟩
    · obtain ⟨h1, h2⟩ := lw_small G c order m (done ++ lwStep g c order done)
      refine ⟨by rw [List.length_cons]; omega, fun r mr => ?_⟩
      rcases List.mem_cons.mp mr with rfl | mr
      · refine ⟨fun x mx => ?_, ?_⟩
        · have := mem_rng.mp (List.mem_filter.mp mx).1
          exact ⟨this.1, by omega⟩
        · refine Nat.le_trans (List.length_filter_le _ _) ?_
          rw [rng_len]
          exact hg
      · exact h2 r mr
end KG

namespace K17
open PySem PySem.Spec PyProof.Rows L2
/-! ### the text -/
def top (i : Nat) : Stmt := PySem.Challenge.pw_forkspan_k17_series_and_parallel.main.body.getD i (.Pass ⟨0, 0, 0, 0⟩)
abbrev s_is_integer : Stmt := top 1
abbrev N_is_integer : List Str := ["value"]
theorem sc_is_integer : FnScope N_is_integer ["value"] (defScope s_is_integer) := ⟨rfl, rfl, rfl, by decide +kernel, rfl, by decide +kernel, by decide +kernel⟩
abbrev s_is_row : Stmt := top 7
abbrev N_is_row : List Str := ["value", "limit", "node"]
theorem sc_is_row : FnScope N_is_row ["value", "limit"] (defScope s_is_row) := ⟨rfl, rfl, rfl, by decide +kernel, rfl, by decide +kernel, by decide +kernel⟩
abbrev s_is_graph : Stmt := top 6
abbrev N_is_graph : List Str := ["value", "node", "row"]
theorem sc_is_graph : FnScope N_is_graph ["value"] (defScope s_is_graph) := ⟨rfl, rfl, rfl, by decide +kernel, rfl, by decide +kernel, by decide +kernel⟩
abbrev s_check_graph : Stmt := top 8
abbrev N_check_graph : List Str := ["graph"]
theorem sc_check_graph : FnScope N_check_graph ["graph"] (defScope s_check_graph) := ⟨rfl, rfl, rfl, by decide +kernel, rfl, by decide +kernel, by decide +kernel⟩
abbrev s_work : Stmt := top 9
abbrev N_work : List Str := ["graph"]
theorem sc_work : FnScope N_work ["graph"] (defScope s_work) := ⟨rfl, rfl, rfl, by decide +kernel, rfl, by decide +kernel, by decide +kernel⟩
abbrev s_heads : Stmt := top 10
abbrev N_heads : List Str := ["graph", "counts", "row", "node"]
theorem sc_heads : FnScope N_heads ["graph"] (defScope s_heads) := ⟨rfl, rfl, rfl, by decide +kernel, rfl, by decide +kernel, by decide +kernel⟩
abbrev s_tails : Stmt := top 11
abbrev N_tails : List Str := ["graph", "counts", "node", "ahead", "row"]
theorem sc_tails : FnScope N_tails ["graph"] (defScope s_tails) := ⟨rfl, rfl, rfl, by decide +kernel, rfl, by decide +kernel, by decide +kernel⟩
abbrev s_span : Stmt := top 12
abbrev N_span : List Str := ["graph", "head"]
theorem sc_span : FnScope N_span ["graph"] (defScope s_span) := ⟨rfl, rfl, rfl, by decide +kernel, rfl, by decide +kernel, by decide +kernel⟩
abbrev s_moved : Stmt := top 15
abbrev N_moved : List Str := ["graph", "by", "row", "node"]
theorem sc_moved : FnScope N_moved ["graph", "by"] (defScope s_moved) := ⟨rfl, rfl, rfl, by decide +kernel, rfl, by decide +kernel, by decide +kernel⟩
abbrev s_in_series : Stmt := top 13
abbrev N_in_series : List Str := ["graph", "other", "ends", "node", "tail", "row"]
theorem sc_in_series : FnScope N_in_series ["graph", "other"] (defScope s_in_series) := ⟨rfl, rfl, rfl, by decide +kernel, rfl, by decide +kernel, by decide +kernel⟩
abbrev s_in_parallel : Stmt := top 14
abbrev N_in_parallel : List Str := ["graph", "other"]
theorem sc_in_parallel : FnScope N_in_parallel ["graph", "other"] (defScope s_in_parallel) := ⟨rfl, rfl, rfl, by decide +kernel, rfl, by decide +kernel, by decide +kernel⟩
abbrev s__law_draws : Stmt := top 17
abbrev N__law_draws : List Str := ["script", "k", "bounds", "cell", "rest", "drawn", "j", "mixed"]
theorem sc__law_draws : FnScope N__law_draws ["script", "k", "bounds"] (defScope s__law_draws) := ⟨rfl, rfl, rfl, by decide +kernel, rfl, by decide +kernel, by decide +kernel⟩
abbrev s__law_equal : Stmt := top 18
abbrev N__law_equal : List Str := ["actual", "expected", "k"]
theorem sc__law_equal : FnScope N__law_equal ["actual", "expected"] (defScope s__law_equal) := ⟨rfl, rfl, rfl, by decide +kernel, rfl, by decide +kernel, by decide +kernel⟩
abbrev s__law_graph : Stmt := top 19
abbrev N__law_graph : List Str := ["script", "k", "most", "drawn", "graph", "i", "row", "number", "behind", "j", "near"]
theorem sc__law_graph : FnScope N__law_graph ["script", "k", "most"] (defScope s__law_graph) := ⟨rfl, rfl, rfl, by decide +kernel, rfl, by decide +kernel, by decide +kernel⟩
abbrev s__law_heads : Stmt := top 20
abbrev N__law_heads : List Str := ["graph", "counts", "row", "count", "j"]
theorem sc__law_heads : FnScope N__law_heads ["graph"] (defScope s__law_heads) := ⟨rfl, rfl, rfl, by decide +kernel, rfl, by decide +kernel, by decide +kernel⟩
abbrev s__law_span : Stmt := top 21
abbrev N__law_span : List Str := ["graph", "most", "count"]
theorem sc__law_span : FnScope N__law_span ["graph"] (defScope s__law_span) := ⟨rfl, rfl, rfl, by decide +kernel, rfl, by decide +kernel, by decide +kernel⟩
abbrev s__law_no_graph : Stmt := top 22
abbrev N__law_no_graph : List Str := ["script", "k", "drawn"]
theorem sc__law_no_graph : FnScope N__law_no_graph ["script", "k"] (defScope s__law_no_graph) := ⟨rfl, rfl, rfl, by decide +kernel, rfl, by decide +kernel, by decide +kernel⟩
abbrev s__law_joined : Stmt := top 23
abbrev N__law_joined : List Str := ["graph", "other", "series", "size", "last", "i", "followed", "row", "joined", "shifted", "j"]
theorem sc__law_joined : FnScope N__law_joined ["graph", "other", "series"] (defScope s__law_joined) := ⟨rfl, rfl, rfl, by decide +kernel, rfl, by decide +kernel, by decide +kernel⟩
abbrev s__law_told : Stmt := top 24
abbrev N__law_told : List Str := ["graph", "other", "series", "graph_error"]
theorem sc__law_told : FnScope N__law_told ["graph", "other", "series"] (defScope s__law_told) := ⟨rfl, rfl, rfl, by decide +kernel, rfl, by decide +kernel, by decide +kernel⟩
abbrev s__law_is_right : Stmt := top 25
abbrev N__law_is_right : List Str := ["graph", "other", "one", "two", "series", "beside", "joined"]
theorem sc__law_is_right : FnScope N__law_is_right ["graph", "other"] (defScope s__law_is_right) := ⟨rfl, rfl, rfl, by decide +kernel, rfl, by decide +kernel, by decide +kernel⟩
abbrev s_law : Stmt := top 26
abbrev N_law : List Str := ["script", "graph", "other", "pair", "both", "no_graph", "second", "series"]
theorem sc_law : FnScope N_law ["script"] (defScope s_law) := ⟨rfl, rfl, rfl, by decide +kernel, rfl, by decide +kernel, by decide +kernel⟩
abbrev s_InvalidGraph_init : Stmt := inClass (top 4) 0
theorem sc_InvalidGraph_init : FnScope ["self", "value"] ["self", "value"] (defScope s_InvalidGraph_init) := ⟨rfl, rfl, rfl, by decide +kernel, rfl, by decide +kernel, by decide +kernel⟩
/-! ### what the top has written -/
structure Top (K : Kf) (mg : Str → Option Value) where
  f_is_integer : Addr
  fd_is_integer : FuncData
  F_is_integer : Fun K "is_integer" "is_integer" s_is_integer f_is_integer fd_is_integer
  g_is_integer : mg "is_integer" = some (.ref f_is_integer)
  b_is_integer : Binds K fd_is_integer ["value"] []
  kb_is_integer : KwB K fd_is_integer ["value"]
  f_is_row : Addr
  fd_is_row : FuncData
  F_is_row : Fun K "is_row" "is_row" s_is_row f_is_row fd_is_row
  g_is_row : mg "is_row" = some (.ref f_is_row)
  b_is_row : Binds K fd_is_row ["value", "limit"] []
  kb_is_row : KwB K fd_is_row ["value", "limit"]
  f_is_graph : Addr
  fd_is_graph : FuncData
  F_is_graph : Fun K "is_graph" "is_graph" s_is_graph f_is_graph fd_is_graph
  g_is_graph : mg "is_graph" = some (.ref f_is_graph)
  b_is_graph : Binds K fd_is_graph ["value"] []
  kb_is_graph : KwB K fd_is_graph ["value"]
  f_check_graph : Addr
  fd_check_graph : FuncData
  F_check_graph : Fun K "check_graph" "check_graph" s_check_graph f_check_graph fd_check_graph
  g_check_graph : mg "check_graph" = some (.ref f_check_graph)
  b_check_graph : Binds K fd_check_graph ["graph"] []
  kb_check_graph : KwB K fd_check_graph ["graph"]
  f_work : Addr
  fd_work : FuncData
  F_work : Fun K "work" "work" s_work f_work fd_work
  g_work : mg "work" = some (.ref f_work)
  b_work : Binds K fd_work ["graph"] []
  kb_work : KwB K fd_work ["graph"]
  f_heads : Addr
  fd_heads : FuncData
  F_heads : Fun K "heads" "heads" s_heads f_heads fd_heads
  g_heads : mg "heads" = some (.ref f_heads)
  b_heads : Binds K fd_heads ["graph"] []
  kb_heads : KwB K fd_heads ["graph"]
  f_tails : Addr
  fd_tails : FuncData
  F_tails : Fun K "tails" "tails" s_tails f_tails fd_tails
  g_tails : mg "tails" = some (.ref f_tails)
  b_tails : Binds K fd_tails ["graph"] []
  kb_tails : KwB K fd_tails ["graph"]
  f_span : Addr
  fd_span : FuncData
  F_span : Fun K "span" "span" s_span f_span fd_span
  g_span : mg "span" = some (.ref f_span)
  b_span : Binds K fd_span ["graph"] []
  kb_span : KwB K fd_span ["graph"]
  f_moved : Addr
  fd_moved : FuncData
  F_moved : Fun K "moved" "moved" s_moved f_moved fd_moved
  g_moved : mg "moved" = some (.ref f_moved)
  b_moved : Binds K fd_moved ["graph", "by"] []
  kb_moved : KwB K fd_moved ["graph", "by"]
  f_in_series : Addr
  fd_in_series : FuncData
  F_in_series : Fun K "in_series" "in_series" s_in_series f_in_series fd_in_series
  g_in_series : mg "in_series" = some (.ref f_in_series)
  b_in_series : Binds K fd_in_series ["graph", "other"] []
  kb_in_series : KwB K fd_in_series ["graph", "other"]
  f_in_parallel : Addr
  fd_in_parallel : FuncData
  F_in_parallel : Fun K "in_parallel" "in_parallel" s_in_parallel f_in_parallel fd_in_parallel
  g_in_parallel : mg "in_parallel" = some (.ref f_in_parallel)
  b_in_parallel : Binds K fd_in_parallel ["graph", "other"] []
  kb_in_parallel : KwB K fd_in_parallel ["graph", "other"]
  f__law_draws : Addr
  fd__law_draws : FuncData
  F__law_draws : Fun K "_law_draws" "_law_draws" s__law_draws f__law_draws fd__law_draws
  g__law_draws : mg "_law_draws" = some (.ref f__law_draws)
  b__law_draws : Binds K fd__law_draws ["script", "k", "bounds"] []
  kb__law_draws : KwB K fd__law_draws ["script", "k", "bounds"]
  f__law_equal : Addr
  fd__law_equal : FuncData
  F__law_equal : Fun K "_law_equal" "_law_equal" s__law_equal f__law_equal fd__law_equal
  g__law_equal : mg "_law_equal" = some (.ref f__law_equal)
  b__law_equal : Binds K fd__law_equal ["actual", "expected"] []
  kb__law_equal : KwB K fd__law_equal ["actual", "expected"]
  f__law_graph : Addr
  fd__law_graph : FuncData
  F__law_graph : Fun K "_law_graph" "_law_graph" s__law_graph f__law_graph fd__law_graph
  g__law_graph : mg "_law_graph" = some (.ref f__law_graph)
  b__law_graph : Binds K fd__law_graph ["script", "k", "most"] []
  kb__law_graph : KwB K fd__law_graph ["script", "k", "most"]
  f__law_heads : Addr
  fd__law_heads : FuncData
  F__law_heads : Fun K "_law_heads" "_law_heads" s__law_heads f__law_heads fd__law_heads
  g__law_heads : mg "_law_heads" = some (.ref f__law_heads)
  b__law_heads : Binds K fd__law_heads ["graph"] []
  kb__law_heads : KwB K fd__law_heads ["graph"]
  f__law_span : Addr
  fd__law_span : FuncData
  F__law_span : Fun K "_law_span" "_law_span" s__law_span f__law_span fd__law_span
  g__law_span : mg "_law_span" = some (.ref f__law_span)
  b__law_span : Binds K fd__law_span ["graph"] []
  kb__law_span : KwB K fd__law_span ["graph"]
  f__law_no_graph : Addr
  fd__law_no_graph : FuncData
  F__law_no_graph : Fun K "_law_no_graph" "_law_no_graph" s__law_no_graph f__law_no_graph fd__law_no_graph
  g__law_no_graph : mg "_law_no_graph" = some (.ref f__law_no_graph)
  b__law_no_graph : Binds K fd__law_no_graph ["script", "k"] []
  kb__law_no_graph : KwB K fd__law_no_graph ["script", "k"]
  f__law_joined : Addr
  fd__law_joined : FuncData
  F__law_joined : Fun K "_law_joined" "_law_joined" s__law_joined f__law_joined fd__law_joined
  g__law_joined : mg "_law_joined" = some (.ref f__law_joined)
  b__law_joined : Binds K fd__law_joined ["graph", "other", "series"] []
  kb__law_joined : KwB K fd__law_joined ["graph", "other", "series"]
  f__law_told : Addr
  fd__law_told : FuncData
  F__law_told : Fun K "_law_told" "_law_told" s__law_told f__law_told fd__law_told
  g__law_told : mg "_law_told" = some (.ref f__law_told)
  b__law_told : Binds K fd__law_told ["graph", "other", "series"] []
  kb__law_told : KwB K fd__law_told ["graph", "other", "series"]
  f__law_is_right : Addr
  fd__law_is_right : FuncData
  F__law_is_right : Fun K "_law_is_right" "_law_is_right" s__law_is_right f__law_is_right fd__law_is_right
  g__law_is_right : mg "_law_is_right" = some (.ref f__law_is_right)
  b__law_is_right : Binds K fd__law_is_right ["graph", "other"] []
  kb__law_is_right : KwB K fd__law_is_right ["graph", "other"]
  f_law : Addr
  fd_law : FuncData
  F_law : Fun K "law" "law" s_law f_law fd_law
  g_law : mg "law" = some (.ref f_law)
  b_law : Binds K fd_law ["script"] []
  kb_law : KwB K fd_law ["script"]
  n_all : mg "all" = none
  n_bool : mg "bool" = none
  n_enumerate : mg "enumerate" = none
  n_int : mg "int" = none
  n_isinstance : mg "isinstance" = none
  n_len : mg "len" = none
  n_list : mg "list" = none
  n_max : mg "max" = none
  n_range : mg "range" = none
  n_reversed : mg "reversed" = none
  n_set : mg "set" = none
  n_sorted : mg "sorted" = none
  n_str : mg "str" = none
  n_tuple : mg "tuple" = none
  C_InvalidGraph : Addr
  fI_InvalidGraph : Addr
  fdI_InvalidGraph : FuncData
  g_InvalidGraph : mg "InvalidGraph" = some (.ref C_InvalidGraph)
  O_InvalidGraph : OexC K C_InvalidGraph
  X_InvalidGraph : XfC K C_InvalidGraph
  iC_InvalidGraph : W.findIn K (.ref C_InvalidGraph) "__init__" = some (some (.ref fI_InvalidGraph))
  tI_InvalidGraph : W.typeIn K (.ref fI_InvalidGraph) = some (.type "function")
  FI_InvalidGraph : Fun K "__init__" "InvalidGraph.__init__" s_InvalidGraph_init fI_InvalidGraph fdI_InvalidGraph
  bI_InvalidGraph : Binds K fdI_InvalidGraph ["self", "value"] []
  em_InvalidGraph : W.exmOne K (.ref C_InvalidGraph) (.ref C_InvalidGraph) = some true
  no_InvalidGraph_value : W.findIn K (.ref C_InvalidGraph) "value" = some none
/-! ### the mirror -/
noncomputable def m_is_integer : M Ct := mRet (mBV (mAndT (mB (mIsi .tInt (mVar 0))) (mB (mBV (mNotT (mB (mIsi .tBool (mVar 0))))))))
noncomputable def F_is_integer : Fm := runF 1 1 m_is_integer
noncomputable def m_is_row : M Ct := mSeq (mIfS (mNotT (mB (mIsi .tTuple (mVar 0)))) (mRet (mC (.bool false))) (mNx)) (mSeq (mIfS (mNotT (mB (mCallD (d1 dAll) (mCons (mLc (.nm 2) [2] (mVar 0) (mYes) (mBV (mAndT (mB (mCall F_is_integer (mCons (mVar 2) (mNil)))) (mB (mChain dLe dLt (mC (.int 0)) (mVar 2) (mVar 1)))))) (mNil))))) (mRet (mC (.bool false))) (mNx)) (mRet (mOp2 dEq (mCallD (d1 dList) (mCons (mVar 0) (mNil))) (mSortSetI (mVar 0)))))
noncomputable def F_is_row : Fm := runF 2 3 m_is_row
noncomputable def m_is_graph : M Ct := mRet (mBV (mAndT (mB (mIsi .tTuple (mVar 0))) (mB (mCallD (d1 dAll) (mCons (mLcE (.tp [1, 2]) [1, 2] (mVar 0) (mYes) (mCall F_is_row (mCons (mVar 2) (mCons (mVar 1) (mNil))))) (mNil))))))
noncomputable def F_is_graph : Fm := runF 1 3 m_is_graph
noncomputable def m_check_graph : M Ct := mIfS (mNotT (mB (mCall F_is_graph (mCons (mVar 0) (mNil))))) (mRaise "InvalidGraph" ["value"] (mCons (mVar 0) (mNil))) (mNx)
noncomputable def F_check_graph : Fm := runF 1 1 m_check_graph
noncomputable def m_work : M Ct := mSeq (mExpr (mCall F_check_graph (mCons (mVar 0) (mNil)))) (mRet (mCallD (d1 dLen) (mCons (mVar 0) (mNil))))
noncomputable def F_work : Fm := runF 1 1 m_work
noncomputable def m_heads : M Ct := mSeq (mExpr (mCall F_check_graph (mCons (mVar 0) (mNil)))) (mSeq (mSet 1 (mLst (mNil))) (mSeq (mFor (.nm 2) [] (mVar 0) (mAppend 1 (mMaxDf (mLc (.nm 3) [3] (mVar 2) (mYes) (mOp2 dAdd (mOp2 dIx (mVar 1) (mVar 3)) (mC (.int 1)))) (mC (.int 0))))) (mRet (mCallD (d1 dTuple) (mCons (mVar 1) (mNil))))))
noncomputable def F_heads : Fm := runF 1 4 m_heads
noncomputable def m_tails : M Ct := mSeq (mExpr (mCall F_check_graph (mCons (mVar 0) (mNil)))) (mSeq (mSet 1 (mLc (.nm 4) [4] (mVar 0) (mYes) (mC (.int 0)))) (mSeq (mForRev (.nm 2) (mCallD (d1 dLen) (mCons (mVar 0) (mNil))) (mFor (.nm 3) [] (mOp2 dIx (mVar 0) (mVar 2)) (mLPut 1 (mVar 3) (mCallD dMax2 (mCons (mOp2 dIx (mVar 1) (mVar 3)) (mCons (mOp2 dAdd (mOp2 dIx (mVar 1) (mVar 2)) (mC (.int 1))) (mNil))))))) (mRet (mCallD (d1 dTuple) (mCons (mVar 1) (mNil))))))
noncomputable def F_tails : Fm := runF 1 5 m_tails
noncomputable def m_span : M Ct := mRet (mMaxDf (mLc (.nm 1) [1] (mCall F_heads (mCons (mVar 0) (mNil))) (mYes) (mOp2 dAdd (mVar 1) (mC (.int 1)))) (mC (.int 0)))
noncomputable def F_span : Fm := runF 1 2 m_span
noncomputable def m_moved : M Ct := mRet (mCallD (d1 dTuple) (mCons (mLc (.nm 2) [2] (mVar 0) (mYes) (mCallD (d1 dTuple) (mCons (mLc (.nm 3) [3] (mVar 2) (mYes) (mOp2 dAdd (mVar 3) (mVar 1))) (mNil)))) (mNil)))
noncomputable def F_moved : Fm := runF 2 4 m_moved
noncomputable def m_in_series : M Ct := mSeq (mExpr (mCall F_check_graph (mCons (mVar 0) (mNil)))) (mSeq (mExpr (mCall F_check_graph (mCons (mVar 1) (mNil)))) (mSeq (mSet 2 (mCallD (d1 dTuple) (mCons (mLcE (.tp [3, 4]) [3, 4] (mCall F_tails (mCons (mVar 0) (mNil))) (mB (mOp2 dEq (mVar 4) (mC (.int 0)))) (mVar 3)) (mNil)))) (mRet (mOp2 dAdd (mVar 0) (mCallD (d1 dTuple) (mCons (mLc (.nm 5) [5] (mCall F_moved (mCons (mVar 1) (mCons (mCallD (d1 dLen) (mCons (mVar 0) (mNil))) (mNil)))) (mYes) (mIf (mTru (mVar 5)) (mVar 5) (mVar 2))) (mNil)))))))
noncomputable def F_in_series : Fm := runF 2 6 m_in_series
noncomputable def m_in_parallel : M Ct := mSeq (mExpr (mCall F_check_graph (mCons (mVar 0) (mNil)))) (mSeq (mExpr (mCall F_check_graph (mCons (mVar 1) (mNil)))) (mRet (mOp2 dAdd (mVar 0) (mCall F_moved (mCons (mVar 1) (mCons (mCallD (d1 dLen) (mCons (mVar 0) (mNil))) (mNil)))))))
noncomputable def F_in_parallel : Fm := runF 2 2 m_in_parallel
noncomputable def m__law_draws : M Ct := mSeq (mSet 3 (mC (.int 0))) (mSeq (mSet 4 (mC (.int 0))) (mSeq (mIfS (mB (mOp2 dLt (mVar 1) (mCallD (d1 dLen) (mCons (mVar 0) (mNil))))) (mSeq (mSet 3 (mCallD (d1 dInt) (mCons (mOp2 dIx (mVar 0) (mVar 1)) (mNil)))) (mSet 4 (mCallD dMax2 (mCons (mC (.int 0)) (mCons (mOp2 dSub (mVar 3) (mOp2 dPow (mC (.int 10)) (mC (.int 18)))) (mNil)))))) (mIfS (mB (mOp2 dGt (mCallD (d1 dLen) (mCons (mVar 0) (mNil))) (mC (.int 0)))) (mSet 3 (mCallD (d1 dInt) (mCons (mOp2 dIx (mVar 0) (mOp2 dMod (mCallD (d1 dInt) (mCons (mVar 1) (mNil))) (mCallD (d1 dLen) (mCons (mVar 0) (mNil))))) (mNil)))) (mNx))) (mSeq (mSet 5 (mLst (mNil))) (mSeq (mForR1 (.nm 6) (mCons (mCallD (d1 dLen) (mCons (mVar 2) (mNil))) (mNil)) (mIfS (mB (mOp2 dGt (mVar 4) (mC (.int 0)))) (mSeq (mAppend 5 (mOp2 dMod (mCallD (d1 dInt) (mCons (mVar 4) (mNil))) (mOp2 dIx (mVar 2) (mVar 6)))) (mSet 4 (mOp2 dDiv (mVar 4) (mOp2 dIx (mVar 2) (mVar 6))))) (mSeq (mSet 7 (mOp2 dMod (mCallD (d1 dInt) (mCons (mOp2 dAdd (mOp2 dAdd (mOp2 dAdd (mOp2 dMulL (mVar 3) (mC (.int 48271))) (mOp2 dMulL (mVar 1) (mC (.int 69621)))) (mOp2 dMulL (mVar 6) (mC (.int 40692)))) (mC (.int 12345))) (mNil))) (mC (.int 2147483647)))) (mSeq (mSet 7 (mOp2 dMod (mCallD (d1 dInt) (mCons (mOp2 dAdd (mOp2 dAdd (mOp2 dMulL (mVar 7) (mVar 7)) (mOp2 dMulL (mVar 6) (mC (.int 16807)))) (mC (.int 271))) (mNil))) (mC (.int 2147483563)))) (mSeq (mSet 7 (mOp2 dMod (mCallD (d1 dInt) (mCons (mOp2 dAdd (mOp2 dAdd (mOp2 dMulL (mVar 7) (mVar 7)) (mOp2 dMulL (mVar 7) (mC (.int 39373)))) (mC (.int 7))) (mNil))) (mC (.int 2147483399)))) (mAppend 5 (mOp2 dMod (mOp2 dDiv (mVar 7) (mC (.int 16))) (mOp2 dIx (mVar 2) (mVar 6))))))))) (mRet (mVar 5))))))
noncomputable def F__law_draws : Fm := runF 3 8 m__law_draws
noncomputable def m__law_equal (rec : Fm) : M Ct := mSeq (mIfS (mB (mOp2 dIs (mVar 1) (mC .none))) (mRet (mOp2 dIs (mVar 0) (mC .none))) (mNx)) (mSeq (mIfS (mB (mIsi .tBool (mVar 1))) (mRet (mBV (mAndT (mB (mIsi .tBool (mVar 0))) (mB (mOp2 dEq (mVar 0) (mVar 1)))))) (mNx)) (mSeq (mIfS (mB (mIsi .tInt (mVar 1))) (mRet (mBV (mAndT (mB (mIsi .tInt (mVar 0))) (mAndT (mB (mBV (mNotT (mB (mIsi .tBool (mVar 0)))))) (mB (mOp2 dEq (mVar 0) (mVar 1))))))) (mNx)) (mSeq (mIfS (mB (mIsi .tStr (mVar 1))) (mRet (mBV (mAndT (mB (mIsi .tStr (mVar 0))) (mB (mOp2 dEq (mVar 0) (mVar 1)))))) (mNx)) (mSeq (mIfS (mOrT (mNotT (mB (mIsi .tTuple (mVar 0)))) (mB (mOp2 dNe (mCallD (d1 dLen) (mCons (mVar 0) (mNil))) (mCallD (d1 dLen) (mCons (mVar 1) (mNil)))))) (mRet (mC (.bool false))) (mNx)) (mSeq (mForR1 (.nm 2) (mCons (mCallD (d1 dLen) (mCons (mVar 1) (mNil))) (mNil)) (mIfS (mNotT (mB (mCall rec (mCons (mOp2 dIx (mVar 0) (mVar 2)) (mCons (mOp2 dIx (mVar 1) (mVar 2)) (mNil)))))) (mRet (mC (.bool false))) (mNx))) (mRet (mC (.bool true))))))))
noncomputable def F__law_equal : Nat → Fm
  | 0 => fun _ => .stuck
  | n + 1 => runF 2 3 (m__law_equal (F__law_equal n))
noncomputable def m__law_graph : M Ct := mSeq (mSet 3 (mCall F__law_draws (mCons (mVar 0) (mCons (mVar 1) (mCons (mLst (mCons (mOp2 dAdd (mC (.int 1)) (mVar 2)) (mCons (mC (.int 5)) (mNil)))) (mNil)))))) (mSeq (mSet 4 (mLst (mNil))) (mSeq (mForR1 (.nm 5) (mCons (mOp2 dIx (mVar 3) (mC (.int 0))) (mNil)) (mSeq (mSet 6 (mCall F__law_draws (mCons (mVar 0) (mCons (mOp2 dAdd (mOp2 dAdd (mVar 1) (mC (.int 1))) (mOp2 dMod (mCallD (d1 dInt) (mCons (mVar 5) (mNil))) (mC (.int 12)))) (mCons (mLst (mCons (mC (.int 2520)) (mCons (mC (.int 6)) (mNil)))) (mNil)))))) (mSeq (mSet 7 (mOp2 dIx (mVar 6) (mC (.int 0)))) (mSeq (mSet 8 (mLst (mNil))) (mSeq (mForR1 (.nm 9) (mCons (mVar 5) (mNil)) (mSeq (mSet 10 (mOp2 dGe (mVar 9) (mOp2 dSub (mVar 5) (mC (.int 4))))) (mSeq (mIfS (mB (mOp2 dEq (mOp2 dIx (mVar 3) (mC (.int 1))) (mC (.int 1)))) (mSet 10 (mOp2 dEq (mVar 9) (mOp2 dSub (mVar 5) (mC (.int 1))))) (mNx)) (mSeq (mIfS (mB (mOp2 dEq (mOp2 dIx (mVar 3) (mC (.int 1))) (mC (.int 2)))) (mSet 10 (mOp2 dEq (mOp2 dDiv (mVar 9) (mC (.int 3))) (mOp2 dSub (mOp2 dDiv (mVar 5) (mC (.int 3))) (mC (.int 1))))) (mNx)) (mSeq (mIfS (mAndT (mTru (mVar 10)) (mB (mOp2 dGt (mOp2 dAdd (mOp2 dMod (mCallD (d1 dInt) (mCons (mVar 7) (mNil))) (mC (.int 2))) (mCallD (d1 dInt) (mCons (mBV (mAndT (mB (mOp2 dLt (mOp2 dIx (mVar 3) (mC (.int 1))) (mC (.int 3)))) (mB (mOp2 dGt (mOp2 dIx (mVar 6) (mC (.int 1))) (mC (.int 3)))))) (mNil)))) (mC (.int 0))))) (mAppend 8 (mVar 9)) (mNx)) (mIfS (mTru (mVar 10)) (mSet 7 (mOp2 dDiv (mVar 7) (mC (.int 2)))) (mNx))))))) (mSeq (mIfS (mAndT (mB (mOp2 dEq (mOp2 dIx (mVar 3) (mC (.int 1))) (mC (.int 4)))) (mB (mOp2 dLt (mOp2 dIx (mVar 6) (mC (.int 1))) (mC (.int 3))))) (mSet 8 (mLst (mNil))) (mNx)) (mAppend 4 (mCallD (d1 dTuple) (mCons (mVar 8) (mNil)))))))))) (mRet (mCallD (d1 dTuple) (mCons (mVar 4) (mNil))))))
noncomputable def F__law_graph : Fm := runF 3 11 m__law_graph
noncomputable def m__law_heads : M Ct := mSeq (mSet 1 (mLst (mNil))) (mSeq (mFor (.nm 2) [3, 4] (mVar 0) (mSeq (mSet 3 (mC (.int 0))) (mSeq (mFor (.nm 4) [3] (mVar 2) (mIfS (mB (mOp2 dGt (mOp2 dAdd (mOp2 dIx (mVar 1) (mVar 4)) (mC (.int 1))) (mVar 3))) (mSet 3 (mOp2 dAdd (mOp2 dIx (mVar 1) (mVar 4)) (mC (.int 1)))) (mNx))) (mAppend 1 (mVar 3))))) (mRet (mVar 1)))
noncomputable def F__law_heads : Fm := runF 1 5 m__law_heads
noncomputable def m__law_span : M Ct := mSeq (mSet 1 (mC (.int 0))) (mSeq (mFor (.nm 2) [1] (mCall F__law_heads (mCons (mVar 0) (mNil))) (mIfS (mB (mOp2 dGt (mOp2 dAdd (mVar 2) (mC (.int 1))) (mVar 1))) (mSet 1 (mOp2 dAdd (mVar 2) (mC (.int 1)))) (mNx))) (mRet (mVar 1)))
noncomputable def F__law_span : Fm := runF 1 3 m__law_span
noncomputable def m__law_no_graph : M Ct := mSeq (mSet 2 (mCall F__law_draws (mCons (mVar 0) (mCons (mVar 1) (mCons (mLst (mCons (mC (.int 8)) (mNil))) (mNil)))))) (mRet (mOp2 dIx (mLst (mCons (mC .none) (mCons (mTup (mCons (mTup (mCons (mC (.int 0)) (mNil))) (mNil))) (mCons (mTup (mCons (mTup (mNil)) (mCons (mTup (mCons (mC (.int 1)) (mNil))) (mNil)))) (mCons (mTup (mCons (mTup (mNil)) (mCons (mTup (mCons (mC (.int 0)) (mCons (mC (.int 0)) (mNil)))) (mNil)))) (mCons (mTup (mCons (mTup (mNil)) (mCons (mTup (mCons (mOp1 dNeg (mC (.int 1))) (mNil))) (mNil)))) (mCons (mC (.int 3)) (mCons (mTup (mCons (mTup (mNil)) (mCons (mTup (mNil)) (mCons (mTup (mCons (mC (.int 1)) (mCons (mC (.int 0)) (mNil)))) (mNil))))) (mCons (mTup (mCons (mC .none) (mNil))) (mNil)))))))))) (mOp2 dIx (mVar 2) (mC (.int 0)))))
noncomputable def F__law_no_graph : Fm := runF 2 3 m__law_no_graph
noncomputable def m__law_joined : M Ct := mSeq (mSet 3 (mCallD (d1 dLen) (mCons (mVar 0) (mNil)))) (mSeq (mSet 4 (mLst (mNil))) (mSeq (mForR1 (.nm 5) (mCons (mVar 3) (mNil)) (mSeq (mSet 6 (mC (.bool false))) (mSeq (mFor (.nm 7) [6] (mVar 0) (mIfS (mB (mOp2 dIn (mVar 5) (mVar 7))) (mSet 6 (mC (.bool true))) (mNx))) (mIfS (mNotT (mTru (mVar 6))) (mAppend 4 (mVar 5)) (mNx))))) (mSeq (mSet 8 (mCallD (d1 dList) (mCons (mVar 0) (mNil)))) (mSeq (mFor (.nm 7) [9] (mVar 1) (mSeq (mSet 9 (mCallD (d1 dTuple) (mCons (mLc (.nm 10) [10] (mVar 7) (mYes) (mOp2 dAdd (mVar 3) (mVar 10))) (mNil)))) (mSeq (mIfS (mAndT (mTru (mVar 2)) (mB (mOp2 dEq (mCallD (d1 dLen) (mCons (mVar 7) (mNil))) (mC (.int 0))))) (mSet 9 (mCallD (d1 dTuple) (mCons (mVar 4) (mNil)))) (mNx)) (mAppend 8 (mVar 9))))) (mRet (mCallD (d1 dTuple) (mCons (mVar 8) (mNil))))))))
noncomputable def F__law_joined : Fm := runF 3 11 m__law_joined
noncomputable def m__law_told : M Ct := mTry [("InvalidGraph", true)] 3 (mSeq (mIfS (mTru (mVar 2)) (mRet (mTup (mCons (mC (.str "value")) (mCons (mCall F_in_series (mCons (mVar 0) (mCons (mVar 1) (mNil)))) (mNil))))) (mNx)) (mRet (mTup (mCons (mC (.str "value")) (mCons (mCall F_in_parallel (mCons (mVar 0) (mCons (mVar 1) (mNil)))) (mNil)))))) (fun xc => mRet (mTup (mCons (mC (.str "graph")) (mCons (mXf "InvalidGraph" 3 "value" xc) (mNil)))))
noncomputable def F__law_told : Fm := runF 3 4 m__law_told
noncomputable def m__law_is_right : M Ct := mSeq (mSet 2 (mCall F__law_span (mCons (mVar 0) (mNil)))) (mSeq (mSet 3 (mCall F__law_span (mCons (mVar 1) (mNil)))) (mSeq (mSet 4 (mCall F_in_series (mCons (mVar 0) (mCons (mVar 1) (mNil))))) (mSeq (mSet 5 (mCall F_in_parallel (mCons (mVar 0) (mCons (mVar 1) (mNil))))) (mSeq (mIfS (mOrT (mNotT (mB (mCall (F__law_equal 40) (mCons (mVar 4) (mCons (mCall F__law_joined (mCons (mVar 0) (mCons (mVar 1) (mCons (mC (.bool true)) (mNil))))) (mNil)))))) (mNotT (mB (mCall (F__law_equal 40) (mCons (mVar 5) (mCons (mCall F__law_joined (mCons (mVar 0) (mCons (mVar 1) (mCons (mC (.bool false)) (mNil))))) (mNil))))))) (mRet (mC (.bool false))) (mNx)) (mSeq (mIfS (mOrT (mB (mOp2 dNis (mCall F_is_graph (mCons (mVar 4) (mNil))) (mC (.bool true)))) (mB (mOp2 dNis (mCall F_is_graph (mCons (mVar 5) (mNil))) (mC (.bool true))))) (mRet (mC (.bool false))) (mNx)) (mSeq (mFor (.nm 6) [] (mLst (mCons (mVar 4) (mCons (mVar 5) (mNil)))) (mIfS (mNotT (mB (mCall (F__law_equal 40) (mCons (mCall F_work (mCons (mVar 6) (mNil))) (mCons (mOp2 dAdd (mCallD (d1 dLen) (mCons (mVar 0) (mNil))) (mCallD (d1 dLen) (mCons (mVar 1) (mNil)))) (mNil)))))) (mRet (mC (.bool false))) (mNx))) (mRet (mBV (mAndT (mB (mCall (F__law_equal 40) (mCons (mCall F_span (mCons (mVar 4) (mNil))) (mCons (mOp2 dAdd (mVar 2) (mVar 3)) (mNil))))) (mB (mCall (F__law_equal 40) (mCons (mCall F_span (mCons (mVar 5) (mNil))) (mCons (mOp2 dAdd (mVar 2) (mOp2 dMulL (mOp2 dSub (mVar 3) (mVar 2)) (mCallD (d1 dInt) (mCons (mOp2 dGt (mVar 3) (mVar 2)) (mNil))))) (mNil))))))))))))))
noncomputable def F__law_is_right : Fm := runF 2 7 m__law_is_right
noncomputable def m_law : M Ct := mSeq (mSet 1 (mCall F__law_graph (mCons (mVar 0) (mCons (mC (.int 0)) (mCons (mC (.int 9)) (mNil)))))) (mSeq (mSet 2 (mCall F__law_graph (mCons (mVar 0) (mCons (mC (.int 20)) (mCons (mC (.int 9)) (mNil)))))) (mSeq (mFor (.nm 3) [] (mLst (mCons (mTup (mCons (mVar 1) (mCons (mVar 2) (mNil)))) (mCons (mTup (mCons (mVar 2) (mCons (mVar 1) (mNil)))) (mCons (mTup (mCons (mVar 1) (mCons (mVar 1) (mNil)))) (mCons (mTup (mCons (mVar 1) (mCons (mTup (mNil)) (mNil)))) (mCons (mTup (mCons (mTup (mNil)) (mCons (mVar 2) (mNil)))) (mNil))))))) (mIfS (mNotT (mB (mCall F__law_is_right (mCons (mOp2 dIx (mVar 3) (mC (.int 0))) (mCons (mOp2 dIx (mVar 3) (mC (.int 1))) (mNil)))))) (mRet (mC (.bool false))) (mNx))) (mSeq (mSet 4 (mCall F_in_series (mCons (mCall F_in_series (mCons (mVar 1) (mCons (mVar 2) (mNil)))) (mCons (mVar 1) (mNil))))) (mSeq (mIfS (mNotT (mB (mCall (F__law_equal 40) (mCons (mVar 4) (mCons (mCall F__law_joined (mCons (mCall F__law_joined (mCons (mVar 1) (mCons (mVar 2) (mCons (mC (.bool true)) (mNil))))) (mCons (mVar 1) (mCons (mC (.bool true)) (mNil))))) (mNil)))))) (mRet (mC (.bool false))) (mNx)) (mSeq (mIfS (mNotT (mB (mCall (F__law_equal 40) (mCons (mCall F_in_series (mCons (mVar 1) (mCons (mCall F_in_series (mCons (mVar 2) (mCons (mVar 1) (mNil)))) (mNil)))) (mCons (mVar 4) (mNil)))))) (mRet (mC (.bool false))) (mNx)) (mSeq (mSet 5 (mCall F__law_no_graph (mCons (mVar 0) (mCons (mC (.int 40)) (mNil))))) (mSeq (mSet 6 (mCall F__law_no_graph (mCons (mVar 0) (mCons (mC (.int 41)) (mNil))))) (mSeq (mFor (.nm 7) [] (mLst (mCons (mC (.bool true)) (mCons (mC (.bool false)) (mNil)))) (mSeq (mIfS (mNotT (mB (mCall (F__law_equal 40) (mCons (mCall F__law_told (mCons (mVar 5) (mCons (mVar 6) (mCons (mVar 7) (mNil))))) (mCons (mTup (mCons (mC (.str "graph")) (mCons (mVar 5) (mNil)))) (mNil)))))) (mRet (mC (.bool false))) (mNx)) (mIfS (mNotT (mB (mCall (F__law_equal 40) (mCons (mCall F__law_told (mCons (mVar 1) (mCons (mVar 6) (mCons (mVar 7) (mNil))))) (mCons (mTup (mCons (mC (.str "graph")) (mCons (mVar 6) (mNil)))) (mNil)))))) (mRet (mC (.bool false))) (mNx)))) (mRet (mC (.bool true)))))))))))
noncomputable def F_law : Fm := runF 1 8 m_law
/-! ### each def keeps it -/
section
variable {P : Program} {w : World} {K : Kf} {mg : Str → Option Value} {base : Heap}
theorem ex_InvalidGraph (T : Top K mg) : ∀ (y : Str) (b : Bool), ([("InvalidGraph", true)] : List (Str × Bool)).lookup y = some b → ∃ Cy, mg y = some (.ref Cy) ∧ W.exmOne K (.ref Cy) (.ref T.C_InvalidGraph) = some b := ex_one T.g_InvalidGraph T.em_InvalidGraph
theorem ok_init_InvalidGraph (T : Top K mg) : FnOk P w K mg base (L2N.CX P w) 1 T.fI_InvalidGraph T.fdI_InvalidGraph ["self", "value"] (spI T.C_InvalidGraph ["value"]) := ok_init1 T.FI_InvalidGraph sc_InvalidGraph_init rfl rfl T.O_InvalidGraph T.no_InvalidGraph_value fun cdv A outer s H E => pss_one (ps_ost (pe_var rfl (by first | exact .inl rfl | exact .inr rfl | exact .inr (.inl rfl) | exact .inr (.inr rfl))) (pe_var rfl (by first | exact .inl rfl | exact .inr rfl | exact .inr (.inl rfl) | exact .inr (.inr rfl))))
theorem ok_is_integer (T : Top K mg) : FnOk P w K mg base (L2N.CX P w) 1 T.f_is_integer T.fd_is_integer ["value"] (spF K mg 1 F_is_integer) :=
  fn_mir (N := N_is_integer) (m := m_is_integer) T.F_is_integer sc_is_integer fun cdv A outer s H E B hr => by
    have nd := sc_is_integer.nd
    have hu65 := hr_65 hr
    have hu64 := hr_64 hr
    have hu1 := hr_1 hr
    exact (js_one (js_ret (je_and (je_isi .tInt rfl (je_var rfl 0) (by rfl) (by rfl) T.n_isinstance (by rfl) T.n_int (by decide +kernel)) (je_one (je_not (je_isi .tBool rfl (je_var rfl 0) (by rfl) (by rfl) T.n_isinstance (by rfl) T.n_bool (by decide +kernel)))))))
theorem ok_is_row (T : Top K mg) : FnOk P w K mg base (L2N.CX P w) 2 T.f_is_row T.fd_is_row ["value", "limit"] (spF K mg 2 F_is_row) :=
  fn_mir (N := N_is_row) (m := m_is_row) T.F_is_row sc_is_row fun cdv A outer s H E B hr => by
    have nd := sc_is_row.nd
    have hu65 := hr_65 hr
    have hu64 := hr_64 hr
    have hu1 := hr_1 hr
    exact (js_cons (js_if (jt_not (jt_val (je_isi .tTuple rfl (je_var rfl 0) (by rfl) (by rfl) T.n_isinstance (by rfl) T.n_tuple (by decide +kernel)))) (js_one (js_ret (je_bl))) (js_nil)) (js_cons (js_if (jt_not (jt_val (je_callB (cr_all (by rfl)) fit_all (by rfl) T.n_all (by decide +kernel) (ja_cons (je_lc (tg := (.nm 2)) (own := [("node", 2)]) (by rfl) nd rfl (je_var rfl 0) (blkOk_by (N := N_is_row) (sc := (defScope s_is_row)) (own := [("node", 2)]) (by decide +kernel)) ⟨fun _ _ _ _ _ => pg_name (i := 2) nd rfl (by first | exact .inl rfl | exact .inr rfl | exact .inr (.inl rfl) | exact .inr (.inr rfl)), fun _ _ _ _ _ _ _ => jts_nil, fun _ _ _ _ _ _ _ => je_and (je_call (ok_is_integer T) (hr.mono (by decide)) (takes_no fun _ _ _ _ h => h) (by rfl) T.g_is_integer T.F_is_integer.kp T.b_is_integer (argN_cons argN_nil) (ja_cons (je_var rfl 2) (ja_nil))) (je_one (je_chain op_leA op_ltA fit_le fit_lt quiet_le flat_le (je_int) (je_var rfl 2) (je_var rfl 1)))⟩ (by decide)) (ja_nil))))) (js_one (js_ret (je_bl))) (js_nil)) (js_one (js_ret (je_cmp (op_eqA hu64) fit_eq (je_callTy call_list_of fit_list (by rfl) T.n_list (by decide +kernel) (ja_cons (je_var rfl 0) (ja_nil))) (je_sortedSetI (by rfl) rfl (by rfl) T.n_sorted (by rfl) T.n_set (je_var rfl 0)))))))
theorem ok_is_graph (T : Top K mg) : FnOk P w K mg base (L2N.CX P w) 3 T.f_is_graph T.fd_is_graph ["value"] (spF K mg 1 F_is_graph) :=
  fn_mir (N := N_is_graph) (m := m_is_graph) T.F_is_graph sc_is_graph fun cdv A outer s H E B hr => by
    have nd := sc_is_graph.nd
    have hu65 := hr_65 hr
    have hu64 := hr_64 hr
    have hu1 := hr_1 hr
    exact (js_one (js_ret (je_and (je_isi .tTuple rfl (je_var rfl 0) (by rfl) (by rfl) T.n_isinstance (by rfl) T.n_tuple (by decide +kernel)) (je_one (je_callB (cr_all (by rfl)) fit_all (by rfl) T.n_all (by decide +kernel) (ja_cons (je_lcE (tg := (.tp [1, 2])) (own := [("node", 1), ("row", 2)]) (by rfl) nd rfl (by rfl) T.n_enumerate (je_var rfl 0) (blkOk_by (N := N_is_graph) (sc := (defScope s_is_graph)) (own := [("node", 1), ("row", 2)]) (by decide +kernel)) ⟨fun _ _ _ _ _ => pg_tup (by rfl) (pgs_cons (pg_name (i := 1) nd rfl (by first | exact .inl rfl | exact .inr rfl | exact .inr (.inl rfl) | exact .inr (.inr rfl))) (pgs_cons (pg_name (i := 2) nd rfl (by first | exact .inl rfl | exact .inr rfl | exact .inr (.inl rfl) | exact .inr (.inr rfl))) (pgs_nil))), fun _ _ _ _ _ _ _ => jts_nil, fun _ _ _ _ _ _ _ => je_call (ok_is_row T) (hr.mono (by decide)) (takes_no fun _ _ _ _ h => h) (by rfl) T.g_is_row T.F_is_row.kp T.b_is_row (argN_cons (argN_cons argN_nil)) (ja_cons (je_var rfl 2) (ja_cons (je_var rfl 1) (ja_nil)))⟩ (by decide)) (ja_nil)))))))
theorem ok_check_graph (T : Top K mg) : FnOk P w K mg base (L2N.CX P w) 4 T.f_check_graph T.fd_check_graph ["graph"] (spF K mg 1 F_check_graph) :=
  fn_mir (N := N_check_graph) (m := m_check_graph) T.F_check_graph sc_check_graph fun cdv A outer s H E B hr => by
    have nd := sc_check_graph.nd
    have hu65 := hr_65 hr
    have hu64 := hr_64 hr
    have hu1 := hr_1 hr
    exact (js_one (js_if (jt_not (jt_val (je_call (ok_is_graph T) (hr.mono (by decide)) (L2N.takes_of rfl rfl rfl rfl) (by rfl) T.g_is_graph T.F_is_graph.kp T.b_is_graph (argN_cons argN_nil) (ja_cons (je_var rfl 0) (ja_nil))))) (js_one (js_raise (by rfl) (L2N.takes_of rfl rfl rfl rfl) T.O_InvalidGraph T.iC_InvalidGraph T.tI_InvalidGraph (ok_init_InvalidGraph T) (hr.mono (by decide)) T.bI_InvalidGraph rfl (argN_cons argN_nil) (by decide) (by rfl) T.g_InvalidGraph (ja_cons (je_var rfl 0) (ja_nil)))) (js_nil)))
theorem ok_work (T : Top K mg) : FnOk P w K mg base (L2N.CX P w) 5 T.f_work T.fd_work ["graph"] (spF K mg 1 F_work) :=
  fn_mir (N := N_work) (m := m_work) T.F_work sc_work fun cdv A outer s H E B hr => by
    have nd := sc_work.nd
    have hu65 := hr_65 hr
    have hu64 := hr_64 hr
    have hu1 := hr_1 hr
    exact (js_cons (js_expr (je_call (ok_check_graph T) (hr.mono (by decide)) (L2N.takes_of rfl rfl rfl rfl) (by rfl) T.g_check_graph T.F_check_graph.kp T.b_check_graph (argN_cons argN_nil) (ja_cons (je_var rfl 0) (ja_nil)))) (js_one (js_ret (je_callB call_lenA fit_len (by rfl) T.n_len (by decide +kernel) (ja_cons (je_var rfl 0) (ja_nil))))))
theorem ok_heads (T : Top K mg) : FnOk P w K mg base (L2N.CX P w) 5 T.f_heads T.fd_heads ["graph"] (spF K mg 1 F_heads) :=
  fn_mir (N := N_heads) (m := m_heads) T.F_heads sc_heads fun cdv A outer s H E B hr => by
    have nd := sc_heads.nd
    have hu65 := hr_65 hr
    have hu64 := hr_64 hr
    have hu1 := hr_1 hr
    exact (js_cons (js_expr (je_call (ok_check_graph T) (hr.mono (by decide)) (L2N.takes_of rfl rfl rfl rfl) (by rfl) T.g_check_graph T.F_check_graph.kp T.b_check_graph (argN_cons argN_nil) (ja_cons (je_var rfl 0) (ja_nil)))) (js_cons (js_set 1 nd rfl (by first | exact .inl rfl | exact .inr rfl | exact .inr (.inl rfl) | exact .inr (.inr rfl)) (je_lst (ja_nil))) (js_cons (js_for (tg := (.nm 2)) (passes_of rfl) (by rfl) rfl (je_var rfl 0) (pg_name (i := 2) nd rfl (by first | exact .inl rfl | exact .inr rfl | exact .inr (.inl rfl) | exact .inr (.inr rfl))) (js_less (w2 := []) (js_one (js_append 1 rfl rfl (by first | exact .inl rfl | exact .inr rfl | exact .inr (.inl rfl) | exact .inr (.inr rfl)) (je_maxDf (by rfl) rfl (by rfl) T.n_max (je_lc (tg := (.nm 3)) (own := [("node", 3)]) (by rfl) nd rfl (je_var rfl 2) (blkOk_by (N := N_heads) (sc := (defScope s_heads)) (own := [("node", 3)]) (by decide +kernel)) ⟨fun _ _ _ _ _ => pg_name (i := 3) nd rfl (by first | exact .inl rfl | exact .inr rfl | exact .inr (.inl rfl) | exact .inr (.inr rfl)), fun _ _ _ _ _ _ _ => jts_nil, fun _ _ _ _ _ _ _ => je_bin op_addA fit_add (je_item rfl hu1 (je_var rfl 1) (je_var rfl 3)) (je_int)⟩ (by decide)) (je_int)))) (by decide))) (js_one (js_ret (je_callTy call_tuple_of fit_tuple (by rfl) T.n_tuple (by decide +kernel) (ja_cons (je_var rfl 1) (ja_nil))))))))
theorem ok_tails (T : Top K mg) : FnOk P w K mg base (L2N.CX P w) 5 T.f_tails T.fd_tails ["graph"] (spF K mg 1 F_tails) :=
  fn_mir (N := N_tails) (m := m_tails) T.F_tails sc_tails fun cdv A outer s H E B hr => by
    have nd := sc_tails.nd
    have hu65 := hr_65 hr
    have hu64 := hr_64 hr
    have hu1 := hr_1 hr
    exact (js_cons (js_expr (je_call (ok_check_graph T) (hr.mono (by decide)) (L2N.takes_of rfl rfl rfl rfl) (by rfl) T.g_check_graph T.F_check_graph.kp T.b_check_graph (argN_cons argN_nil) (ja_cons (je_var rfl 0) (ja_nil)))) (js_cons (js_setLc (tg := (.nm 4)) (own := [("row", 4)]) 1 (by rfl) nd rfl rfl (sw_true rfl rfl rfl (by decide +kernel)) rfl (je_var rfl 0) (blkOk_by (N := N_tails) (sc := (defScope s_tails)) (own := [("row", 4)]) (by decide +kernel)) ⟨fun _ _ _ _ _ => pg_name (i := 4) nd rfl (by first | exact .inl rfl | exact .inr rfl | exact .inr (.inl rfl) | exact .inr (.inr rfl)), fun _ _ _ _ _ _ _ => jts_nil, fun _ _ _ _ _ _ _ => je_int⟩ (by decide)) (js_cons (js_forRev (tg := (.nm 2)) (passes_of rfl) (by rfl) rfl (by rfl) T.n_reversed (by rfl) T.n_range (je_callB call_lenA fit_len (by rfl) T.n_len (by decide +kernel) (ja_cons (je_var rfl 0) (ja_nil))) (pg_name (i := 2) nd rfl (by first | exact .inl rfl | exact .inr rfl | exact .inr (.inl rfl) | exact .inr (.inr rfl))) (js_less (w2 := [3]) (js_one (js_for (tg := (.nm 3)) (passes_of rfl) (by rfl) rfl (je_item rfl hu1 (je_var rfl 0) (je_var rfl 2)) (pg_name (i := 3) nd rfl (by first | exact .inl rfl | exact .inr rfl | exact .inr (.inl rfl) | exact .inr (.inr rfl))) (js_less (w2 := []) (js_one (js_lput 1 rfl (by first | exact .inl rfl | exact .inr rfl | exact .inr (.inl rfl) | exact .inr (.inr rfl)) (je_var rfl 3) (je_callB (call_max2 (by rfl)) fit_max2 (by rfl) T.n_max (by decide +kernel) (ja_cons (je_item rfl hu1 (je_var rfl 1) (je_var rfl 3)) (ja_cons (je_bin op_addA fit_add (je_item rfl hu1 (je_var rfl 1) (je_var rfl 2)) (je_int)) (ja_nil)))))) (by decide)))) (by decide))) (js_one (js_ret (je_callTy call_tuple_of fit_tuple (by rfl) T.n_tuple (by decide +kernel) (ja_cons (je_var rfl 1) (ja_nil))))))))
theorem ok_span (T : Top K mg) : FnOk P w K mg base (L2N.CX P w) 6 T.f_span T.fd_span ["graph"] (spF K mg 1 F_span) :=
  fn_mir (N := N_span) (m := m_span) T.F_span sc_span fun cdv A outer s H E B hr => by
    have nd := sc_span.nd
    have hu65 := hr_65 hr
    have hu64 := hr_64 hr
    have hu1 := hr_1 hr
    exact (js_one (js_ret (je_maxDf (by rfl) rfl (by rfl) T.n_max (je_lc (tg := (.nm 1)) (own := [("head", 1)]) (by rfl) nd rfl (je_call (ok_heads T) (hr.mono (by decide)) (L2N.takes_of rfl rfl rfl rfl) (by rfl) T.g_heads T.F_heads.kp T.b_heads (argN_cons argN_nil) (ja_cons (je_var rfl 0) (ja_nil))) (blkOk_by (N := N_span) (sc := (defScope s_span)) (own := [("head", 1)]) (by decide +kernel)) ⟨fun _ _ _ _ _ => pg_name (i := 1) nd rfl (by first | exact .inl rfl | exact .inr rfl | exact .inr (.inl rfl) | exact .inr (.inr rfl)), fun _ _ _ _ _ _ _ => jts_nil, fun _ _ _ _ _ _ _ => je_bin op_addA fit_add (je_var rfl 1) (je_int)⟩ (by decide)) (je_int))))
theorem ok_moved (T : Top K mg) : FnOk P w K mg base (L2N.CX P w) 1 T.f_moved T.fd_moved ["graph", "by"] (spF K mg 2 F_moved) :=
  fn_mir (N := N_moved) (m := m_moved) T.F_moved sc_moved fun cdv A outer s H E B hr => by
    have nd := sc_moved.nd
    have hu65 := hr_65 hr
    have hu64 := hr_64 hr
    have hu1 := hr_1 hr
    exact (js_one (js_ret (je_callTy call_tuple_of fit_tuple (by rfl) T.n_tuple (by decide +kernel) (ja_cons (je_lc (tg := (.nm 2)) (own := [("row", 2)]) (by rfl) nd rfl (je_var rfl 0) (blkOk_by (N := N_moved) (sc := (defScope s_moved)) (own := [("row", 2)]) (by decide +kernel)) ⟨fun _ _ _ _ _ => pg_name (i := 2) nd rfl (by first | exact .inl rfl | exact .inr rfl | exact .inr (.inl rfl) | exact .inr (.inr rfl)), fun _ _ _ _ _ _ _ => jts_nil, fun _ _ _ _ _ _ _ => je_callTy call_tuple_of fit_tuple (by rfl) T.n_tuple (by decide +kernel) (ja_cons (je_lc (tg := (.nm 3)) (own := [("node", 3)]) (by rfl) nd rfl (je_var rfl 2) (blkOk_re (N := N_moved) (sc := _) (own := [("node", 3)]) (by decide +kernel)) ⟨fun _ _ _ _ _ => pg_name (i := 3) nd rfl (by first | exact .inl rfl | exact .inr rfl | exact .inr (.inl rfl) | exact .inr (.inr rfl)), fun _ _ _ _ _ _ _ => jts_nil, fun _ _ _ _ _ _ _ => je_bin op_addA fit_add (je_var rfl 3) (je_var rfl 1)⟩ (by decide)) (ja_nil))⟩ (by decide)) (ja_nil)))))
theorem ok_in_series (T : Top K mg) : FnOk P w K mg base (L2N.CX P w) 6 T.f_in_series T.fd_in_series ["graph", "other"] (spF K mg 2 F_in_series) :=
  fn_mir (N := N_in_series) (m := m_in_series) T.F_in_series sc_in_series fun cdv A outer s H E B hr => by
    have nd := sc_in_series.nd
    have hu65 := hr_65 hr
    have hu64 := hr_64 hr
    have hu1 := hr_1 hr
    exact (js_cons (js_expr (je_call (ok_check_graph T) (hr.mono (by decide)) (L2N.takes_of rfl rfl rfl rfl) (by rfl) T.g_check_graph T.F_check_graph.kp T.b_check_graph (argN_cons argN_nil) (ja_cons (je_var rfl 0) (ja_nil)))) (js_cons (js_expr (je_call (ok_check_graph T) (hr.mono (by decide)) (L2N.takes_of rfl rfl rfl rfl) (by rfl) T.g_check_graph T.F_check_graph.kp T.b_check_graph (argN_cons argN_nil) (ja_cons (je_var rfl 1) (ja_nil)))) (js_cons (js_set 2 nd rfl (by first | exact .inl rfl | exact .inr rfl | exact .inr (.inl rfl) | exact .inr (.inr rfl)) (je_callTy call_tuple_of fit_tuple (by rfl) T.n_tuple (by decide +kernel) (ja_cons (je_lcE (tg := (.tp [3, 4])) (own := [("node", 3), ("tail", 4)]) (by rfl) nd rfl (by rfl) T.n_enumerate (je_call (ok_tails T) (hr.mono (by decide)) (L2N.takes_of rfl rfl rfl rfl) (by rfl) T.g_tails T.F_tails.kp T.b_tails (argN_cons argN_nil) (ja_cons (je_var rfl 0) (ja_nil))) (blkOk_by (N := N_in_series) (sc := (defScope s_in_series)) (own := [("node", 3), ("tail", 4)]) (by decide +kernel)) ⟨fun _ _ _ _ _ => pg_tup (by rfl) (pgs_cons (pg_name (i := 3) nd rfl (by first | exact .inl rfl | exact .inr rfl | exact .inr (.inl rfl) | exact .inr (.inr rfl))) (pgs_cons (pg_name (i := 4) nd rfl (by first | exact .inl rfl | exact .inr rfl | exact .inr (.inl rfl) | exact .inr (.inr rfl))) (pgs_nil))), fun _ _ _ _ _ _ _ => pts_one (jt_cmp (op_eqA hu64) fit_eq (je_var rfl 4) (je_int)), fun _ _ _ _ _ _ _ => je_var rfl 3⟩ (by decide)) (ja_nil)))) (js_one (js_ret (je_bin op_addA fit_add (je_var rfl 0) (je_callTy call_tuple_of fit_tuple (by rfl) T.n_tuple (by decide +kernel) (ja_cons (je_lc (tg := (.nm 5)) (own := [("row", 5)]) (by rfl) nd rfl (je_call (ok_moved T) (hr.mono (by decide)) (L2N.takes_of rfl rfl rfl rfl) (by rfl) T.g_moved T.F_moved.kp T.b_moved (argN_cons (argN_cons argN_nil)) (ja_cons (je_var rfl 1) (ja_cons (je_callB call_lenA fit_len (by rfl) T.n_len (by decide +kernel) (ja_cons (je_var rfl 0) (ja_nil))) (ja_nil)))) (blkOk_by (N := N_in_series) (sc := (defScope s_in_series)) (own := [("row", 5)]) (by decide +kernel)) ⟨fun _ _ _ _ _ => pg_name (i := 5) nd rfl (by first | exact .inl rfl | exact .inr rfl | exact .inr (.inl rfl) | exact .inr (.inr rfl)), fun _ _ _ _ _ _ _ => jts_nil, fun _ _ _ _ _ _ _ => je_if (jt_tru rfl (je_var rfl 5)) (je_var rfl 5) (je_var rfl 2)⟩ (by decide)) (ja_nil)))))))))
theorem ok_in_parallel (T : Top K mg) : FnOk P w K mg base (L2N.CX P w) 5 T.f_in_parallel T.fd_in_parallel ["graph", "other"] (spF K mg 2 F_in_parallel) :=
  fn_mir (N := N_in_parallel) (m := m_in_parallel) T.F_in_parallel sc_in_parallel fun cdv A outer s H E B hr => by
    have nd := sc_in_parallel.nd
    have hu65 := hr_65 hr
    have hu64 := hr_64 hr
    have hu1 := hr_1 hr
    exact (js_cons (js_expr (je_call (ok_check_graph T) (hr.mono (by decide)) (L2N.takes_of rfl rfl rfl rfl) (by rfl) T.g_check_graph T.F_check_graph.kp T.b_check_graph (argN_cons argN_nil) (ja_cons (je_var rfl 0) (ja_nil)))) (js_cons (js_expr (je_call (ok_check_graph T) (hr.mono (by decide)) (L2N.takes_of rfl rfl rfl rfl) (by rfl) T.g_check_graph T.F_check_graph.kp T.b_check_graph (argN_cons argN_nil) (ja_cons (je_var rfl 1) (ja_nil)))) (js_one (js_ret (je_bin op_addA fit_add (je_var rfl 0) (je_call (ok_moved T) (hr.mono (by decide)) (L2N.takes_of rfl rfl rfl rfl) (by rfl) T.g_moved T.F_moved.kp T.b_moved (argN_cons (argN_cons argN_nil)) (ja_cons (je_var rfl 1) (ja_cons (je_callB call_lenA fit_len (by rfl) T.n_len (by decide +kernel) (ja_cons (je_var rfl 0) (ja_nil))) (ja_nil)))))))))
theorem ok__law_draws (T : Top K mg) : FnOk P w K mg base (L2N.CX P w) 1 T.f__law_draws T.fd__law_draws ["script", "k", "bounds"] (spF K mg 3 F__law_draws) :=
  fn_mir (N := N__law_draws) (m := m__law_draws) T.F__law_draws sc__law_draws fun cdv A outer s H E B hr => by
    have nd := sc__law_draws.nd
    have hu65 := hr_65 hr
    have hu64 := hr_64 hr
    have hu1 := hr_1 hr
    exact (js_cons (js_set 3 nd rfl (by first | exact .inl rfl | exact .inr rfl | exact .inr (.inl rfl) | exact .inr (.inr rfl)) (je_int)) (js_cons (js_set 4 nd rfl (by first | exact .inl rfl | exact .inr rfl | exact .inr (.inl rfl) | exact .inr (.inr rfl)) (je_int)) (js_cons (js_if (jt_cmp op_ltA fit_lt (je_var rfl 1) (je_callB call_lenA fit_len (by rfl) T.n_len (by decide +kernel) (ja_cons (je_var rfl 0) (ja_nil)))) (js_cons (js_set 3 nd rfl (by first | exact .inl rfl | exact .inr rfl | exact .inr (.inl rfl) | exact .inr (.inr rfl)) (je_callTy call_int1 fit_int (by rfl) T.n_int (by decide +kernel) (ja_cons (je_item rfl hu1 (je_var rfl 0) (je_var rfl 1)) (ja_nil)))) (js_one (js_set 4 nd rfl (by first | exact .inl rfl | exact .inr rfl | exact .inr (.inl rfl) | exact .inr (.inr rfl)) (je_callB (call_max2 (by rfl)) fit_max2 (by rfl) T.n_max (by decide +kernel) (ja_cons (je_int) (ja_cons (je_bin op_sub fit_sub (je_var rfl 3) (je_bin op_pow fit_pow (je_int) (je_int))) (ja_nil))))))) (js_one (js_if (jt_cmp op_gtA fit_gt (je_callB call_lenA fit_len (by rfl) T.n_len (by decide +kernel) (ja_cons (je_var rfl 0) (ja_nil))) (je_int)) (js_one (js_set 3 nd rfl (by first | exact .inl rfl | exact .inr rfl | exact .inr (.inl rfl) | exact .inr (.inr rfl)) (je_callTy call_int1 fit_int (by rfl) T.n_int (by decide +kernel) (ja_cons (je_item rfl hu1 (je_var rfl 0) (je_bin op_mod fit_mod (je_callTy call_int1 fit_int (by rfl) T.n_int (by decide +kernel) (ja_cons (je_var rfl 1) (ja_nil))) (je_callB call_lenA fit_len (by rfl) T.n_len (by decide +kernel) (ja_cons (je_var rfl 0) (ja_nil))))) (ja_nil))))) (js_nil)))) (js_cons (js_set 5 nd rfl (by first | exact .inl rfl | exact .inr rfl | exact .inr (.inl rfl) | exact .inr (.inr rfl)) (je_lst (ja_nil))) (js_cons (js_forR1 (tg := (.nm 6)) (passes_of rfl) (by rfl) rfl (by rfl) T.n_range (ja_cons (je_callB call_lenA fit_len (by rfl) T.n_len (by decide +kernel) (ja_cons (je_var rfl 2) (ja_nil))) (ja_nil)) (pg_name (i := 6) nd rfl (by first | exact .inl rfl | exact .inr rfl | exact .inr (.inl rfl) | exact .inr (.inr rfl))) (js_less (w2 := [4, 7]) (js_one (js_if (jt_cmp op_gtA fit_gt (je_var rfl 4) (je_int)) (js_cons (js_append 5 rfl rfl (by first | exact .inl rfl | exact .inr rfl | exact .inr (.inl rfl) | exact .inr (.inr rfl)) (je_bin op_mod fit_mod (je_callTy call_int1 fit_int (by rfl) T.n_int (by decide +kernel) (ja_cons (je_var rfl 4) (ja_nil))) (je_item rfl hu1 (je_var rfl 2) (je_var rfl 6)))) (js_one (js_set 4 nd rfl (by first | exact .inl rfl | exact .inr rfl | exact .inr (.inl rfl) | exact .inr (.inr rfl)) (je_bin op_fdivW fit_div (je_var rfl 4) (je_item rfl hu1 (je_var rfl 2) (je_var rfl 6)))))) (js_cons (js_set 7 nd rfl (by first | exact .inl rfl | exact .inr rfl | exact .inr (.inl rfl) | exact .inr (.inr rfl)) (je_bin op_mod fit_mod (je_callTy call_int1 fit_int (by rfl) T.n_int (by decide +kernel) (ja_cons (je_bin op_addA fit_add (je_bin op_addA fit_add (je_bin op_addA fit_add (je_bin op_mulL fit_mulL (je_var rfl 3) (je_int)) (je_bin op_mulL fit_mulL (je_var rfl 1) (je_int))) (je_bin op_mulL fit_mulL (je_var rfl 6) (je_int))) (je_int)) (ja_nil))) (je_int))) (js_cons (js_set 7 nd rfl (by first | exact .inl rfl | exact .inr rfl | exact .inr (.inl rfl) | exact .inr (.inr rfl)) (je_bin op_mod fit_mod (je_callTy call_int1 fit_int (by rfl) T.n_int (by decide +kernel) (ja_cons (je_bin op_addA fit_add (je_bin op_addA fit_add (je_bin op_mulL fit_mulL (je_var rfl 7) (je_var rfl 7)) (je_bin op_mulL fit_mulL (je_var rfl 6) (je_int))) (je_int)) (ja_nil))) (je_int))) (js_cons (js_set 7 nd rfl (by first | exact .inl rfl | exact .inr rfl | exact .inr (.inl rfl) | exact .inr (.inr rfl)) (je_bin op_mod fit_mod (je_callTy call_int1 fit_int (by rfl) T.n_int (by decide +kernel) (ja_cons (je_bin op_addA fit_add (je_bin op_addA fit_add (je_bin op_mulL fit_mulL (je_var rfl 7) (je_var rfl 7)) (je_bin op_mulL fit_mulL (je_var rfl 7) (je_int))) (je_int)) (ja_nil))) (je_int))) (js_one (js_append 5 rfl rfl (by first | exact .inl rfl | exact .inr rfl | exact .inr (.inl rfl) | exact .inr (.inr rfl)) (je_bin op_mod fit_mod (je_bin op_fdivW fit_div (je_var rfl 7) (je_int)) (je_item rfl hu1 (je_var rfl 2) (je_var rfl 6)))))))))) (by decide))) (js_one (js_ret (je_var rfl 5))))))))
theorem ok__law_equal (T : Top K mg) : ∀ n : Nat, FnOk P w K mg base (L2N.CX P w) (0 + n) T.f__law_equal T.fd__law_equal ["actual", "expected"] (spF K mg 2 (F__law_equal n))
  | 0 => fn_stuck
  | n + 1 => fn_mir (N := N__law_equal) (m := m__law_equal (F__law_equal n)) T.F__law_equal sc__law_equal fun cdv A outer s H E B hr => by
    have nd := sc__law_equal.nd
    have hu65 := hr_65 hr
    have hu64 := hr_64 hr
    have hu1 := hr_1 hr
    exact (js_cons (js_if (jt_cmp op_isA fit_is (je_var rfl 1) (je_non)) (js_one (js_ret (je_cmp op_isA fit_is (je_var rfl 0) (je_non)))) (js_nil)) (js_cons (js_if (jt_val (je_isi .tBool rfl (je_var rfl 1) (by rfl) (by rfl) T.n_isinstance (by rfl) T.n_bool (by decide +kernel))) (js_one (js_ret (je_and (je_isi .tBool rfl (je_var rfl 0) (by rfl) (by rfl) T.n_isinstance (by rfl) T.n_bool (by decide +kernel)) (je_one (je_cmp (op_eqA hu64) fit_eq (je_var rfl 0) (je_var rfl 1)))))) (js_nil)) (js_cons (js_if (jt_val (je_isi .tInt rfl (je_var rfl 1) (by rfl) (by rfl) T.n_isinstance (by rfl) T.n_int (by decide +kernel))) (js_one (js_ret (je_and (je_isi .tInt rfl (je_var rfl 0) (by rfl) (by rfl) T.n_isinstance (by rfl) T.n_int (by decide +kernel)) (je_and (je_not (je_isi .tBool rfl (je_var rfl 0) (by rfl) (by rfl) T.n_isinstance (by rfl) T.n_bool (by decide +kernel))) (je_one (je_cmp (op_eqA hu64) fit_eq (je_var rfl 0) (je_var rfl 1))))))) (js_nil)) (js_cons (js_if (jt_val (je_isi .tStr rfl (je_var rfl 1) (by rfl) (by rfl) T.n_isinstance (by rfl) T.n_str (by decide +kernel))) (js_one (js_ret (je_and (je_isi .tStr rfl (je_var rfl 0) (by rfl) (by rfl) T.n_isinstance (by rfl) T.n_str (by decide +kernel)) (je_one (je_cmp (op_eqA hu64) fit_eq (je_var rfl 0) (je_var rfl 1)))))) (js_nil)) (js_cons (js_if ((jw_or (jt_not (jt_val (je_isi .tTuple rfl (je_var rfl 0) (by rfl) (by rfl) T.n_isinstance (by rfl) T.n_tuple (by decide +kernel)))) (jw_or1 (jt_cmp (op_neA hu64) fit_ne (je_callB call_lenA fit_len (by rfl) T.n_len (by decide +kernel) (ja_cons (je_var rfl 0) (ja_nil))) (je_callB call_lenA fit_len (by rfl) T.n_len (by decide +kernel) (ja_cons (je_var rfl 1) (ja_nil)))))).pt) (js_one (js_ret (je_bl))) (js_nil)) (js_cons (js_forR1 (tg := (.nm 2)) (passes_of rfl) (by rfl) rfl (by rfl) T.n_range (ja_cons (je_callB call_lenA fit_len (by rfl) T.n_len (by decide +kernel) (ja_cons (je_var rfl 1) (ja_nil))) (ja_nil)) (pg_name (i := 2) nd rfl (by first | exact .inl rfl | exact .inr rfl | exact .inr (.inl rfl) | exact .inr (.inr rfl))) (js_less (w2 := []) (js_one (js_if (jt_not (jt_val (je_call (ok__law_equal T n) (hr) (L2N.takes_of rfl rfl rfl rfl) (by rfl) T.g__law_equal T.F__law_equal.kp T.b__law_equal (argN_cons (argN_cons argN_nil)) (ja_cons (je_item rfl hu1 (je_var rfl 0) (je_var rfl 2)) (ja_cons (je_item rfl hu1 (je_var rfl 1) (je_var rfl 2)) (ja_nil)))))) (js_one (js_ret (je_bl))) (js_nil))) (by decide))) (js_one (js_ret (je_bl)))))))))
theorem ok__law_graph (T : Top K mg) : FnOk P w K mg base (L2N.CX P w) 2 T.f__law_graph T.fd__law_graph ["script", "k", "most"] (spF K mg 3 F__law_graph) :=
  fn_mir (N := N__law_graph) (m := m__law_graph) T.F__law_graph sc__law_graph fun cdv A outer s H E B hr => by
    have nd := sc__law_graph.nd
    have hu65 := hr_65 hr
    have hu64 := hr_64 hr
    have hu1 := hr_1 hr
    exact (js_cons (js_set 3 nd rfl (by first | exact .inl rfl | exact .inr rfl | exact .inr (.inl rfl) | exact .inr (.inr rfl)) (je_call (ok__law_draws T) (hr.mono (by decide)) (L2N.takes_of rfl rfl rfl rfl) (by rfl) T.g__law_draws T.F__law_draws.kp T.b__law_draws (argN_cons (argN_cons (argN_cons argN_nil))) (ja_cons (je_var rfl 0) (ja_cons (je_var rfl 1) (ja_cons (je_lst (ja_cons (je_bin op_addA fit_add (je_int) (je_var rfl 2)) (ja_cons (je_int) (ja_nil)))) (ja_nil)))))) (js_cons (js_set 4 nd rfl (by first | exact .inl rfl | exact .inr rfl | exact .inr (.inl rfl) | exact .inr (.inr rfl)) (je_lst (ja_nil))) (js_cons (js_forR1 (tg := (.nm 5)) (passes_of rfl) (by rfl) rfl (by rfl) T.n_range (ja_cons (je_item rfl hu1 (je_var rfl 3) (je_int)) (ja_nil)) (pg_name (i := 5) nd rfl (by first | exact .inl rfl | exact .inr rfl | exact .inr (.inl rfl) | exact .inr (.inr rfl))) (js_less (w2 := [6, 7, 8, 9, 10]) (js_cons (js_set 6 nd rfl (by first | exact .inl rfl | exact .inr rfl | exact .inr (.inl rfl) | exact .inr (.inr rfl)) (je_call (ok__law_draws T) (hr.mono (by decide)) (L2N.takes_of rfl rfl rfl rfl) (by rfl) T.g__law_draws T.F__law_draws.kp T.b__law_draws (argN_cons (argN_cons (argN_cons argN_nil))) (ja_cons (je_var rfl 0) (ja_cons (je_bin op_addA fit_add (je_bin op_addA fit_add (je_var rfl 1) (je_int)) (je_bin op_mod fit_mod (je_callTy call_int1 fit_int (by rfl) T.n_int (by decide +kernel) (ja_cons (je_var rfl 5) (ja_nil))) (je_int))) (ja_cons (je_lst (ja_cons (je_int) (ja_cons (je_int) (ja_nil)))) (ja_nil)))))) (js_cons (js_set 7 nd rfl (by first | exact .inl rfl | exact .inr rfl | exact .inr (.inl rfl) | exact .inr (.inr rfl)) (je_item rfl hu1 (je_var rfl 6) (je_int))) (js_cons (js_set 8 nd rfl (by first | exact .inl rfl | exact .inr rfl | exact .inr (.inl rfl) | exact .inr (.inr rfl)) (je_lst (ja_nil))) (js_cons (js_forR1 (tg := (.nm 9)) (passes_of rfl) (by rfl) rfl (by rfl) T.n_range (ja_cons (je_var rfl 5) (ja_nil)) (pg_name (i := 9) nd rfl (by first | exact .inl rfl | exact .inr rfl | exact .inr (.inl rfl) | exact .inr (.inr rfl))) (js_less (w2 := [7, 10]) (js_cons (js_set 10 nd rfl (by first | exact .inl rfl | exact .inr rfl | exact .inr (.inl rfl) | exact .inr (.inr rfl)) (je_cmp op_geA fit_ge (je_var rfl 9) (je_bin op_sub fit_sub (je_var rfl 5) (je_int)))) (js_cons (js_if (jt_cmp (op_eqA hu64) fit_eq (je_item rfl hu1 (je_var rfl 3) (je_int)) (je_int)) (js_one (js_set 10 nd rfl (by first | exact .inl rfl | exact .inr rfl | exact .inr (.inl rfl) | exact .inr (.inr rfl)) (je_cmp (op_eqA hu64) fit_eq (je_var rfl 9) (je_bin op_sub fit_sub (je_var rfl 5) (je_int))))) (js_nil)) (js_cons (js_if (jt_cmp (op_eqA hu64) fit_eq (je_item rfl hu1 (je_var rfl 3) (je_int)) (je_int)) (js_one (js_set 10 nd rfl (by first | exact .inl rfl | exact .inr rfl | exact .inr (.inl rfl) | exact .inr (.inr rfl)) (je_cmp (op_eqA hu64) fit_eq (je_bin op_fdivW fit_div (je_var rfl 9) (je_int)) (je_bin op_sub fit_sub (je_bin op_fdivW fit_div (je_var rfl 5) (je_int)) (je_int))))) (js_nil)) (js_cons (js_if ((jw_and (jt_tru rfl (je_var rfl 10)) (jw_and1 (jt_cmp op_gtA fit_gt (je_bin op_addA fit_add (je_bin op_mod fit_mod (je_callTy call_int1 fit_int (by rfl) T.n_int (by decide +kernel) (ja_cons (je_var rfl 7) (ja_nil))) (je_int)) (je_callTy call_int1 fit_int (by rfl) T.n_int (by decide +kernel) (ja_cons (je_and (je_cmp op_ltA fit_lt (je_item rfl hu1 (je_var rfl 3) (je_int)) (je_int)) (je_one (je_cmp op_gtA fit_gt (je_item rfl hu1 (je_var rfl 6) (je_int)) (je_int)))) (ja_nil)))) (je_int)))).pt) (js_one (js_append 8 rfl rfl (by first | exact .inl rfl | exact .inr rfl | exact .inr (.inl rfl) | exact .inr (.inr rfl)) (je_var rfl 9))) (js_nil)) (js_one (js_if (jt_tru rfl (je_var rfl 10)) (js_one (js_set 7 nd rfl (by first | exact .inl rfl | exact .inr rfl | exact .inr (.inl rfl) | exact .inr (.inr rfl)) (je_bin op_fdivW fit_div (je_var rfl 7) (je_int)))) (js_nil))))))) (by decide))) (js_cons (js_if ((jw_and (jt_cmp (op_eqA hu64) fit_eq (je_item rfl hu1 (je_var rfl 3) (je_int)) (je_int)) (jw_and1 (jt_cmp op_ltA fit_lt (je_item rfl hu1 (je_var rfl 6) (je_int)) (je_int)))).pt) (js_one (js_set 8 nd rfl (by first | exact .inl rfl | exact .inr rfl | exact .inr (.inl rfl) | exact .inr (.inr rfl)) (je_lst (ja_nil)))) (js_nil)) (js_one (js_append 4 rfl rfl (by first | exact .inl rfl | exact .inr rfl | exact .inr (.inl rfl) | exact .inr (.inr rfl)) (je_callTy call_tuple_of fit_tuple (by rfl) T.n_tuple (by decide +kernel) (ja_cons (je_var rfl 8) (ja_nil)))))))))) (by decide))) (js_one (js_ret (je_callTy call_tuple_of fit_tuple (by rfl) T.n_tuple (by decide +kernel) (ja_cons (je_var rfl 4) (ja_nil))))))))
theorem ok__law_heads (T : Top K mg) : FnOk P w K mg base (L2N.CX P w) 1 T.f__law_heads T.fd__law_heads ["graph"] (spF K mg 1 F__law_heads) :=
  fn_mir (N := N__law_heads) (m := m__law_heads) T.F__law_heads sc__law_heads fun cdv A outer s H E B hr => by
    have nd := sc__law_heads.nd
    have hu65 := hr_65 hr
    have hu64 := hr_64 hr
    have hu1 := hr_1 hr
    exact (js_cons (js_set 1 nd rfl (by first | exact .inl rfl | exact .inr rfl | exact .inr (.inl rfl) | exact .inr (.inr rfl)) (je_lst (ja_nil))) (js_cons (js_for (tg := (.nm 2)) (passes_of rfl) (by rfl) rfl (je_var rfl 0) (pg_name (i := 2) nd rfl (by first | exact .inl rfl | exact .inr rfl | exact .inr (.inl rfl) | exact .inr (.inr rfl))) (js_less (w2 := [3, 4]) (js_cons (js_set 3 nd rfl (by first | exact .inl rfl | exact .inr rfl | exact .inr (.inl rfl) | exact .inr (.inr rfl)) (je_int)) (js_cons (js_for (tg := (.nm 4)) (passes_of rfl) (by rfl) rfl (je_var rfl 2) (pg_name (i := 4) nd rfl (by first | exact .inl rfl | exact .inr rfl | exact .inr (.inl rfl) | exact .inr (.inr rfl))) (js_less (w2 := [3]) (js_one (js_if (jt_cmp op_gtA fit_gt (je_bin op_addA fit_add (je_item rfl hu1 (je_var rfl 1) (je_var rfl 4)) (je_int)) (je_var rfl 3)) (js_one (js_set 3 nd rfl (by first | exact .inl rfl | exact .inr rfl | exact .inr (.inl rfl) | exact .inr (.inr rfl)) (je_bin op_addA fit_add (je_item rfl hu1 (je_var rfl 1) (je_var rfl 4)) (je_int)))) (js_nil))) (by decide))) (js_one (js_append 1 rfl rfl (by first | exact .inl rfl | exact .inr rfl | exact .inr (.inl rfl) | exact .inr (.inr rfl)) (je_var rfl 3))))) (by decide))) (js_one (js_ret (je_var rfl 1)))))
theorem ok__law_span (T : Top K mg) : FnOk P w K mg base (L2N.CX P w) 2 T.f__law_span T.fd__law_span ["graph"] (spF K mg 1 F__law_span) :=
  fn_mir (N := N__law_span) (m := m__law_span) T.F__law_span sc__law_span fun cdv A outer s H E B hr => by
    have nd := sc__law_span.nd
    have hu65 := hr_65 hr
    have hu64 := hr_64 hr
    have hu1 := hr_1 hr
    exact (js_cons (js_set 1 nd rfl (by first | exact .inl rfl | exact .inr rfl | exact .inr (.inl rfl) | exact .inr (.inr rfl)) (je_int)) (js_cons (js_for (tg := (.nm 2)) (passes_of rfl) (by rfl) rfl (je_call (ok__law_heads T) (hr.mono (by decide)) (L2N.takes_of rfl rfl rfl rfl) (by rfl) T.g__law_heads T.F__law_heads.kp T.b__law_heads (argN_cons argN_nil) (ja_cons (je_var rfl 0) (ja_nil))) (pg_name (i := 2) nd rfl (by first | exact .inl rfl | exact .inr rfl | exact .inr (.inl rfl) | exact .inr (.inr rfl))) (js_less (w2 := [1]) (js_one (js_if (jt_cmp op_gtA fit_gt (je_bin op_addA fit_add (je_var rfl 2) (je_int)) (je_var rfl 1)) (js_one (js_set 1 nd rfl (by first | exact .inl rfl | exact .inr rfl | exact .inr (.inl rfl) | exact .inr (.inr rfl)) (je_bin op_addA fit_add (je_var rfl 2) (je_int)))) (js_nil))) (by decide))) (js_one (js_ret (je_var rfl 1)))))
theorem ok__law_no_graph (T : Top K mg) : FnOk P w K mg base (L2N.CX P w) 2 T.f__law_no_graph T.fd__law_no_graph ["script", "k"] (spF K mg 2 F__law_no_graph) :=
  fn_mir (N := N__law_no_graph) (m := m__law_no_graph) T.F__law_no_graph sc__law_no_graph fun cdv A outer s H E B hr => by
    have nd := sc__law_no_graph.nd
    have hu65 := hr_65 hr
    have hu64 := hr_64 hr
    have hu1 := hr_1 hr
    exact (js_cons (js_set 2 nd rfl (by first | exact .inl rfl | exact .inr rfl | exact .inr (.inl rfl) | exact .inr (.inr rfl)) (je_call (ok__law_draws T) (hr.mono (by decide)) (L2N.takes_of rfl rfl rfl rfl) (by rfl) T.g__law_draws T.F__law_draws.kp T.b__law_draws (argN_cons (argN_cons (argN_cons argN_nil))) (ja_cons (je_var rfl 0) (ja_cons (je_var rfl 1) (ja_cons (je_lst (ja_cons (je_int) (ja_nil))) (ja_nil)))))) (js_one (js_ret (je_item rfl hu1 (je_lst (ja_cons (je_non) (ja_cons (je_tup (ja_cons (je_tup (ja_cons (je_int) (ja_nil))) (ja_nil))) (ja_cons (je_tup (ja_cons (je_tup (ja_nil)) (ja_cons (je_tup (ja_cons (je_int) (ja_nil))) (ja_nil)))) (ja_cons (je_tup (ja_cons (je_tup (ja_nil)) (ja_cons (je_tup (ja_cons (je_int) (ja_cons (je_int) (ja_nil)))) (ja_nil)))) (ja_cons (je_tup (ja_cons (je_tup (ja_nil)) (ja_cons (je_tup (ja_cons (je_un un_neg fit_neg (je_int)) (ja_nil))) (ja_nil)))) (ja_cons (je_int) (ja_cons (je_tup (ja_cons (je_tup (ja_nil)) (ja_cons (je_tup (ja_nil)) (ja_cons (je_tup (ja_cons (je_int) (ja_cons (je_int) (ja_nil)))) (ja_nil))))) (ja_cons (je_tup (ja_cons (je_non) (ja_nil))) (ja_nil)))))))))) (je_item rfl hu1 (je_var rfl 2) (je_int))))))
theorem ok__law_joined (T : Top K mg) : FnOk P w K mg base (L2N.CX P w) 1 T.f__law_joined T.fd__law_joined ["graph", "other", "series"] (spF K mg 3 F__law_joined) :=
  fn_mir (N := N__law_joined) (m := m__law_joined) T.F__law_joined sc__law_joined fun cdv A outer s H E B hr => by
    have nd := sc__law_joined.nd
    have hu65 := hr_65 hr
    have hu64 := hr_64 hr
    have hu1 := hr_1 hr
    exact (js_cons (js_set 3 nd rfl (by first | exact .inl rfl | exact .inr rfl | exact .inr (.inl rfl) | exact .inr (.inr rfl)) (je_callB call_lenA fit_len (by rfl) T.n_len (by decide +kernel) (ja_cons (je_var rfl 0) (ja_nil)))) (js_cons (js_set 4 nd rfl (by first | exact .inl rfl | exact .inr rfl | exact .inr (.inl rfl) | exact .inr (.inr rfl)) (je_lst (ja_nil))) (js_cons (js_forR1 (tg := (.nm 5)) (passes_of rfl) (by rfl) rfl (by rfl) T.n_range (ja_cons (je_var rfl 3) (ja_nil)) (pg_name (i := 5) nd rfl (by first | exact .inl rfl | exact .inr rfl | exact .inr (.inl rfl) | exact .inr (.inr rfl))) (js_less (w2 := [6, 7]) (js_cons (js_set 6 nd rfl (by first | exact .inl rfl | exact .inr rfl | exact .inr (.inl rfl) | exact .inr (.inr rfl)) (je_bl)) (js_cons (js_for (tg := (.nm 7)) (passes_of rfl) (by rfl) rfl (je_var rfl 0) (pg_name (i := 7) nd rfl (by first | exact .inl rfl | exact .inr rfl | exact .inr (.inl rfl) | exact .inr (.inr rfl))) (js_less (w2 := [6]) (js_one (js_if (jt_cmp (op_inA hu65) fit_in (je_var rfl 5) (je_var rfl 7)) (js_one (js_set 6 nd rfl (by first | exact .inl rfl | exact .inr rfl | exact .inr (.inl rfl) | exact .inr (.inr rfl)) (je_bl))) (js_nil))) (by decide))) (js_one (js_if (jt_not (jt_tru rfl (je_var rfl 6))) (js_one (js_append 4 rfl rfl (by first | exact .inl rfl | exact .inr rfl | exact .inr (.inl rfl) | exact .inr (.inr rfl)) (je_var rfl 5))) (js_nil))))) (by decide))) (js_cons (js_set 8 nd rfl (by first | exact .inl rfl | exact .inr rfl | exact .inr (.inl rfl) | exact .inr (.inr rfl)) (je_callTy call_list_of fit_list (by rfl) T.n_list (by decide +kernel) (ja_cons (je_var rfl 0) (ja_nil)))) (js_cons (js_for (tg := (.nm 7)) (passes_of rfl) (by rfl) rfl (je_var rfl 1) (pg_name (i := 7) nd rfl (by first | exact .inl rfl | exact .inr rfl | exact .inr (.inl rfl) | exact .inr (.inr rfl))) (js_less (w2 := [9]) (js_cons (js_set 9 nd rfl (by first | exact .inl rfl | exact .inr rfl | exact .inr (.inl rfl) | exact .inr (.inr rfl)) (je_callTy call_tuple_of fit_tuple (by rfl) T.n_tuple (by decide +kernel) (ja_cons (je_lc (tg := (.nm 10)) (own := [("j", 10)]) (by rfl) nd rfl (je_var rfl 7) (blkOk_by (N := N__law_joined) (sc := (defScope s__law_joined)) (own := [("j", 10)]) (by decide +kernel)) ⟨fun _ _ _ _ _ => pg_name (i := 10) nd rfl (by first | exact .inl rfl | exact .inr rfl | exact .inr (.inl rfl) | exact .inr (.inr rfl)), fun _ _ _ _ _ _ _ => jts_nil, fun _ _ _ _ _ _ _ => je_bin op_addA fit_add (je_var rfl 3) (je_var rfl 10)⟩ (by decide)) (ja_nil)))) (js_cons (js_if ((jw_and (jt_tru rfl (je_var rfl 2)) (jw_and1 (jt_cmp (op_eqA hu64) fit_eq (je_callB call_lenA fit_len (by rfl) T.n_len (by decide +kernel) (ja_cons (je_var rfl 7) (ja_nil))) (je_int)))).pt) (js_one (js_set 9 nd rfl (by first | exact .inl rfl | exact .inr rfl | exact .inr (.inl rfl) | exact .inr (.inr rfl)) (je_callTy call_tuple_of fit_tuple (by rfl) T.n_tuple (by decide +kernel) (ja_cons (je_var rfl 4) (ja_nil))))) (js_nil)) (js_one (js_append 8 rfl rfl (by first | exact .inl rfl | exact .inr rfl | exact .inr (.inl rfl) | exact .inr (.inr rfl)) (je_var rfl 9))))) (by decide))) (js_one (js_ret (je_callTy call_tuple_of fit_tuple (by rfl) T.n_tuple (by decide +kernel) (ja_cons (je_var rfl 8) (ja_nil))))))))))
theorem ok__law_told (T : Top K mg) : FnOk P w K mg base (L2N.CX P w) 7 T.f__law_told T.fd__law_told ["graph", "other", "series"] (spF K mg 3 F__law_told) :=
  fn_mir (N := N__law_told) (m := m__law_told) T.F__law_told sc__law_told fun cdv A outer s H E B hr => by
    have nd := sc__law_told.nd
    have hu65 := hr_65 hr
    have hu64 := hr_64 hr
    have hu1 := hr_1 hr
    exact (js_one (js_try (i := 3) (kn := [("InvalidGraph", true)]) (mh := fun xc => mRet (mTup (mCons (mC (.str "graph")) (mCons (mXf "InvalidGraph" 3 "value" xc) (mNil))))) rfl rfl nd rfl rfl ⟨rfl, by decide, .inl T.g_InvalidGraph⟩ (L2N.takes_of rfl rfl rfl rfl) rfl (ex_InvalidGraph T) (fun W pn xe tk hp => js_cons (js_if (jt_tru rfl (je_var rfl 2)) (js_one (js_ret (je_tup (ja_cons (je_str) (ja_cons (je_call (ok_in_series T) (hr.mono (by decide)) tk (by rfl) T.g_in_series T.F_in_series.kp T.b_in_series (argN_cons (argN_cons argN_nil)) (ja_cons (je_var rfl 0) (ja_cons (je_var rfl 1) (ja_nil)))) (ja_nil)))))) (js_nil)) (js_one (js_ret (je_tup (ja_cons (je_str) (ja_cons (je_call (ok_in_parallel T) (hr.mono (by decide)) tk (by rfl) T.g_in_parallel T.F_in_parallel.kp T.b_in_parallel (argN_cons (argN_cons argN_nil)) (ja_cons (je_var rfl 0) (ja_cons (je_var rfl 1) (ja_nil)))) (ja_nil))))))) (fun a oe cls d pn xc H0 hz hf hx => js_one (js_ret (je_tup (ja_cons (je_str) (ja_cons (je_xf 3 T.X_InvalidGraph T.no_InvalidGraph_value hz hf hx T.g_InvalidGraph rfl (by first | exact .inl rfl | exact .inr rfl | exact .inr (.inl rfl) | exact .inr (.inr rfl))) (ja_nil))))))))
theorem ok__law_is_right (T : Top K mg) : FnOk P w K mg base (L2N.CX P w) 41 T.f__law_is_right T.fd__law_is_right ["graph", "other"] (spF K mg 2 F__law_is_right) :=
  fn_mir (N := N__law_is_right) (m := m__law_is_right) T.F__law_is_right sc__law_is_right fun cdv A outer s H E B hr => by
    have nd := sc__law_is_right.nd
    have hu65 := hr_65 hr
    have hu64 := hr_64 hr
    have hu1 := hr_1 hr
    exact (js_cons (js_set 2 nd rfl (by first | exact .inl rfl | exact .inr rfl | exact .inr (.inl rfl) | exact .inr (.inr rfl)) (je_call (ok__law_span T) (hr.mono (by decide)) (L2N.takes_of rfl rfl rfl rfl) (by rfl) T.g__law_span T.F__law_span.kp T.b__law_span (argN_cons argN_nil) (ja_cons (je_var rfl 0) (ja_nil)))) (js_cons (js_set 3 nd rfl (by first | exact .inl rfl | exact .inr rfl | exact .inr (.inl rfl) | exact .inr (.inr rfl)) (je_call (ok__law_span T) (hr.mono (by decide)) (L2N.takes_of rfl rfl rfl rfl) (by rfl) T.g__law_span T.F__law_span.kp T.b__law_span (argN_cons argN_nil) (ja_cons (je_var rfl 1) (ja_nil)))) (js_cons (js_set 4 nd rfl (by first | exact .inl rfl | exact .inr rfl | exact .inr (.inl rfl) | exact .inr (.inr rfl)) (je_callKw (ok_in_series T) (hr.mono (by decide)) (L2N.takes_of rfl rfl rfl rfl) (by rfl) T.g_in_series T.F_in_series.kp T.kb_in_series (argN_cons (argN_cons argN_nil)) (jk_cons (je_var rfl 0) (jk_cons (je_var rfl 1) (jk_nil))))) (js_cons (js_set 5 nd rfl (by first | exact .inl rfl | exact .inr rfl | exact .inr (.inl rfl) | exact .inr (.inr rfl)) (je_callKw (ok_in_parallel T) (hr.mono (by decide)) (L2N.takes_of rfl rfl rfl rfl) (by rfl) T.g_in_parallel T.F_in_parallel.kp T.kb_in_parallel (argN_cons (argN_cons argN_nil)) (jk_cons (je_var rfl 0) (jk_cons (je_var rfl 1) (jk_nil))))) (js_cons (js_if ((jw_or (jt_not (jt_val (je_call (ok__law_equal T 40) (hr.mono (by decide)) (L2N.takes_of rfl rfl rfl rfl) (by rfl) T.g__law_equal T.F__law_equal.kp T.b__law_equal (argN_cons (argN_cons argN_nil)) (ja_cons (je_var rfl 4) (ja_cons (je_call (ok__law_joined T) (hr.mono (by decide)) (L2N.takes_of rfl rfl rfl rfl) (by rfl) T.g__law_joined T.F__law_joined.kp T.b__law_joined (argN_cons (argN_cons (argN_cons argN_nil))) (ja_cons (je_var rfl 0) (ja_cons (je_var rfl 1) (ja_cons (je_bl) (ja_nil))))) (ja_nil)))))) (jw_or1 (jt_not (jt_val (je_call (ok__law_equal T 40) (hr.mono (by decide)) (L2N.takes_of rfl rfl rfl rfl) (by rfl) T.g__law_equal T.F__law_equal.kp T.b__law_equal (argN_cons (argN_cons argN_nil)) (ja_cons (je_var rfl 5) (ja_cons (je_call (ok__law_joined T) (hr.mono (by decide)) (L2N.takes_of rfl rfl rfl rfl) (by rfl) T.g__law_joined T.F__law_joined.kp T.b__law_joined (argN_cons (argN_cons (argN_cons argN_nil))) (ja_cons (je_var rfl 0) (ja_cons (je_var rfl 1) (ja_cons (je_bl) (ja_nil))))) (ja_nil)))))))).pt) (js_one (js_ret (je_bl))) (js_nil)) (js_cons (js_if ((jw_or (jt_cmp op_nisA fit_nis (je_call (ok_is_graph T) (hr.mono (by decide)) (L2N.takes_of rfl rfl rfl rfl) (by rfl) T.g_is_graph T.F_is_graph.kp T.b_is_graph (argN_cons argN_nil) (ja_cons (je_var rfl 4) (ja_nil))) (je_bl)) (jw_or1 (jt_cmp op_nisA fit_nis (je_call (ok_is_graph T) (hr.mono (by decide)) (L2N.takes_of rfl rfl rfl rfl) (by rfl) T.g_is_graph T.F_is_graph.kp T.b_is_graph (argN_cons argN_nil) (ja_cons (je_var rfl 5) (ja_nil))) (je_bl)))).pt) (js_one (js_ret (je_bl))) (js_nil)) (js_cons (js_for (tg := (.nm 6)) (passes_of rfl) (by rfl) rfl (je_lst (ja_cons (je_var rfl 4) (ja_cons (je_var rfl 5) (ja_nil)))) (pg_name (i := 6) nd rfl (by first | exact .inl rfl | exact .inr rfl | exact .inr (.inl rfl) | exact .inr (.inr rfl))) (js_less (w2 := []) (js_one (js_if (jt_not (jt_val (je_call (ok__law_equal T 40) (hr.mono (by decide)) (L2N.takes_of rfl rfl rfl rfl) (by rfl) T.g__law_equal T.F__law_equal.kp T.b__law_equal (argN_cons (argN_cons argN_nil)) (ja_cons (je_call (ok_work T) (hr.mono (by decide)) (L2N.takes_of rfl rfl rfl rfl) (by rfl) T.g_work T.F_work.kp T.b_work (argN_cons argN_nil) (ja_cons (je_var rfl 6) (ja_nil))) (ja_cons (je_bin op_addA fit_add (je_callB call_lenA fit_len (by rfl) T.n_len (by decide +kernel) (ja_cons (je_var rfl 0) (ja_nil))) (je_callB call_lenA fit_len (by rfl) T.n_len (by decide +kernel) (ja_cons (je_var rfl 1) (ja_nil)))) (ja_nil)))))) (js_one (js_ret (je_bl))) (js_nil))) (by decide))) (js_one (js_ret (je_and (je_call (ok__law_equal T 40) (hr.mono (by decide)) (L2N.takes_of rfl rfl rfl rfl) (by rfl) T.g__law_equal T.F__law_equal.kp T.b__law_equal (argN_cons (argN_cons argN_nil)) (ja_cons (je_call (ok_span T) (hr.mono (by decide)) (L2N.takes_of rfl rfl rfl rfl) (by rfl) T.g_span T.F_span.kp T.b_span (argN_cons argN_nil) (ja_cons (je_var rfl 4) (ja_nil))) (ja_cons (je_bin op_addA fit_add (je_var rfl 2) (je_var rfl 3)) (ja_nil)))) (je_one (je_call (ok__law_equal T 40) (hr.mono (by decide)) (L2N.takes_of rfl rfl rfl rfl) (by rfl) T.g__law_equal T.F__law_equal.kp T.b__law_equal (argN_cons (argN_cons argN_nil)) (ja_cons (je_call (ok_span T) (hr.mono (by decide)) (L2N.takes_of rfl rfl rfl rfl) (by rfl) T.g_span T.F_span.kp T.b_span (argN_cons argN_nil) (ja_cons (je_var rfl 5) (ja_nil))) (ja_cons (je_bin op_addA fit_add (je_var rfl 2) (je_bin op_mulL fit_mulL (je_bin op_sub fit_sub (je_var rfl 3) (je_var rfl 2)) (je_callTy call_int1 fit_int (by rfl) T.n_int (by decide +kernel) (ja_cons (je_cmp op_gtA fit_gt (je_var rfl 3) (je_var rfl 2)) (ja_nil))))) (ja_nil)))))))))))))))
theorem ok_law (T : Top K mg) : FnOk P w K mg base (L2N.CX P w) 42 T.f_law T.fd_law ["script"] (spF K mg 1 F_law) :=
  fn_mir (N := N_law) (m := m_law) T.F_law sc_law fun cdv A outer s H E B hr => by
    have nd := sc_law.nd
    have hu65 := hr_65 hr
    have hu64 := hr_64 hr
    have hu1 := hr_1 hr
    exact (js_cons (js_set 1 nd rfl (by first | exact .inl rfl | exact .inr rfl | exact .inr (.inl rfl) | exact .inr (.inr rfl)) (je_call (ok__law_graph T) (hr.mono (by decide)) (L2N.takes_of rfl rfl rfl rfl) (by rfl) T.g__law_graph T.F__law_graph.kp T.b__law_graph (argN_cons (argN_cons (argN_cons argN_nil))) (ja_cons (je_var rfl 0) (ja_cons (je_int) (ja_cons (je_int) (ja_nil)))))) (js_cons (js_set 2 nd rfl (by first | exact .inl rfl | exact .inr rfl | exact .inr (.inl rfl) | exact .inr (.inr rfl)) (je_call (ok__law_graph T) (hr.mono (by decide)) (L2N.takes_of rfl rfl rfl rfl) (by rfl) T.g__law_graph T.F__law_graph.kp T.b__law_graph (argN_cons (argN_cons (argN_cons argN_nil))) (ja_cons (je_var rfl 0) (ja_cons (je_int) (ja_cons (je_int) (ja_nil)))))) (js_cons (js_for (tg := (.nm 3)) (passes_of rfl) (by rfl) rfl (je_lst (ja_cons (je_tup (ja_cons (je_var rfl 1) (ja_cons (je_var rfl 2) (ja_nil)))) (ja_cons (je_tup (ja_cons (je_var rfl 2) (ja_cons (je_var rfl 1) (ja_nil)))) (ja_cons (je_tup (ja_cons (je_var rfl 1) (ja_cons (je_var rfl 1) (ja_nil)))) (ja_cons (je_tup (ja_cons (je_var rfl 1) (ja_cons (je_tup (ja_nil)) (ja_nil)))) (ja_cons (je_tup (ja_cons (je_tup (ja_nil)) (ja_cons (je_var rfl 2) (ja_nil)))) (ja_nil))))))) (pg_name (i := 3) nd rfl (by first | exact .inl rfl | exact .inr rfl | exact .inr (.inl rfl) | exact .inr (.inr rfl))) (js_less (w2 := []) (js_one (js_if (jt_not (jt_val (je_call (ok__law_is_right T) (hr.mono (by decide)) (L2N.takes_of rfl rfl rfl rfl) (by rfl) T.g__law_is_right T.F__law_is_right.kp T.b__law_is_right (argN_cons (argN_cons argN_nil)) (ja_cons (je_item rfl hu1 (je_var rfl 3) (je_int)) (ja_cons (je_item rfl hu1 (je_var rfl 3) (je_int)) (ja_nil)))))) (js_one (js_ret (je_bl))) (js_nil))) (by decide))) (js_cons (js_set 4 nd rfl (by first | exact .inl rfl | exact .inr rfl | exact .inr (.inl rfl) | exact .inr (.inr rfl)) (je_call (ok_in_series T) (hr.mono (by decide)) (L2N.takes_of rfl rfl rfl rfl) (by rfl) T.g_in_series T.F_in_series.kp T.b_in_series (argN_cons (argN_cons argN_nil)) (ja_cons (je_call (ok_in_series T) (hr.mono (by decide)) (L2N.takes_of rfl rfl rfl rfl) (by rfl) T.g_in_series T.F_in_series.kp T.b_in_series (argN_cons (argN_cons argN_nil)) (ja_cons (je_var rfl 1) (ja_cons (je_var rfl 2) (ja_nil)))) (ja_cons (je_var rfl 1) (ja_nil))))) (js_cons (js_if (jt_not (jt_val (je_call (ok__law_equal T 40) (hr.mono (by decide)) (L2N.takes_of rfl rfl rfl rfl) (by rfl) T.g__law_equal T.F__law_equal.kp T.b__law_equal (argN_cons (argN_cons argN_nil)) (ja_cons (je_var rfl 4) (ja_cons (je_call (ok__law_joined T) (hr.mono (by decide)) (L2N.takes_of rfl rfl rfl rfl) (by rfl) T.g__law_joined T.F__law_joined.kp T.b__law_joined (argN_cons (argN_cons (argN_cons argN_nil))) (ja_cons (je_call (ok__law_joined T) (hr.mono (by decide)) (L2N.takes_of rfl rfl rfl rfl) (by rfl) T.g__law_joined T.F__law_joined.kp T.b__law_joined (argN_cons (argN_cons (argN_cons argN_nil))) (ja_cons (je_var rfl 1) (ja_cons (je_var rfl 2) (ja_cons (je_bl) (ja_nil))))) (ja_cons (je_var rfl 1) (ja_cons (je_bl) (ja_nil))))) (ja_nil)))))) (js_one (js_ret (je_bl))) (js_nil)) (js_cons (js_if (jt_not (jt_val (je_call (ok__law_equal T 40) (hr.mono (by decide)) (L2N.takes_of rfl rfl rfl rfl) (by rfl) T.g__law_equal T.F__law_equal.kp T.b__law_equal (argN_cons (argN_cons argN_nil)) (ja_cons (je_call (ok_in_series T) (hr.mono (by decide)) (L2N.takes_of rfl rfl rfl rfl) (by rfl) T.g_in_series T.F_in_series.kp T.b_in_series (argN_cons (argN_cons argN_nil)) (ja_cons (je_var rfl 1) (ja_cons (je_call (ok_in_series T) (hr.mono (by decide)) (L2N.takes_of rfl rfl rfl rfl) (by rfl) T.g_in_series T.F_in_series.kp T.b_in_series (argN_cons (argN_cons argN_nil)) (ja_cons (je_var rfl 2) (ja_cons (je_var rfl 1) (ja_nil)))) (ja_nil)))) (ja_cons (je_var rfl 4) (ja_nil)))))) (js_one (js_ret (je_bl))) (js_nil)) (js_cons (js_set 5 nd rfl (by first | exact .inl rfl | exact .inr rfl | exact .inr (.inl rfl) | exact .inr (.inr rfl)) (je_call (ok__law_no_graph T) (hr.mono (by decide)) (L2N.takes_of rfl rfl rfl rfl) (by rfl) T.g__law_no_graph T.F__law_no_graph.kp T.b__law_no_graph (argN_cons (argN_cons argN_nil)) (ja_cons (je_var rfl 0) (ja_cons (je_int) (ja_nil))))) (js_cons (js_set 6 nd rfl (by first | exact .inl rfl | exact .inr rfl | exact .inr (.inl rfl) | exact .inr (.inr rfl)) (je_call (ok__law_no_graph T) (hr.mono (by decide)) (L2N.takes_of rfl rfl rfl rfl) (by rfl) T.g__law_no_graph T.F__law_no_graph.kp T.b__law_no_graph (argN_cons (argN_cons argN_nil)) (ja_cons (je_var rfl 0) (ja_cons (je_int) (ja_nil))))) (js_cons (js_for (tg := (.nm 7)) (passes_of rfl) (by rfl) rfl (je_lst (ja_cons (je_bl) (ja_cons (je_bl) (ja_nil)))) (pg_name (i := 7) nd rfl (by first | exact .inl rfl | exact .inr rfl | exact .inr (.inl rfl) | exact .inr (.inr rfl))) (js_less (w2 := []) (js_cons (js_if (jt_not (jt_val (je_call (ok__law_equal T 40) (hr.mono (by decide)) (L2N.takes_of rfl rfl rfl rfl) (by rfl) T.g__law_equal T.F__law_equal.kp T.b__law_equal (argN_cons (argN_cons argN_nil)) (ja_cons (je_call (ok__law_told T) (hr.mono (by decide)) (L2N.takes_of rfl rfl rfl rfl) (by rfl) T.g__law_told T.F__law_told.kp T.b__law_told (argN_cons (argN_cons (argN_cons argN_nil))) (ja_cons (je_var rfl 5) (ja_cons (je_var rfl 6) (ja_cons (je_var rfl 7) (ja_nil))))) (ja_cons (je_tup (ja_cons (je_str) (ja_cons (je_var rfl 5) (ja_nil)))) (ja_nil)))))) (js_one (js_ret (je_bl))) (js_nil)) (js_one (js_if (jt_not (jt_val (je_call (ok__law_equal T 40) (hr.mono (by decide)) (L2N.takes_of rfl rfl rfl rfl) (by rfl) T.g__law_equal T.F__law_equal.kp T.b__law_equal (argN_cons (argN_cons argN_nil)) (ja_cons (je_call (ok__law_told T) (hr.mono (by decide)) (L2N.takes_of rfl rfl rfl rfl) (by rfl) T.g__law_told T.F__law_told.kp T.b__law_told (argN_cons (argN_cons (argN_cons argN_nil))) (ja_cons (je_var rfl 1) (ja_cons (je_var rfl 6) (ja_cons (je_var rfl 7) (ja_nil))))) (ja_cons (je_tup (ja_cons (je_str) (ja_cons (je_var rfl 6) (ja_nil)))) (ja_nil)))))) (js_one (js_ret (je_bl))) (js_nil)))) (by decide))) (js_one (js_ret (je_bl))))))))))))
end
end K17

namespace K17
open PySem PySem.Spec PyProof.Rows L2
noncomputable def mkTop {K : Kf} {h : Heap} {mg : Str → Option Value} (X : K.In h) (G : h.Ns mainGlobals mg)
    {a_is_integer : Addr} {od_is_integer an_is_integer : Option Addr} {sl_is_integer : Array (Option Value)} {oc_is_integer kV_is_integer dc_is_integer pm_is_integer cd_is_integer ct_is_integer : Value}
    {a_is_row : Addr} {od_is_row an_is_row : Option Addr} {sl_is_row : Array (Option Value)} {oc_is_row kV_is_row dc_is_row pm_is_row cd_is_row ct_is_row : Value}
    {a_is_graph : Addr} {od_is_graph an_is_graph : Option Addr} {sl_is_graph : Array (Option Value)} {oc_is_graph kV_is_graph dc_is_graph pm_is_graph cd_is_graph ct_is_graph : Value}
    {a_check_graph : Addr} {od_check_graph an_check_graph : Option Addr} {sl_check_graph : Array (Option Value)} {oc_check_graph kV_check_graph dc_check_graph pm_check_graph cd_check_graph ct_check_graph : Value}
    {a_work : Addr} {od_work an_work : Option Addr} {sl_work : Array (Option Value)} {oc_work kV_work dc_work pm_work cd_work ct_work : Value}
    {a_heads : Addr} {od_heads an_heads : Option Addr} {sl_heads : Array (Option Value)} {oc_heads kV_heads dc_heads pm_heads cd_heads ct_heads : Value}
    {a_tails : Addr} {od_tails an_tails : Option Addr} {sl_tails : Array (Option Value)} {oc_tails kV_tails dc_tails pm_tails cd_tails ct_tails : Value}
    {a_span : Addr} {od_span an_span : Option Addr} {sl_span : Array (Option Value)} {oc_span kV_span dc_span pm_span cd_span ct_span : Value}
    {a_moved : Addr} {od_moved an_moved : Option Addr} {sl_moved : Array (Option Value)} {oc_moved kV_moved dc_moved pm_moved cd_moved ct_moved : Value}
    {a_in_series : Addr} {od_in_series an_in_series : Option Addr} {sl_in_series : Array (Option Value)} {oc_in_series kV_in_series dc_in_series pm_in_series cd_in_series ct_in_series : Value}
    {a_in_parallel : Addr} {od_in_parallel an_in_parallel : Option Addr} {sl_in_parallel : Array (Option Value)} {oc_in_parallel kV_in_parallel dc_in_parallel pm_in_parallel cd_in_parallel ct_in_parallel : Value}
    {a__law_draws : Addr} {od__law_draws an__law_draws : Option Addr} {sl__law_draws : Array (Option Value)} {oc__law_draws kV__law_draws dc__law_draws pm__law_draws cd__law_draws ct__law_draws : Value}
    {a__law_equal : Addr} {od__law_equal an__law_equal : Option Addr} {sl__law_equal : Array (Option Value)} {oc__law_equal kV__law_equal dc__law_equal pm__law_equal cd__law_equal ct__law_equal : Value}
    {a__law_graph : Addr} {od__law_graph an__law_graph : Option Addr} {sl__law_graph : Array (Option Value)} {oc__law_graph kV__law_graph dc__law_graph pm__law_graph cd__law_graph ct__law_graph : Value}
    {a__law_heads : Addr} {od__law_heads an__law_heads : Option Addr} {sl__law_heads : Array (Option Value)} {oc__law_heads kV__law_heads dc__law_heads pm__law_heads cd__law_heads ct__law_heads : Value}
    {a__law_span : Addr} {od__law_span an__law_span : Option Addr} {sl__law_span : Array (Option Value)} {oc__law_span kV__law_span dc__law_span pm__law_span cd__law_span ct__law_span : Value}
    {a__law_no_graph : Addr} {od__law_no_graph an__law_no_graph : Option Addr} {sl__law_no_graph : Array (Option Value)} {oc__law_no_graph kV__law_no_graph dc__law_no_graph pm__law_no_graph cd__law_no_graph ct__law_no_graph : Value}
    {a__law_joined : Addr} {od__law_joined an__law_joined : Option Addr} {sl__law_joined : Array (Option Value)} {oc__law_joined kV__law_joined dc__law_joined pm__law_joined cd__law_joined ct__law_joined : Value}
    {a__law_told : Addr} {od__law_told an__law_told : Option Addr} {sl__law_told : Array (Option Value)} {oc__law_told kV__law_told dc__law_told pm__law_told cd__law_told ct__law_told : Value}
    {a__law_is_right : Addr} {od__law_is_right an__law_is_right : Option Addr} {sl__law_is_right : Array (Option Value)} {oc__law_is_right kV__law_is_right dc__law_is_right pm__law_is_right cd__law_is_right ct__law_is_right : Value}
    {a_law : Addr} {od_law an_law : Option Addr} {sl_law : Array (Option Value)} {oc_law kV_law dc_law pm_law cd_law ct_law : Value}
    {C_InvalidGraph I_InvalidGraph : Addr} {nm_InvalidGraph q_InvalidGraph : Str} {N_InvalidGraph : Addr} {bs_InvalidGraph bm_InvalidGraph : List Value} {sn_InvalidGraph : List Str} {su_InvalidGraph : List Value} {ab_InvalidGraph : Bool} {co_InvalidGraph : Option Bool} {dd_InvalidGraph : Option Addr} {m0_InvalidGraph m1_InvalidGraph m2_InvalidGraph m3_InvalidGraph m5_InvalidGraph : Option Value} {od_InvalidGraph an_InvalidGraph : Option Addr} {sl_InvalidGraph : Array (Option Value)} {oc_InvalidGraph kV_InvalidGraph dc_InvalidGraph pm_InvalidGraph cd_InvalidGraph ct_InvalidGraph : Value}
    (p_is_integer : W.nsIn K mainGlobals "is_integer" = some (some (.ref a_is_integer)))
    (l_is_integer : K.lookup a_is_integer = some ⟨oc_is_integer, od_is_integer, .func (W.fnOf "is_integer" "is_integer" (defArgs s_is_integer) (defBody s_is_integer) (defScope s_is_integer) .none kV_is_integer dc_is_integer pm_is_integer an_is_integer cd_is_integer ct_is_integer), sl_is_integer⟩)
    (c_is_integer : W.codeIn K cd_is_integer "is_integer" = true)
    (k_is_integer : W.keepIn K (.ref a_is_integer) = true)
    (p_is_row : W.nsIn K mainGlobals "is_row" = some (some (.ref a_is_row)))
    (l_is_row : K.lookup a_is_row = some ⟨oc_is_row, od_is_row, .func (W.fnOf "is_row" "is_row" (defArgs s_is_row) (defBody s_is_row) (defScope s_is_row) .none kV_is_row dc_is_row pm_is_row an_is_row cd_is_row ct_is_row), sl_is_row⟩)
    (c_is_row : W.codeIn K cd_is_row "is_row" = true)
    (k_is_row : W.keepIn K (.ref a_is_row) = true)
    (p_is_graph : W.nsIn K mainGlobals "is_graph" = some (some (.ref a_is_graph)))
    (l_is_graph : K.lookup a_is_graph = some ⟨oc_is_graph, od_is_graph, .func (W.fnOf "is_graph" "is_graph" (defArgs s_is_graph) (defBody s_is_graph) (defScope s_is_graph) .none kV_is_graph dc_is_graph pm_is_graph an_is_graph cd_is_graph ct_is_graph), sl_is_graph⟩)
    (c_is_graph : W.codeIn K cd_is_graph "is_graph" = true)
    (k_is_graph : W.keepIn K (.ref a_is_graph) = true)
    (p_check_graph : W.nsIn K mainGlobals "check_graph" = some (some (.ref a_check_graph)))
    (l_check_graph : K.lookup a_check_graph = some ⟨oc_check_graph, od_check_graph, .func (W.fnOf "check_graph" "check_graph" (defArgs s_check_graph) (defBody s_check_graph) (defScope s_check_graph) .none kV_check_graph dc_check_graph pm_check_graph an_check_graph cd_check_graph ct_check_graph), sl_check_graph⟩)
    (c_check_graph : W.codeIn K cd_check_graph "check_graph" = true)
    (k_check_graph : W.keepIn K (.ref a_check_graph) = true)
    (p_work : W.nsIn K mainGlobals "work" = some (some (.ref a_work)))
    (l_work : K.lookup a_work = some ⟨oc_work, od_work, .func (W.fnOf "work" "work" (defArgs s_work) (defBody s_work) (defScope s_work) .none kV_work dc_work pm_work an_work cd_work ct_work), sl_work⟩)
    (c_work : W.codeIn K cd_work "work" = true)
    (k_work : W.keepIn K (.ref a_work) = true)
    (p_heads : W.nsIn K mainGlobals "heads" = some (some (.ref a_heads)))
    (l_heads : K.lookup a_heads = some ⟨oc_heads, od_heads, .func (W.fnOf "heads" "heads" (defArgs s_heads) (defBody s_heads) (defScope s_heads) .none kV_heads dc_heads pm_heads an_heads cd_heads ct_heads), sl_heads⟩)
    (c_heads : W.codeIn K cd_heads "heads" = true)
    (k_heads : W.keepIn K (.ref a_heads) = true)
    (p_tails : W.nsIn K mainGlobals "tails" = some (some (.ref a_tails)))
    (l_tails : K.lookup a_tails = some ⟨oc_tails, od_tails, .func (W.fnOf "tails" "tails" (defArgs s_tails) (defBody s_tails) (defScope s_tails) .none kV_tails dc_tails pm_tails an_tails cd_tails ct_tails), sl_tails⟩)
    (c_tails : W.codeIn K cd_tails "tails" = true)
    (k_tails : W.keepIn K (.ref a_tails) = true)
    (p_span : W.nsIn K mainGlobals "span" = some (some (.ref a_span)))
    (l_span : K.lookup a_span = some ⟨oc_span, od_span, .func (W.fnOf "span" "span" (defArgs s_span) (defBody s_span) (defScope s_span) .none kV_span dc_span pm_span an_span cd_span ct_span), sl_span⟩)
    (c_span : W.codeIn K cd_span "span" = true)
    (k_span : W.keepIn K (.ref a_span) = true)
    (p_moved : W.nsIn K mainGlobals "moved" = some (some (.ref a_moved)))
    (l_moved : K.lookup a_moved = some ⟨oc_moved, od_moved, .func (W.fnOf "moved" "moved" (defArgs s_moved) (defBody s_moved) (defScope s_moved) .none kV_moved dc_moved pm_moved an_moved cd_moved ct_moved), sl_moved⟩)
    (c_moved : W.codeIn K cd_moved "moved" = true)
    (k_moved : W.keepIn K (.ref a_moved) = true)
    (p_in_series : W.nsIn K mainGlobals "in_series" = some (some (.ref a_in_series)))
    (l_in_series : K.lookup a_in_series = some ⟨oc_in_series, od_in_series, .func (W.fnOf "in_series" "in_series" (defArgs s_in_series) (defBody s_in_series) (defScope s_in_series) .none kV_in_series dc_in_series pm_in_series an_in_series cd_in_series ct_in_series), sl_in_series⟩)
    (c_in_series : W.codeIn K cd_in_series "in_series" = true)
    (k_in_series : W.keepIn K (.ref a_in_series) = true)
    (p_in_parallel : W.nsIn K mainGlobals "in_parallel" = some (some (.ref a_in_parallel)))
    (l_in_parallel : K.lookup a_in_parallel = some ⟨oc_in_parallel, od_in_parallel, .func (W.fnOf "in_parallel" "in_parallel" (defArgs s_in_parallel) (defBody s_in_parallel) (defScope s_in_parallel) .none kV_in_parallel dc_in_parallel pm_in_parallel an_in_parallel cd_in_parallel ct_in_parallel), sl_in_parallel⟩)
    (c_in_parallel : W.codeIn K cd_in_parallel "in_parallel" = true)
    (k_in_parallel : W.keepIn K (.ref a_in_parallel) = true)
    (p__law_draws : W.nsIn K mainGlobals "_law_draws" = some (some (.ref a__law_draws)))
    (l__law_draws : K.lookup a__law_draws = some ⟨oc__law_draws, od__law_draws, .func (W.fnOf "_law_draws" "_law_draws" (defArgs s__law_draws) (defBody s__law_draws) (defScope s__law_draws) .none kV__law_draws dc__law_draws pm__law_draws an__law_draws cd__law_draws ct__law_draws), sl__law_draws⟩)
    (c__law_draws : W.codeIn K cd__law_draws "_law_draws" = true)
    (k__law_draws : W.keepIn K (.ref a__law_draws) = true)
    (p__law_equal : W.nsIn K mainGlobals "_law_equal" = some (some (.ref a__law_equal)))
    (l__law_equal : K.lookup a__law_equal = some ⟨oc__law_equal, od__law_equal, .func (W.fnOf "_law_equal" "_law_equal" (defArgs s__law_equal) (defBody s__law_equal) (defScope s__law_equal) .none kV__law_equal dc__law_equal pm__law_equal an__law_equal cd__law_equal ct__law_equal), sl__law_equal⟩)
    (c__law_equal : W.codeIn K cd__law_equal "_law_equal" = true)
    (k__law_equal : W.keepIn K (.ref a__law_equal) = true)
    (p__law_graph : W.nsIn K mainGlobals "_law_graph" = some (some (.ref a__law_graph)))
    (l__law_graph : K.lookup a__law_graph = some ⟨oc__law_graph, od__law_graph, .func (W.fnOf "_law_graph" "_law_graph" (defArgs s__law_graph) (defBody s__law_graph) (defScope s__law_graph) .none kV__law_graph dc__law_graph pm__law_graph an__law_graph cd__law_graph ct__law_graph), sl__law_graph⟩)
    (c__law_graph : W.codeIn K cd__law_graph "_law_graph" = true)
    (k__law_graph : W.keepIn K (.ref a__law_graph) = true)
    (p__law_heads : W.nsIn K mainGlobals "_law_heads" = some (some (.ref a__law_heads)))
    (l__law_heads : K.lookup a__law_heads = some ⟨oc__law_heads, od__law_heads, .func (W.fnOf "_law_heads" "_law_heads" (defArgs s__law_heads) (defBody s__law_heads) (defScope s__law_heads) .none kV__law_heads dc__law_heads pm__law_heads an__law_heads cd__law_heads ct__law_heads), sl__law_heads⟩)
    (c__law_heads : W.codeIn K cd__law_heads "_law_heads" = true)
    (k__law_heads : W.keepIn K (.ref a__law_heads) = true)
    (p__law_span : W.nsIn K mainGlobals "_law_span" = some (some (.ref a__law_span)))
    (l__law_span : K.lookup a__law_span = some ⟨oc__law_span, od__law_span, .func (W.fnOf "_law_span" "_law_span" (defArgs s__law_span) (defBody s__law_span) (defScope s__law_span) .none kV__law_span dc__law_span pm__law_span an__law_span cd__law_span ct__law_span), sl__law_span⟩)
    (c__law_span : W.codeIn K cd__law_span "_law_span" = true)
    (k__law_span : W.keepIn K (.ref a__law_span) = true)
    (p__law_no_graph : W.nsIn K mainGlobals "_law_no_graph" = some (some (.ref a__law_no_graph)))
    (l__law_no_graph : K.lookup a__law_no_graph = some ⟨oc__law_no_graph, od__law_no_graph, .func (W.fnOf "_law_no_graph" "_law_no_graph" (defArgs s__law_no_graph) (defBody s__law_no_graph) (defScope s__law_no_graph) .none kV__law_no_graph dc__law_no_graph pm__law_no_graph an__law_no_graph cd__law_no_graph ct__law_no_graph), sl__law_no_graph⟩)
    (c__law_no_graph : W.codeIn K cd__law_no_graph "_law_no_graph" = true)
    (k__law_no_graph : W.keepIn K (.ref a__law_no_graph) = true)
    (p__law_joined : W.nsIn K mainGlobals "_law_joined" = some (some (.ref a__law_joined)))
    (l__law_joined : K.lookup a__law_joined = some ⟨oc__law_joined, od__law_joined, .func (W.fnOf "_law_joined" "_law_joined" (defArgs s__law_joined) (defBody s__law_joined) (defScope s__law_joined) .none kV__law_joined dc__law_joined pm__law_joined an__law_joined cd__law_joined ct__law_joined), sl__law_joined⟩)
    (c__law_joined : W.codeIn K cd__law_joined "_law_joined" = true)
    (k__law_joined : W.keepIn K (.ref a__law_joined) = true)
    (p__law_told : W.nsIn K mainGlobals "_law_told" = some (some (.ref a__law_told)))
    (l__law_told : K.lookup a__law_told = some ⟨oc__law_told, od__law_told, .func (W.fnOf "_law_told" "_law_told" (defArgs s__law_told) (defBody s__law_told) (defScope s__law_told) .none kV__law_told dc__law_told pm__law_told an__law_told cd__law_told ct__law_told), sl__law_told⟩)
    (c__law_told : W.codeIn K cd__law_told "_law_told" = true)
    (k__law_told : W.keepIn K (.ref a__law_told) = true)
    (p__law_is_right : W.nsIn K mainGlobals "_law_is_right" = some (some (.ref a__law_is_right)))
    (l__law_is_right : K.lookup a__law_is_right = some ⟨oc__law_is_right, od__law_is_right, .func (W.fnOf "_law_is_right" "_law_is_right" (defArgs s__law_is_right) (defBody s__law_is_right) (defScope s__law_is_right) .none kV__law_is_right dc__law_is_right pm__law_is_right an__law_is_right cd__law_is_right ct__law_is_right), sl__law_is_right⟩)
    (c__law_is_right : W.codeIn K cd__law_is_right "_law_is_right" = true)
    (k__law_is_right : W.keepIn K (.ref a__law_is_right) = true)
    (p_law : W.nsIn K mainGlobals "law" = some (some (.ref a_law)))
    (l_law : K.lookup a_law = some ⟨oc_law, od_law, .func (W.fnOf "law" "law" (defArgs s_law) (defBody s_law) (defScope s_law) .none kV_law dc_law pm_law an_law cd_law ct_law), sl_law⟩)
    (c_law : W.codeIn K cd_law "law" = true)
    (k_law : W.keepIn K (.ref a_law) = true)
    (z_all : W.nsIn K mainGlobals "all" = some none)
    (z_bool : W.nsIn K mainGlobals "bool" = some none)
    (z_enumerate : W.nsIn K mainGlobals "enumerate" = some none)
    (z_int : W.nsIn K mainGlobals "int" = some none)
    (z_isinstance : W.nsIn K mainGlobals "isinstance" = some none)
    (z_len : W.nsIn K mainGlobals "len" = some none)
    (z_list : W.nsIn K mainGlobals "list" = some none)
    (z_max : W.nsIn K mainGlobals "max" = some none)
    (z_range : W.nsIn K mainGlobals "range" = some none)
    (z_reversed : W.nsIn K mainGlobals "reversed" = some none)
    (z_set : W.nsIn K mainGlobals "set" = some none)
    (z_sorted : W.nsIn K mainGlobals "sorted" = some none)
    (z_str : W.nsIn K mainGlobals "str" = some none)
    (z_tuple : W.nsIn K mainGlobals "tuple" = some none)
    (pC_InvalidGraph : W.nsIn K mainGlobals "InvalidGraph" = some (some (.ref C_InvalidGraph)))
    (xC_InvalidGraph : K.lookup C_InvalidGraph = some (excClassObj nm_InvalidGraph q_InvalidGraph C_InvalidGraph N_InvalidGraph bs_InvalidGraph bm_InvalidGraph true sn_InvalidGraph su_InvalidGraph ab_InvalidGraph co_InvalidGraph dd_InvalidGraph m0_InvalidGraph m1_InvalidGraph m2_InvalidGraph m3_InvalidGraph m5_InvalidGraph "ValueError.__new__"))
    (vC_InvalidGraph : HandSPX.refsVE bm_InvalidGraph = true)
    (sa_InvalidGraph : W.findIn K (.ref C_InvalidGraph) "__setattr__" = some (some (.builtin "object.__setattr__")))
    (ga_InvalidGraph : W.findIn K (.ref C_InvalidGraph) "__getattribute__" = some (some (.builtin "BaseException.__getattribute__")))
    (gg_InvalidGraph : W.findIn K (.ref C_InvalidGraph) "__getattr__" = some none)
    (nf_InvalidGraph_value : W.findIn K (.ref C_InvalidGraph) "value" = some none)
    (iC_InvalidGraph : W.findIn K (.ref C_InvalidGraph) "__init__" = some (some (.ref I_InvalidGraph)))
    (tI_InvalidGraph : W.typeIn K (.ref I_InvalidGraph) = some (.type "function"))
    (lI_InvalidGraph : K.lookup I_InvalidGraph = some ⟨oc_InvalidGraph, od_InvalidGraph, .func (W.fnOf "__init__" "InvalidGraph.__init__" (defArgs s_InvalidGraph_init) (defBody s_InvalidGraph_init) (defScope s_InvalidGraph_init) .none kV_InvalidGraph dc_InvalidGraph pm_InvalidGraph an_InvalidGraph cd_InvalidGraph ct_InvalidGraph), sl_InvalidGraph⟩)
    (cI_InvalidGraph : W.codeIn K cd_InvalidGraph "InvalidGraph.__init__" = true)
    (kI_InvalidGraph : W.keepIn K (.ref I_InvalidGraph) = true)
    (kC_InvalidGraph : W.keepIn K (.ref C_InvalidGraph) = true)
    (eC_InvalidGraph : W.subIn K (.ref C_InvalidGraph) (.type "BaseException") = some true)
    (tC_InvalidGraph : W.typeIn K (.ref C_InvalidGraph) = some (.type "type"))
    (hC_InvalidGraph : W.hasDictIn K C_InvalidGraph = true)
    (jC_InvalidGraph : W.isClsIn K C_InvalidGraph = true)
    (sC_InvalidGraph : W.subIn K (.ref C_InvalidGraph) (.ref C_InvalidGraph) = some true) : Top K mg where
  f_is_integer := a_is_integer
  fd_is_integer := _
  F_is_integer := fun_mk (st := s_is_integer) l_is_integer c_is_integer k_is_integer
  g_is_integer := W.mg_of X G p_is_integer
  b_is_integer := (fun_mk (st := s_is_integer) l_is_integer c_is_integer k_is_integer).binds (ps := ["value"]) fun _ _ _ _ _ _ us hl => match us, hl with | [_], _ => rfl
  kb_is_integer := fun s us _ hl => match us, hl with | [_], _ => .of_eq rfl
  f_is_row := a_is_row
  fd_is_row := _
  F_is_row := fun_mk (st := s_is_row) l_is_row c_is_row k_is_row
  g_is_row := W.mg_of X G p_is_row
  b_is_row := (fun_mk (st := s_is_row) l_is_row c_is_row k_is_row).binds (ps := ["value", "limit"]) fun _ _ _ _ _ _ us hl => match us, hl with | [_, _], _ => rfl
  kb_is_row := fun s us _ hl => match us, hl with | [_, _], _ => .of_eq rfl
  f_is_graph := a_is_graph
  fd_is_graph := _
  F_is_graph := fun_mk (st := s_is_graph) l_is_graph c_is_graph k_is_graph
  g_is_graph := W.mg_of X G p_is_graph
  b_is_graph := (fun_mk (st := s_is_graph) l_is_graph c_is_graph k_is_graph).binds (ps := ["value"]) fun _ _ _ _ _ _ us hl => match us, hl with | [_], _ => rfl
  kb_is_graph := fun s us _ hl => match us, hl with | [_], _ => .of_eq rfl
  f_check_graph := a_check_graph
  fd_check_graph := _
  F_check_graph := fun_mk (st := s_check_graph) l_check_graph c_check_graph k_check_graph
  g_check_graph := W.mg_of X G p_check_graph
  b_check_graph := (fun_mk (st := s_check_graph) l_check_graph c_check_graph k_check_graph).binds (ps := ["graph"]) fun _ _ _ _ _ _ us hl => match us, hl with | [_], _ => rfl
  kb_check_graph := fun s us _ hl => match us, hl with | [_], _ => .of_eq rfl
  f_work := a_work
  fd_work := _
  F_work := fun_mk (st := s_work) l_work c_work k_work
  g_work := W.mg_of X G p_work
  b_work := (fun_mk (st := s_work) l_work c_work k_work).binds (ps := ["graph"]) fun _ _ _ _ _ _ us hl => match us, hl with | [_], _ => rfl
  kb_work := fun s us _ hl => match us, hl with | [_], _ => .of_eq rfl
  f_heads := a_heads
  fd_heads := _
  F_heads := fun_mk (st := s_heads) l_heads c_heads k_heads
  g_heads := W.mg_of X G p_heads
  b_heads := (fun_mk (st := s_heads) l_heads c_heads k_heads).binds (ps := ["graph"]) fun _ _ _ _ _ _ us hl => match us, hl with | [_], _ => rfl
  kb_heads := fun s us _ hl => match us, hl with | [_], _ => .of_eq rfl
  f_tails := a_tails
  fd_tails := _
  F_tails := fun_mk (st := s_tails) l_tails c_tails k_tails
  g_tails := W.mg_of X G p_tails
  b_tails := (fun_mk (st := s_tails) l_tails c_tails k_tails).binds (ps := ["graph"]) fun _ _ _ _ _ _ us hl => match us, hl with | [_], _ => rfl
  kb_tails := fun s us _ hl => match us, hl with | [_], _ => .of_eq rfl
  f_span := a_span
  fd_span := _
  F_span := fun_mk (st := s_span) l_span c_span k_span
  g_span := W.mg_of X G p_span
  b_span := (fun_mk (st := s_span) l_span c_span k_span).binds (ps := ["graph"]) fun _ _ _ _ _ _ us hl => match us, hl with | [_], _ => rfl
  kb_span := fun s us _ hl => match us, hl with | [_], _ => .of_eq rfl
  f_moved := a_moved
  fd_moved := _
  F_moved := fun_mk (st := s_moved) l_moved c_moved k_moved
  g_moved := W.mg_of X G p_moved
  b_moved := (fun_mk (st := s_moved) l_moved c_moved k_moved).binds (ps := ["graph", "by"]) fun _ _ _ _ _ _ us hl => match us, hl with | [_, _], _ => rfl
  kb_moved := fun s us _ hl => match us, hl with | [_, _], _ => .of_eq rfl
  f_in_series := a_in_series
  fd_in_series := _
  F_in_series := fun_mk (st := s_in_series) l_in_series c_in_series k_in_series
  g_in_series := W.mg_of X G p_in_series
  b_in_series := (fun_mk (st := s_in_series) l_in_series c_in_series k_in_series).binds (ps := ["graph", "other"]) fun _ _ _ _ _ _ us hl => match us, hl with | [_, _], _ => rfl
  kb_in_series := fun s us _ hl => match us, hl with | [_, _], _ => .of_eq rfl
  f_in_parallel := a_in_parallel
  fd_in_parallel := _
  F_in_parallel := fun_mk (st := s_in_parallel) l_in_parallel c_in_parallel k_in_parallel
  g_in_parallel := W.mg_of X G p_in_parallel
  b_in_parallel := (fun_mk (st := s_in_parallel) l_in_parallel c_in_parallel k_in_parallel).binds (ps := ["graph", "other"]) fun _ _ _ _ _ _ us hl => match us, hl with | [_, _], _ => rfl
  kb_in_parallel := fun s us _ hl => match us, hl with | [_, _], _ => .of_eq rfl
  f__law_draws := a__law_draws
  fd__law_draws := _
  F__law_draws := fun_mk (st := s__law_draws) l__law_draws c__law_draws k__law_draws
  g__law_draws := W.mg_of X G p__law_draws
  b__law_draws := (fun_mk (st := s__law_draws) l__law_draws c__law_draws k__law_draws).binds (ps := ["script", "k", "bounds"]) fun _ _ _ _ _ _ us hl => match us, hl with | [_, _, _], _ => rfl
  kb__law_draws := fun s us _ hl => match us, hl with | [_, _, _], _ => .of_eq rfl
  f__law_equal := a__law_equal
  fd__law_equal := _
  F__law_equal := fun_mk (st := s__law_equal) l__law_equal c__law_equal k__law_equal
  g__law_equal := W.mg_of X G p__law_equal
  b__law_equal := (fun_mk (st := s__law_equal) l__law_equal c__law_equal k__law_equal).binds (ps := ["actual", "expected"]) fun _ _ _ _ _ _ us hl => match us, hl with | [_, _], _ => rfl
  kb__law_equal := fun s us _ hl => match us, hl with | [_, _], _ => .of_eq rfl
  f__law_graph := a__law_graph
  fd__law_graph := _
  F__law_graph := fun_mk (st := s__law_graph) l__law_graph c__law_graph k__law_graph
  g__law_graph := W.mg_of X G p__law_graph
  b__law_graph := (fun_mk (st := s__law_graph) l__law_graph c__law_graph k__law_graph).binds (ps := ["script", "k", "most"]) fun _ _ _ _ _ _ us hl => match us, hl with | [_, _, _], _ => rfl
  kb__law_graph := fun s us _ hl => match us, hl with | [_, _, _], _ => .of_eq rfl
  f__law_heads := a__law_heads
  fd__law_heads := _
  F__law_heads := fun_mk (st := s__law_heads) l__law_heads c__law_heads k__law_heads
  g__law_heads := W.mg_of X G p__law_heads
  b__law_heads := (fun_mk (st := s__law_heads) l__law_heads c__law_heads k__law_heads).binds (ps := ["graph"]) fun _ _ _ _ _ _ us hl => match us, hl with | [_], _ => rfl
  kb__law_heads := fun s us _ hl => match us, hl with | [_], _ => .of_eq rfl
  f__law_span := a__law_span
  fd__law_span := _
  F__law_span := fun_mk (st := s__law_span) l__law_span c__law_span k__law_span
  g__law_span := W.mg_of X G p__law_span
  b__law_span := (fun_mk (st := s__law_span) l__law_span c__law_span k__law_span).binds (ps := ["graph"]) fun _ _ _ _ _ _ us hl => match us, hl with | [_], _ => rfl
  kb__law_span := fun s us _ hl => match us, hl with | [_], _ => .of_eq rfl
  f__law_no_graph := a__law_no_graph
  fd__law_no_graph := _
  F__law_no_graph := fun_mk (st := s__law_no_graph) l__law_no_graph c__law_no_graph k__law_no_graph
  g__law_no_graph := W.mg_of X G p__law_no_graph
  b__law_no_graph := (fun_mk (st := s__law_no_graph) l__law_no_graph c__law_no_graph k__law_no_graph).binds (ps := ["script", "k"]) fun _ _ _ _ _ _ us hl => match us, hl with | [_, _], _ => rfl
  kb__law_no_graph := fun s us _ hl => match us, hl with | [_, _], _ => .of_eq rfl
  f__law_joined := a__law_joined
  fd__law_joined := _
  F__law_joined := fun_mk (st := s__law_joined) l__law_joined c__law_joined k__law_joined
  g__law_joined := W.mg_of X G p__law_joined
  b__law_joined := (fun_mk (st := s__law_joined) l__law_joined c__law_joined k__law_joined).binds (ps := ["graph", "other", "series"]) fun _ _ _ _ _ _ us hl => match us, hl with | [_, _, _], _ => rfl
  kb__law_joined := fun s us _ hl => match us, hl with | [_, _, _], _ => .of_eq rfl
  f__law_told := a__law_told
  fd__law_told := _
  F__law_told := fun_mk (st := s__law_told) l__law_told c__law_told k__law_told
  g__law_told := W.mg_of X G p__law_told
  b__law_told := (fun_mk (st := s__law_told) l__law_told c__law_told k__law_told).binds (ps := ["graph", "other", "series"]) fun _ _ _ _ _ _ us hl => match us, hl with | [_, _, _], _ => rfl
  kb__law_told := fun s us _ hl => match us, hl with | [_, _, _], _ => .of_eq rfl
  f__law_is_right := a__law_is_right
  fd__law_is_right := _
  F__law_is_right := fun_mk (st := s__law_is_right) l__law_is_right c__law_is_right k__law_is_right
  g__law_is_right := W.mg_of X G p__law_is_right
  b__law_is_right := (fun_mk (st := s__law_is_right) l__law_is_right c__law_is_right k__law_is_right).binds (ps := ["graph", "other"]) fun _ _ _ _ _ _ us hl => match us, hl with | [_, _], _ => rfl
  kb__law_is_right := fun s us _ hl => match us, hl with | [_, _], _ => .of_eq rfl
  f_law := a_law
  fd_law := _
  F_law := fun_mk (st := s_law) l_law c_law k_law
  g_law := W.mg_of X G p_law
  b_law := (fun_mk (st := s_law) l_law c_law k_law).binds (ps := ["script"]) fun _ _ _ _ _ _ us hl => match us, hl with | [_], _ => rfl
  kb_law := fun s us _ hl => match us, hl with | [_], _ => .of_eq rfl
  n_all := W.mg_none_of X G z_all
  n_bool := W.mg_none_of X G z_bool
  n_enumerate := W.mg_none_of X G z_enumerate
  n_int := W.mg_none_of X G z_int
  n_isinstance := W.mg_none_of X G z_isinstance
  n_len := W.mg_none_of X G z_len
  n_list := W.mg_none_of X G z_list
  n_max := W.mg_none_of X G z_max
  n_range := W.mg_none_of X G z_range
  n_reversed := W.mg_none_of X G z_reversed
  n_set := W.mg_none_of X G z_set
  n_sorted := W.mg_none_of X G z_sorted
  n_str := W.mg_none_of X G z_str
  n_tuple := W.mg_none_of X G z_tuple
  C_InvalidGraph := C_InvalidGraph
  fI_InvalidGraph := I_InvalidGraph
  fdI_InvalidGraph := _
  g_InvalidGraph := W.mg_of X G pC_InvalidGraph
  O_InvalidGraph := ⟨⟨_, _, _, _, _, _, _, _, _, _, _, _, _, _, _, xC_InvalidGraph, vC_InvalidGraph⟩, sa_InvalidGraph, eC_InvalidGraph, tC_InvalidGraph, kC_InvalidGraph⟩
  X_InvalidGraph := ⟨ga_InvalidGraph, gg_InvalidGraph, eC_InvalidGraph, hC_InvalidGraph⟩
  iC_InvalidGraph := iC_InvalidGraph
  tI_InvalidGraph := tI_InvalidGraph
  FI_InvalidGraph := fun_mk (st := s_InvalidGraph_init) lI_InvalidGraph cI_InvalidGraph kI_InvalidGraph
  em_InvalidGraph := exm_eq eC_InvalidGraph jC_InvalidGraph tC_InvalidGraph sC_InvalidGraph
  bI_InvalidGraph := (fun_mk (st := s_InvalidGraph_init) lI_InvalidGraph cI_InvalidGraph kI_InvalidGraph).binds (ps := ["self", "value"]) fun _ _ _ _ _ _ us hl => match us, hl with | [_, _], _ => rfl
  no_InvalidGraph_value := nf_InvalidGraph_value
theorem all_mk {l : W.OpenLaw} {w : World} {K : Kf} {h : Heap} {mg : Str → Option Value} {fa : Addr} (math : ∀ ns : List Int, ns.length ≤ 63 → ∃ en, F_law [scrD ns] = .ok (.d (.bool true)) en) (X : K.In h) (G : h.Ns mainGlobals mg) (hfa : mg "law" = some (.ref fa))
    {a_is_integer : Addr} {od_is_integer an_is_integer : Option Addr} {sl_is_integer : Array (Option Value)} {oc_is_integer kV_is_integer dc_is_integer pm_is_integer cd_is_integer ct_is_integer : Value}
    {a_is_row : Addr} {od_is_row an_is_row : Option Addr} {sl_is_row : Array (Option Value)} {oc_is_row kV_is_row dc_is_row pm_is_row cd_is_row ct_is_row : Value}
    {a_is_graph : Addr} {od_is_graph an_is_graph : Option Addr} {sl_is_graph : Array (Option Value)} {oc_is_graph kV_is_graph dc_is_graph pm_is_graph cd_is_graph ct_is_graph : Value}
    {a_check_graph : Addr} {od_check_graph an_check_graph : Option Addr} {sl_check_graph : Array (Option Value)} {oc_check_graph kV_check_graph dc_check_graph pm_check_graph cd_check_graph ct_check_graph : Value}
    {a_work : Addr} {od_work an_work : Option Addr} {sl_work : Array (Option Value)} {oc_work kV_work dc_work pm_work cd_work ct_work : Value}
    {a_heads : Addr} {od_heads an_heads : Option Addr} {sl_heads : Array (Option Value)} {oc_heads kV_heads dc_heads pm_heads cd_heads ct_heads : Value}
    {a_tails : Addr} {od_tails an_tails : Option Addr} {sl_tails : Array (Option Value)} {oc_tails kV_tails dc_tails pm_tails cd_tails ct_tails : Value}
    {a_span : Addr} {od_span an_span : Option Addr} {sl_span : Array (Option Value)} {oc_span kV_span dc_span pm_span cd_span ct_span : Value}
    {a_moved : Addr} {od_moved an_moved : Option Addr} {sl_moved : Array (Option Value)} {oc_moved kV_moved dc_moved pm_moved cd_moved ct_moved : Value}
    {a_in_series : Addr} {od_in_series an_in_series : Option Addr} {sl_in_series : Array (Option Value)} {oc_in_series kV_in_series dc_in_series pm_in_series cd_in_series ct_in_series : Value}
    {a_in_parallel : Addr} {od_in_parallel an_in_parallel : Option Addr} {sl_in_parallel : Array (Option Value)} {oc_in_parallel kV_in_parallel dc_in_parallel pm_in_parallel cd_in_parallel ct_in_parallel : Value}
    {a__law_draws : Addr} {od__law_draws an__law_draws : Option Addr} {sl__law_draws : Array (Option Value)} {oc__law_draws kV__law_draws dc__law_draws pm__law_draws cd__law_draws ct__law_draws : Value}
    {a__law_equal : Addr} {od__law_equal an__law_equal : Option Addr} {sl__law_equal : Array (Option Value)} {oc__law_equal kV__law_equal dc__law_equal pm__law_equal cd__law_equal ct__law_equal : Value}
    {a__law_graph : Addr} {od__law_graph an__law_graph : Option Addr} {sl__law_graph : Array (Option Value)} {oc__law_graph kV__law_graph dc__law_graph pm__law_graph cd__law_graph ct__law_graph : Value}
    {a__law_heads : Addr} {od__law_heads an__law_heads : Option Addr} {sl__law_heads : Array (Option Value)} {oc__law_heads kV__law_heads dc__law_heads pm__law_heads cd__law_heads ct__law_heads : Value}
    {a__law_span : Addr} {od__law_span an__law_span : Option Addr} {sl__law_span : Array (Option Value)} {oc__law_span kV__law_span dc__law_span pm__law_span cd__law_span ct__law_span : Value}
    {a__law_no_graph : Addr} {od__law_no_graph an__law_no_graph : Option Addr} {sl__law_no_graph : Array (Option Value)} {oc__law_no_graph kV__law_no_graph dc__law_no_graph pm__law_no_graph cd__law_no_graph ct__law_no_graph : Value}
    {a__law_joined : Addr} {od__law_joined an__law_joined : Option Addr} {sl__law_joined : Array (Option Value)} {oc__law_joined kV__law_joined dc__law_joined pm__law_joined cd__law_joined ct__law_joined : Value}
    {a__law_told : Addr} {od__law_told an__law_told : Option Addr} {sl__law_told : Array (Option Value)} {oc__law_told kV__law_told dc__law_told pm__law_told cd__law_told ct__law_told : Value}
    {a__law_is_right : Addr} {od__law_is_right an__law_is_right : Option Addr} {sl__law_is_right : Array (Option Value)} {oc__law_is_right kV__law_is_right dc__law_is_right pm__law_is_right cd__law_is_right ct__law_is_right : Value}
    {a_law : Addr} {od_law an_law : Option Addr} {sl_law : Array (Option Value)} {oc_law kV_law dc_law pm_law cd_law ct_law : Value}
    {C_InvalidGraph I_InvalidGraph : Addr} {nm_InvalidGraph q_InvalidGraph : Str} {N_InvalidGraph : Addr} {bs_InvalidGraph bm_InvalidGraph : List Value} {sn_InvalidGraph : List Str} {su_InvalidGraph : List Value} {ab_InvalidGraph : Bool} {co_InvalidGraph : Option Bool} {dd_InvalidGraph : Option Addr} {m0_InvalidGraph m1_InvalidGraph m2_InvalidGraph m3_InvalidGraph m5_InvalidGraph : Option Value} {od_InvalidGraph an_InvalidGraph : Option Addr} {sl_InvalidGraph : Array (Option Value)} {oc_InvalidGraph kV_InvalidGraph dc_InvalidGraph pm_InvalidGraph cd_InvalidGraph ct_InvalidGraph : Value}
    (p_is_integer : W.nsIn K mainGlobals "is_integer" = some (some (.ref a_is_integer)))
    (l_is_integer : K.lookup a_is_integer = some ⟨oc_is_integer, od_is_integer, .func (W.fnOf "is_integer" "is_integer" (defArgs s_is_integer) (defBody s_is_integer) (defScope s_is_integer) .none kV_is_integer dc_is_integer pm_is_integer an_is_integer cd_is_integer ct_is_integer), sl_is_integer⟩)
    (c_is_integer : W.codeIn K cd_is_integer "is_integer" = true)
    (k_is_integer : W.keepIn K (.ref a_is_integer) = true)
    (p_is_row : W.nsIn K mainGlobals "is_row" = some (some (.ref a_is_row)))
    (l_is_row : K.lookup a_is_row = some ⟨oc_is_row, od_is_row, .func (W.fnOf "is_row" "is_row" (defArgs s_is_row) (defBody s_is_row) (defScope s_is_row) .none kV_is_row dc_is_row pm_is_row an_is_row cd_is_row ct_is_row), sl_is_row⟩)
    (c_is_row : W.codeIn K cd_is_row "is_row" = true)
    (k_is_row : W.keepIn K (.ref a_is_row) = true)
    (p_is_graph : W.nsIn K mainGlobals "is_graph" = some (some (.ref a_is_graph)))
    (l_is_graph : K.lookup a_is_graph = some ⟨oc_is_graph, od_is_graph, .func (W.fnOf "is_graph" "is_graph" (defArgs s_is_graph) (defBody s_is_graph) (defScope s_is_graph) .none kV_is_graph dc_is_graph pm_is_graph an_is_graph cd_is_graph ct_is_graph), sl_is_graph⟩)
    (c_is_graph : W.codeIn K cd_is_graph "is_graph" = true)
    (k_is_graph : W.keepIn K (.ref a_is_graph) = true)
    (p_check_graph : W.nsIn K mainGlobals "check_graph" = some (some (.ref a_check_graph)))
    (l_check_graph : K.lookup a_check_graph = some ⟨oc_check_graph, od_check_graph, .func (W.fnOf "check_graph" "check_graph" (defArgs s_check_graph) (defBody s_check_graph) (defScope s_check_graph) .none kV_check_graph dc_check_graph pm_check_graph an_check_graph cd_check_graph ct_check_graph), sl_check_graph⟩)
    (c_check_graph : W.codeIn K cd_check_graph "check_graph" = true)
    (k_check_graph : W.keepIn K (.ref a_check_graph) = true)
    (p_work : W.nsIn K mainGlobals "work" = some (some (.ref a_work)))
    (l_work : K.lookup a_work = some ⟨oc_work, od_work, .func (W.fnOf "work" "work" (defArgs s_work) (defBody s_work) (defScope s_work) .none kV_work dc_work pm_work an_work cd_work ct_work), sl_work⟩)
    (c_work : W.codeIn K cd_work "work" = true)
    (k_work : W.keepIn K (.ref a_work) = true)
    (p_heads : W.nsIn K mainGlobals "heads" = some (some (.ref a_heads)))
    (l_heads : K.lookup a_heads = some ⟨oc_heads, od_heads, .func (W.fnOf "heads" "heads" (defArgs s_heads) (defBody s_heads) (defScope s_heads) .none kV_heads dc_heads pm_heads an_heads cd_heads ct_heads), sl_heads⟩)
    (c_heads : W.codeIn K cd_heads "heads" = true)
    (k_heads : W.keepIn K (.ref a_heads) = true)
    (p_tails : W.nsIn K mainGlobals "tails" = some (some (.ref a_tails)))
    (l_tails : K.lookup a_tails = some ⟨oc_tails, od_tails, .func (W.fnOf "tails" "tails" (defArgs s_tails) (defBody s_tails) (defScope s_tails) .none kV_tails dc_tails pm_tails an_tails cd_tails ct_tails), sl_tails⟩)
    (c_tails : W.codeIn K cd_tails "tails" = true)
    (k_tails : W.keepIn K (.ref a_tails) = true)
    (p_span : W.nsIn K mainGlobals "span" = some (some (.ref a_span)))
    (l_span : K.lookup a_span = some ⟨oc_span, od_span, .func (W.fnOf "span" "span" (defArgs s_span) (defBody s_span) (defScope s_span) .none kV_span dc_span pm_span an_span cd_span ct_span), sl_span⟩)
    (c_span : W.codeIn K cd_span "span" = true)
    (k_span : W.keepIn K (.ref a_span) = true)
    (p_moved : W.nsIn K mainGlobals "moved" = some (some (.ref a_moved)))
    (l_moved : K.lookup a_moved = some ⟨oc_moved, od_moved, .func (W.fnOf "moved" "moved" (defArgs s_moved) (defBody s_moved) (defScope s_moved) .none kV_moved dc_moved pm_moved an_moved cd_moved ct_moved), sl_moved⟩)
    (c_moved : W.codeIn K cd_moved "moved" = true)
    (k_moved : W.keepIn K (.ref a_moved) = true)
    (p_in_series : W.nsIn K mainGlobals "in_series" = some (some (.ref a_in_series)))
    (l_in_series : K.lookup a_in_series = some ⟨oc_in_series, od_in_series, .func (W.fnOf "in_series" "in_series" (defArgs s_in_series) (defBody s_in_series) (defScope s_in_series) .none kV_in_series dc_in_series pm_in_series an_in_series cd_in_series ct_in_series), sl_in_series⟩)
    (c_in_series : W.codeIn K cd_in_series "in_series" = true)
    (k_in_series : W.keepIn K (.ref a_in_series) = true)
    (p_in_parallel : W.nsIn K mainGlobals "in_parallel" = some (some (.ref a_in_parallel)))
    (l_in_parallel : K.lookup a_in_parallel = some ⟨oc_in_parallel, od_in_parallel, .func (W.fnOf "in_parallel" "in_parallel" (defArgs s_in_parallel) (defBody s_in_parallel) (defScope s_in_parallel) .none kV_in_parallel dc_in_parallel pm_in_parallel an_in_parallel cd_in_parallel ct_in_parallel), sl_in_parallel⟩)
    (c_in_parallel : W.codeIn K cd_in_parallel "in_parallel" = true)
    (k_in_parallel : W.keepIn K (.ref a_in_parallel) = true)
    (p__law_draws : W.nsIn K mainGlobals "_law_draws" = some (some (.ref a__law_draws)))
    (l__law_draws : K.lookup a__law_draws = some ⟨oc__law_draws, od__law_draws, .func (W.fnOf "_law_draws" "_law_draws" (defArgs s__law_draws) (defBody s__law_draws) (defScope s__law_draws) .none kV__law_draws dc__law_draws pm__law_draws an__law_draws cd__law_draws ct__law_draws), sl__law_draws⟩)
    (c__law_draws : W.codeIn K cd__law_draws "_law_draws" = true)
    (k__law_draws : W.keepIn K (.ref a__law_draws) = true)
    (p__law_equal : W.nsIn K mainGlobals "_law_equal" = some (some (.ref a__law_equal)))
    (l__law_equal : K.lookup a__law_equal = some ⟨oc__law_equal, od__law_equal, .func (W.fnOf "_law_equal" "_law_equal" (defArgs s__law_equal) (defBody s__law_equal) (defScope s__law_equal) .none kV__law_equal dc__law_equal pm__law_equal an__law_equal cd__law_equal ct__law_equal), sl__law_equal⟩)
    (c__law_equal : W.codeIn K cd__law_equal "_law_equal" = true)
    (k__law_equal : W.keepIn K (.ref a__law_equal) = true)
    (p__law_graph : W.nsIn K mainGlobals "_law_graph" = some (some (.ref a__law_graph)))
    (l__law_graph : K.lookup a__law_graph = some ⟨oc__law_graph, od__law_graph, .func (W.fnOf "_law_graph" "_law_graph" (defArgs s__law_graph) (defBody s__law_graph) (defScope s__law_graph) .none kV__law_graph dc__law_graph pm__law_graph an__law_graph cd__law_graph ct__law_graph), sl__law_graph⟩)
    (c__law_graph : W.codeIn K cd__law_graph "_law_graph" = true)
    (k__law_graph : W.keepIn K (.ref a__law_graph) = true)
    (p__law_heads : W.nsIn K mainGlobals "_law_heads" = some (some (.ref a__law_heads)))
    (l__law_heads : K.lookup a__law_heads = some ⟨oc__law_heads, od__law_heads, .func (W.fnOf "_law_heads" "_law_heads" (defArgs s__law_heads) (defBody s__law_heads) (defScope s__law_heads) .none kV__law_heads dc__law_heads pm__law_heads an__law_heads cd__law_heads ct__law_heads), sl__law_heads⟩)
    (c__law_heads : W.codeIn K cd__law_heads "_law_heads" = true)
    (k__law_heads : W.keepIn K (.ref a__law_heads) = true)
    (p__law_span : W.nsIn K mainGlobals "_law_span" = some (some (.ref a__law_span)))
    (l__law_span : K.lookup a__law_span = some ⟨oc__law_span, od__law_span, .func (W.fnOf "_law_span" "_law_span" (defArgs s__law_span) (defBody s__law_span) (defScope s__law_span) .none kV__law_span dc__law_span pm__law_span an__law_span cd__law_span ct__law_span), sl__law_span⟩)
    (c__law_span : W.codeIn K cd__law_span "_law_span" = true)
    (k__law_span : W.keepIn K (.ref a__law_span) = true)
    (p__law_no_graph : W.nsIn K mainGlobals "_law_no_graph" = some (some (.ref a__law_no_graph)))
    (l__law_no_graph : K.lookup a__law_no_graph = some ⟨oc__law_no_graph, od__law_no_graph, .func (W.fnOf "_law_no_graph" "_law_no_graph" (defArgs s__law_no_graph) (defBody s__law_no_graph) (defScope s__law_no_graph) .none kV__law_no_graph dc__law_no_graph pm__law_no_graph an__law_no_graph cd__law_no_graph ct__law_no_graph), sl__law_no_graph⟩)
    (c__law_no_graph : W.codeIn K cd__law_no_graph "_law_no_graph" = true)
    (k__law_no_graph : W.keepIn K (.ref a__law_no_graph) = true)
    (p__law_joined : W.nsIn K mainGlobals "_law_joined" = some (some (.ref a__law_joined)))
    (l__law_joined : K.lookup a__law_joined = some ⟨oc__law_joined, od__law_joined, .func (W.fnOf "_law_joined" "_law_joined" (defArgs s__law_joined) (defBody s__law_joined) (defScope s__law_joined) .none kV__law_joined dc__law_joined pm__law_joined an__law_joined cd__law_joined ct__law_joined), sl__law_joined⟩)
    (c__law_joined : W.codeIn K cd__law_joined "_law_joined" = true)
    (k__law_joined : W.keepIn K (.ref a__law_joined) = true)
    (p__law_told : W.nsIn K mainGlobals "_law_told" = some (some (.ref a__law_told)))
    (l__law_told : K.lookup a__law_told = some ⟨oc__law_told, od__law_told, .func (W.fnOf "_law_told" "_law_told" (defArgs s__law_told) (defBody s__law_told) (defScope s__law_told) .none kV__law_told dc__law_told pm__law_told an__law_told cd__law_told ct__law_told), sl__law_told⟩)
    (c__law_told : W.codeIn K cd__law_told "_law_told" = true)
    (k__law_told : W.keepIn K (.ref a__law_told) = true)
    (p__law_is_right : W.nsIn K mainGlobals "_law_is_right" = some (some (.ref a__law_is_right)))
    (l__law_is_right : K.lookup a__law_is_right = some ⟨oc__law_is_right, od__law_is_right, .func (W.fnOf "_law_is_right" "_law_is_right" (defArgs s__law_is_right) (defBody s__law_is_right) (defScope s__law_is_right) .none kV__law_is_right dc__law_is_right pm__law_is_right an__law_is_right cd__law_is_right ct__law_is_right), sl__law_is_right⟩)
    (c__law_is_right : W.codeIn K cd__law_is_right "_law_is_right" = true)
    (k__law_is_right : W.keepIn K (.ref a__law_is_right) = true)
    (p_law : W.nsIn K mainGlobals "law" = some (some (.ref a_law)))
    (l_law : K.lookup a_law = some ⟨oc_law, od_law, .func (W.fnOf "law" "law" (defArgs s_law) (defBody s_law) (defScope s_law) .none kV_law dc_law pm_law an_law cd_law ct_law), sl_law⟩)
    (c_law : W.codeIn K cd_law "law" = true)
    (k_law : W.keepIn K (.ref a_law) = true)
    (z_all : W.nsIn K mainGlobals "all" = some none)
    (z_bool : W.nsIn K mainGlobals "bool" = some none)
    (z_enumerate : W.nsIn K mainGlobals "enumerate" = some none)
    (z_int : W.nsIn K mainGlobals "int" = some none)
    (z_isinstance : W.nsIn K mainGlobals "isinstance" = some none)
    (z_len : W.nsIn K mainGlobals "len" = some none)
    (z_list : W.nsIn K mainGlobals "list" = some none)
    (z_max : W.nsIn K mainGlobals "max" = some none)
    (z_range : W.nsIn K mainGlobals "range" = some none)
    (z_reversed : W.nsIn K mainGlobals "reversed" = some none)
    (z_set : W.nsIn K mainGlobals "set" = some none)
    (z_sorted : W.nsIn K mainGlobals "sorted" = some none)
    (z_str : W.nsIn K mainGlobals "str" = some none)
    (z_tuple : W.nsIn K mainGlobals "tuple" = some none)
    (pC_InvalidGraph : W.nsIn K mainGlobals "InvalidGraph" = some (some (.ref C_InvalidGraph)))
    (xC_InvalidGraph : K.lookup C_InvalidGraph = some (excClassObj nm_InvalidGraph q_InvalidGraph C_InvalidGraph N_InvalidGraph bs_InvalidGraph bm_InvalidGraph true sn_InvalidGraph su_InvalidGraph ab_InvalidGraph co_InvalidGraph dd_InvalidGraph m0_InvalidGraph m1_InvalidGraph m2_InvalidGraph m3_InvalidGraph m5_InvalidGraph "ValueError.__new__"))
    (vC_InvalidGraph : HandSPX.refsVE bm_InvalidGraph = true)
    (sa_InvalidGraph : W.findIn K (.ref C_InvalidGraph) "__setattr__" = some (some (.builtin "object.__setattr__")))
    (ga_InvalidGraph : W.findIn K (.ref C_InvalidGraph) "__getattribute__" = some (some (.builtin "BaseException.__getattribute__")))
    (gg_InvalidGraph : W.findIn K (.ref C_InvalidGraph) "__getattr__" = some none)
    (nf_InvalidGraph_value : W.findIn K (.ref C_InvalidGraph) "value" = some none)
    (iC_InvalidGraph : W.findIn K (.ref C_InvalidGraph) "__init__" = some (some (.ref I_InvalidGraph)))
    (tI_InvalidGraph : W.typeIn K (.ref I_InvalidGraph) = some (.type "function"))
    (lI_InvalidGraph : K.lookup I_InvalidGraph = some ⟨oc_InvalidGraph, od_InvalidGraph, .func (W.fnOf "__init__" "InvalidGraph.__init__" (defArgs s_InvalidGraph_init) (defBody s_InvalidGraph_init) (defScope s_InvalidGraph_init) .none kV_InvalidGraph dc_InvalidGraph pm_InvalidGraph an_InvalidGraph cd_InvalidGraph ct_InvalidGraph), sl_InvalidGraph⟩)
    (cI_InvalidGraph : W.codeIn K cd_InvalidGraph "InvalidGraph.__init__" = true)
    (kI_InvalidGraph : W.keepIn K (.ref I_InvalidGraph) = true)
    (kC_InvalidGraph : W.keepIn K (.ref C_InvalidGraph) = true)
    (eC_InvalidGraph : W.subIn K (.ref C_InvalidGraph) (.type "BaseException") = some true)
    (tC_InvalidGraph : W.typeIn K (.ref C_InvalidGraph) = some (.type "type"))
    (hC_InvalidGraph : W.hasDictIn K C_InvalidGraph = true)
    (jC_InvalidGraph : W.isClsIn K C_InvalidGraph = true)
    (sC_InvalidGraph : W.subIn K (.ref C_InvalidGraph) (.ref C_InvalidGraph) = some true) :
    ∃ fd : FuncData, (∀ (s : Shared) (u : Value), BindsTo s fd ⟨[u], []⟩ [("script", u)]) ∧ ∀ base : Heap, K.In base → base.Ns mainGlobals mg → FnOk l.prog w K mg base (L2N.CX l.prog w) 42 fa fd ["script"] (spLaw K) := by
  have e := hfa.symm.trans (W.mg_of X G p_law)
  cases e
  exact ⟨_, fun s v => .of_eq rfl, fun base _ _ => fn_law rfl (ok_law (mkTop X G p_is_integer l_is_integer c_is_integer k_is_integer p_is_row l_is_row c_is_row k_is_row p_is_graph l_is_graph c_is_graph k_is_graph p_check_graph l_check_graph c_check_graph k_check_graph p_work l_work c_work k_work p_heads l_heads c_heads k_heads p_tails l_tails c_tails k_tails p_span l_span c_span k_span p_moved l_moved c_moved k_moved p_in_series l_in_series c_in_series k_in_series p_in_parallel l_in_parallel c_in_parallel k_in_parallel p__law_draws l__law_draws c__law_draws k__law_draws p__law_equal l__law_equal c__law_equal k__law_equal p__law_graph l__law_graph c__law_graph k__law_graph p__law_heads l__law_heads c__law_heads k__law_heads p__law_span l__law_span c__law_span k__law_span p__law_no_graph l__law_no_graph c__law_no_graph k__law_no_graph p__law_joined l__law_joined c__law_joined k__law_joined p__law_told l__law_told c__law_told k__law_told p__law_is_right l__law_is_right c__law_is_right k__law_is_right p_law l_law c_law k_law z_all z_bool z_enumerate z_int z_isinstance z_len z_list z_max z_range z_reversed z_set z_sorted z_str z_tuple pC_InvalidGraph xC_InvalidGraph vC_InvalidGraph sa_InvalidGraph ga_InvalidGraph gg_InvalidGraph nf_InvalidGraph_value iC_InvalidGraph tI_InvalidGraph lI_InvalidGraph cI_InvalidGraph kI_InvalidGraph kC_InvalidGraph eC_InvalidGraph tC_InvalidGraph hC_InvalidGraph jC_InvalidGraph sC_InvalidGraph)) math⟩
end K17

namespace KG
open PySem PySem.Spec PyProof.Rows L2
/-! ### joined graphs and their spans, without the language -/
def mx (ns : List Int) : Int := ns.foldl (fun a b => if a < b then b else a) 0
theorem mx_ge0 (ns : List Int) : 0 ≤ mx ns := (fold_ge ns 0).1
theorem mx_ge {ns : List Int} {y : Int} (m : y ∈ ns) : y ≤ mx ns := (fold_ge ns 0).2.1 y m
theorem mx_mem (ns : List Int) : mx ns = 0 ∨ mx ns ∈ ns := (fold_ge ns 0).2.2
theorem mx_le {ns : List Int} {b : Int} (h0 : 0 ≤ b) (h : ∀ y ∈ ns, y ≤ b) : mx ns ≤ b := by
  rcases mx_mem ns with e | e
  · omega
  · exact h _ e
theorem maxI_mx {ns : List Int} (h : ∀ y ∈ ns, 0 ≤ y) : maxI 0 ns = mx ns := by
  cases ns with
  | nil => rfl
  | cons n r =>
    have h1 := maxI_mem (d := 0) (List.cons_ne_nil n r)
    have h2 := mx_ge h1
    have h3 := mx_le (ns := n :: r) (h _ h1) fun y m => maxI_ge m
    omega
theorem mx_app (a b : List Int) : mx (a ++ b) = if mx a < mx b then mx b else mx a := by
  have ha := mx_ge0 a
  have hb := mx_ge0 b
  have h1 : mx (a ++ b) ≤ if mx a < mx b then mx b else mx a := mx_le (by split <;> omega) fun y m => by
    rcases List.mem_append.mp m with m | m
    · have := mx_ge m; split <;> omega
    · have := mx_ge m; split <;> omega
  have h2 : mx a ≤ mx (a ++ b) := mx_le (mx_ge0 _) fun y m => mx_ge (List.mem_append_left _ m)
  have h3 : mx b ≤ mx (a ++ b) := mx_le (mx_ge0 _) fun y m => mx_ge (List.mem_append_right _ m)
  split at h1 <;> split <;> omega
theorem mx_add {ns : List Int} (hn : ns ≠ []) (h : ∀ y ∈ ns, 0 ≤ y) {s : Int} (hs : 0 ≤ s) : mx (ns.map (· + s)) = mx ns + s := by
  have h1 : mx (ns.map (· + s)) ≤ mx ns + s := mx_le (by have := mx_ge0 ns; omega) fun y m => by
    obtain ⟨x, mx', rfl⟩ := List.mem_map.mp m
    have := mx_ge mx'
    omega
  have h2 : mx ns ∈ ns := by
    rcases mx_mem ns with e | e
    · obtain ⟨x, m⟩ := List.exists_mem_of_ne_nil _ hn
      have := mx_ge m
      have := h x m
      have e2 : x = mx ns := by omega
      exact e2 ▸ m
    · exact e
  have h3 : mx ns + s ≤ mx (ns.map (· + s)) := mx_ge (List.mem_map.mpr ⟨_, h2, rfl⟩)
  omega
def atL (l : List Int) (k : Int) : Int := l.getD k.toNat 0
def hdGo : List Int → Gr → List Int
  | acc, [] => acc
  | acc, r :: g => hdGo (acc ++ [mx (r.map fun j => atL acc j + 1)]) g
def hd (g : Gr) : List Int := hdGo [] g
def sp (g : Gr) : Int := mx ((hd g).map (· + 1))
theorem hdGo_len : ∀ (g : Gr) (acc : List Int), (hdGo acc g).length = acc.length + g.length
  | [], acc => rfl
  | r :: g, acc => by rw [hdGo, hdGo_len g]; simp; omega
theorem hdGo_ge : ∀ (g : Gr) (acc : List Int), (∀ y ∈ acc, 0 ≤ y) → ∀ y ∈ hdGo acc g, 0 ≤ y
  | [], acc, h => h
  | r :: g, acc, h => hdGo_ge g _ fun y m => by
    rcases List.mem_append.mp m with m | m
    · exact h y m
    · rw [List.mem_singleton.mp m]; exact mx_ge0 _
theorem hd_ge (g : Gr) : ∀ y ∈ hd g, 0 ≤ y := hdGo_ge g [] fun y m => by cases m
theorem hdGo_app : ∀ (g h : Gr) (acc : List Int), hdGo acc (g ++ h) = hdGo (hdGo acc g) h
  | [], h, acc => rfl
  | r :: g, h, acc => by
    rw [List.cons_append, hdGo, hdGo, hdGo_app g h]
theorem hd_app (g h : Gr) : hd (g ++ h) = hdGo (hd g) h := hdGo_app g h []
theorem atL_left {a b : List Int} {k : Int} (h : k.toNat < a.length) : atL (a ++ b) k = atL a k := by
  unfold atL
  rw [List.getD_eq_getElem?_getD, List.getD_eq_getElem?_getD, List.getElem?_append_left h]
theorem atL_right {a b : List Int} {k : Int} (h : 0 ≤ k) : atL (a ++ b) (k + a.length) = atL b k := by
  unfold atL
  rw [List.getD_eq_getElem?_getD, List.getD_eq_getElem?_getD, List.getElem?_append_right (by omega)]
  congr 2
  omega
theorem atL_mem {a : List Int} {k : Int} (h : k.toNat < a.length) : atL a k ∈ a := by
  unfold atL
  rw [List.getD_eq_getElem?_getD, List.getElem?_eq_getElem h]
  exact List.getElem_mem h
theorem atL_ge {a : List Int} (h : ∀ y ∈ a, 0 ≤ y) (k : Int) : 0 ≤ atL a k := by
  by_cases c : k.toNat < a.length
  · exact h _ (atL_mem c)
  · unfold atL
    rw [List.getD_eq_getElem?_getD, List.getElem?_eq_none (by omega)]
    exact Int.le_refl _
theorem atL_map {a : List Int} {s k : Int} (h : k.toNat < a.length) : atL (a.map (· + s)) k = atL a k + s := by
  unfold atL
  rw [List.getD_eq_getElem?_getD, List.getD_eq_getElem?_getD, List.getElem?_map, List.getElem?_eq_getElem h]
  rfl
/-- rows from n on: what they hold lies below -/
def Low (n : Nat) (g : Gr) : Prop := ∀ (i : Nat) (r : List Int), g[i]? = some r → ∀ x ∈ r, 0 ≤ x ∧ x < n + i
theorem Low.tail {n : Nat} {r : List Int} {g : Gr} (L : Low n (r :: g)) : Low (n + 1) g := fun i q hq x m => by
  have := L (i + 1) q hq x m
  omega
theorem Low.head {n : Nat} {r : List Int} {g : Gr} (L : Low n (r :: g)) : ∀ x ∈ r, 0 ≤ x ∧ x < n := fun x m => by
  have := L 0 r rfl x m
  omega
theorem GOk.Low {g : Gr} (G : GOk g) : Low 0 g := fun i r h x m => by
  have := G.low i r h x m
  omega
theorem hdGo_left : ∀ (g : Gr) (acc : List Int) (k : Int), k.toNat < acc.length → atL (hdGo acc g) k = atL acc k
  | [], acc, k, _ => rfl
  | r :: g, acc, k, h => by
    rw [hdGo, hdGo_left g _ k (by simp; omega), atL_left h]
theorem hdGo_row : ∀ (g : Gr) (acc : List Int), Low acc.length g → ∀ (i : Nat) (r : List Int), g[i]? = some r → ∀ j ∈ r, atL (hdGo acc g) j + 1 ≤ atL (hdGo acc g) ((acc.length + i : Nat) : Int)
  | r :: g, acc, L, 0, q, h, j, m => by
    cases h
    have lj := L.head j m
    rw [hdGo, hdGo_left g _ j (by simp; omega), hdGo_left g _ _ (by simp), atL_left (by omega)]
    have e : atL (acc ++ [mx (r.map fun j => atL acc j + 1)]) ((acc.length + 0 : Nat) : Int) = mx (r.map fun j => atL acc j + 1) := by
      unfold atL
      rw [List.getD_eq_getElem?_getD, List.getElem?_append_right (by omega), show ((acc.length + 0 : Nat) : Int).toNat - acc.length = 0 by omega]
      rfl
    rw [e]
    exact mx_ge (List.mem_map.mpr ⟨j, m, rfl⟩)
  | r :: g, acc, L, i + 1, q, h, j, m => by
    have := hdGo_row g (acc ++ [mx (r.map fun j => atL acc j + 1)]) (by rw [List.length_append]; exact L.tail) i q h j m
    rw [hdGo]
    rw [show (acc.length + (i + 1) : Nat) = ((acc ++ [mx (r.map fun j => atL acc j + 1)]).length + i : Nat) by simp; omega]
    exact this
theorem hd_row {g : Gr} (G : GOk g) {i : Nat} {r : List Int} (h : g[i]? = some r) {j : Int} (m : j ∈ r) : atL (hd g) j + 1 ≤ atL (hd g) (i : Int) := by
  have := hdGo_row g [] G.Low i r h j m
  simpa [hd] using this
/-! ### ends -/
def inRow (g : Gr) (i : Int) : Bool := g.any fun r => decide (i ∈ r)
theorem inRow_iff {g : Gr} {i : Int} : inRow g i = true ↔ ∃ r ∈ g, i ∈ r := by
  unfold inRow
  rw [List.any_eq_true]
  exact ⟨fun ⟨r, m, h⟩ => ⟨r, m, of_decide_eq_true h⟩, fun ⟨r, m, h⟩ => ⟨r, m, decide_eq_true h⟩⟩
def ends (g : Gr) : List Int := (rngI g.length).filter fun i => !inRow g i
theorem mem_ends {g : Gr} {i : Int} : i ∈ ends g ↔ (0 ≤ i ∧ i < g.length) ∧ inRow g i = false := by
  unfold ends
  rw [List.mem_filter, mem_rng, Bool.not_eq_true']
theorem end_above {g : Gr} (G : GOk g) : ∀ (n : Nat) (i : Nat), i < g.length → g.length - i ≤ n → ∃ e ∈ ends g, atL (hd g) (i : Int) ≤ atL (hd g) e
  | 0, i, h, h2 => by omega
  | n + 1, i, h, h2 => by
    cases c : inRow g (i : Int) with
    | false => exact ⟨i, mem_ends.mpr ⟨⟨by omega, by omega⟩, c⟩, Int.le_refl _⟩
    | true =>
      obtain ⟨r, mr, mi⟩ := inRow_iff.mp c
      obtain ⟨k, hk⟩ := List.mem_iff_getElem?.mp mr
      have lk := G.low k r hk _ mi
      have kl : k < g.length := (List.getElem?_eq_some_iff.mp hk).1
      have hr := hd_row G hk mi
      obtain ⟨e, me, he⟩ := end_above G n k kl (by omega)
      exact ⟨e, me, by omega⟩
theorem ends_nil {g : Gr} (G : GOk g) (h : ends g = []) : g = [] := by
  cases e : g with
  | nil => rfl
  | cons r q =>
    obtain ⟨x, m, _⟩ := end_above G g.length 0 (by rw [e]; simp) (by omega)
    rw [h] at m
    cases m
theorem hd_len (g : Gr) : (hd g).length = g.length := by rw [hd, hdGo_len]; simp
theorem sp_ends {g : Gr} (G : GOk g) : mx ((ends g).map fun i => atL (hd g) i + 1) = sp g := by
  have h1 : mx ((ends g).map fun i => atL (hd g) i + 1) ≤ sp g := mx_le (mx_ge0 _) fun y m => by
    obtain ⟨i, mi, rfl⟩ := List.mem_map.mp m
    have hi := (mem_ends.mp mi).1
    exact mx_ge (List.mem_map.mpr ⟨_, atL_mem (by rw [hd_len]; omega), rfl⟩)
  have h2 : sp g ≤ mx ((ends g).map fun i => atL (hd g) i + 1) := mx_le (mx_ge0 _) fun y m => by
    obtain ⟨z, mz, rfl⟩ := List.mem_map.mp m
    obtain ⟨i, hi⟩ := List.mem_iff_getElem?.mp mz
    have li : i < g.length := by have := (List.getElem?_eq_some_iff.mp hi).1; rwa [hd_len] at this
    obtain ⟨e, me, he⟩ := end_above G g.length i li (by omega)
    have ez : atL (hd g) (i : Int) = z := by
      unfold atL
      rw [List.getD_eq_getElem?_getD, Int.toNat_natCast, hi]
      rfl
    have := mx_ge (List.mem_map.mpr ⟨e, me, rfl⟩ : atL (hd g) e + 1 ∈ (ends g).map fun i => atL (hd g) i + 1)
    omega
  omega
theorem ends_asc (g : Gr) : (ends g).Pairwise (· < ·) := (rng_asc _).filter _
/-! ### joined -/
def shift (n : Nat) (r : List Int) : List Int := r.map fun j => j + n
def ser (g h : Gr) : Gr := g ++ h.map fun r => if r = [] then ends g else shift g.length r
def par (g h : Gr) : Gr := g ++ h.map (shift g.length)
theorem shift_asc {n : Nat} {r : List Int} (h : r.Pairwise (· < ·)) : (shift n r).Pairwise (· < ·) := by
  unfold shift
  rw [List.pairwise_map]
  exact h.imp fun h => by omega
theorem mem_shift {n : Nat} {r : List Int} {x : Int} : x ∈ shift n r ↔ x - n ∈ r := by
  unfold shift
  rw [List.mem_map]
  constructor
  · rintro ⟨a, m, rfl⟩
    rw [show a + (n : Int) - n = a by omega]
    exact m
  · intro m
    exact ⟨_, m, by omega⟩
theorem shift_nil {n : Nat} {r : List Int} : shift n r = [] ↔ r = [] := by unfold shift; exact List.map_eq_nil_iff
theorem app_ok {g h k : Gr} (G : GOk g) (hl : g.length + h.length ≤ 62) (el : k.length = h.length) (a : ∀ r ∈ k, r.Pairwise (· < ·)) (l : ∀ (i : Nat) (r : List Int), k[i]? = some r → ∀ x ∈ r, 0 ≤ x ∧ x < g.length + i) : GOk (g ++ k) := by
  refine ⟨by rw [List.length_append]; omega, fun r m => ?_, fun i r h x m => ?_⟩
  · rcases List.mem_append.mp m with m | m
    · exact G.asc r m
    · exact a r m
  · by_cases c : i < g.length
    · rw [List.getElem?_append_left c] at h
      exact G.low i r h x m
    · rw [List.getElem?_append_right (by omega)] at h
      have := l _ r h x m
      omega
theorem par_ok {g h : Gr} (G : GOk g) (H : GOk h) (hl : g.length + h.length ≤ 62) : GOk (par g h) := by
  refine app_ok G hl (List.length_map ..) (fun r m => ?_) fun i r hr x m => ?_
  · obtain ⟨q, mq, rfl⟩ := List.mem_map.mp m
    exact shift_asc (H.asc q mq)
  · rw [List.getElem?_map] at hr
    cases e : h[i]? with
    | none => rw [e] at hr; cases hr
    | some q =>
      rw [e] at hr
      cases hr
      have := H.low i q e _ (mem_shift.mp m)
      omega
theorem ser_ok {g h : Gr} (G : GOk g) (H : GOk h) (hl : g.length + h.length ≤ 62) : GOk (ser g h) := by
  refine app_ok G hl (List.length_map ..) (fun r m => ?_) fun i r hr x m => ?_
  · obtain ⟨q, mq, rfl⟩ := List.mem_map.mp m
    try dsimp only
    split
    · exact ends_asc g
    · exact shift_asc (H.asc q mq)
  · rw [List.getElem?_map] at hr
    cases e : h[i]? with
    | none => rw [e] at hr; cases hr
    | some q =>
      rw [e] at hr
      cases hr
      dsimp only at m
      split at m
      · have := (mem_ends.mp m).1
        omega
      · have := H.low i q e _ (mem_shift.mp m)
        omega
theorem ser_len (g h : Gr) : (ser g h).length = g.length + h.length := by unfold ser; simp
theorem par_len (g h : Gr) : (par g h).length = g.length + h.length := by unfold par; simp
theorem hdGo_par : ∀ (h : Gr) (A B : List Int), Low B.length h → hdGo (A ++ B) (h.map (shift A.length)) = A ++ hdGo B h
  | [], A, B, _ => rfl
  | r :: h, A, B, L => by
    rw [List.map_cons, hdGo, hdGo]
    have e : mx ((shift A.length r).map fun j => atL (A ++ B) j + 1) = mx (r.map fun j => atL B j + 1) := by
      unfold shift
      rw [List.map_map]
      congr 1
      refine List.map_congr_left fun j m => ?_
      show atL (A ++ B) (j + A.length) + 1 = _
      rw [atL_right (L.head j m).1]
    rw [e, List.append_assoc]
    exact hdGo_par h A _ (by rw [List.length_append]; exact L.tail)
theorem hd_par {g h : Gr} (H : GOk h) : hd (par g h) = hd g ++ hd h := by
  unfold par
  rw [hd_app]
  have := hdGo_par h (hd g) [] H.Low
  rw [List.append_nil, hd_len] at this
  exact this
theorem sp_par {g h : Gr} (H : GOk h) : sp (par g h) = if sp g < sp h then sp h else sp g := by
  unfold sp
  rw [hd_par H, List.map_append, mx_app]
theorem hdGo_ser {E : List Int} {s : Int} (hs : 0 ≤ s) : ∀ (h : Gr) (A B : List Int), Low B.length h → (∀ x ∈ E, x.toNat < A.length) → (∀ y ∈ B, 0 ≤ y) → mx (E.map fun i => atL A i + 1) = s →
    hdGo (A ++ B.map (· + s)) (h.map fun r => if r = [] then E else shift A.length r) = A ++ (hdGo B h).map (· + s)
  | [], A, B, _, _, _, _ => rfl
  | r :: h, A, B, L, hE, hB, he => by
    rw [List.map_cons, hdGo, hdGo]
    have e : mx ((if r = [] then E else shift A.length r).map fun j => atL (A ++ B.map (· + s)) j + 1) = mx (r.map fun j => atL B j + 1) + s := by
      by_cases c : r = []
      · subst c
        rw [if_pos rfl]
        have q : (E.map fun j => atL (A ++ B.map (· + s)) j + 1) = E.map fun j => atL A j + 1 := List.map_congr_left fun j m => by rw [atL_left (hE j m)]
        rw [q, he]
        show s = mx [] + s
        have : mx [] = 0 := rfl
        omega
      · rw [if_neg c]
        have q : ((shift A.length r).map fun j => atL (A ++ B.map (· + s)) j + 1) = (r.map fun j => atL B j + 1).map (· + s) := by
          unfold shift
          rw [List.map_map, List.map_map]
          refine List.map_congr_left fun j m => ?_
          show atL (A ++ B.map (· + s)) (j + A.length) + 1 = atL B j + 1 + s
          have lj := L.head j m
          rw [atL_right lj.1, atL_map (by omega)]
          omega
        rw [q, mx_add (by simpa using c) (fun y m => by
          obtain ⟨j, _, rfl⟩ := List.mem_map.mp m
          have := atL_ge hB j
          omega) hs]
    rw [e, List.append_assoc, show (B.map (· + s) ++ [mx (r.map fun j => atL B j + 1) + s]) = (B ++ [mx (r.map fun j => atL B j + 1)]).map (· + s) by simp]
    refine hdGo_ser hs h A _ (by rw [List.length_append]; exact L.tail) hE (fun y m => ?_) he
    rcases List.mem_append.mp m with m | m
    · exact hB y m
    · rw [List.mem_singleton.mp m]; exact mx_ge0 _
theorem hd_ser {g h : Gr} (G : GOk g) (H : GOk h) : hd (ser g h) = hd g ++ (hd h).map (· + sp g) := by
  unfold ser
  rw [hd_app]
  have := hdGo_ser (E := ends g) (s := sp g) (mx_ge0 _) h (hd g) [] H.Low (fun x m => by have := (mem_ends.mp m).1; rw [hd_len]; omega) (fun y m => by cases m) (sp_ends G)
  rw [List.map_nil, List.append_nil, hd_len] at this
  exact this
theorem sp_ser {g h : Gr} (G : GOk g) (H : GOk h) : sp (ser g h) = sp g + sp h := by
  have e : sp (ser g h) = if sp g < mx (((hd h).map (· + sp g)).map (· + 1)) then mx (((hd h).map (· + sp g)).map (· + 1)) else sp g := by
    unfold sp
    rw [hd_ser G H, List.map_append, mx_app]
    rfl
  have hg : 0 ≤ sp g := mx_ge0 _
  rw [e]
  cases c : hd h with
  | nil =>
    have : sp h = 0 := by unfold sp; rw [c]; rfl
    have z : mx ((([] : List Int).map (· + sp g)).map (· + 1)) = 0 := rfl
    rw [z, this]
    split <;> omega
  | cons x l =>
    have q : ((x :: l).map (· + sp g)).map (· + 1) = ((x :: l).map (· + 1)).map (· + sp g) := by
      rw [List.map_map, List.map_map]
      refine List.map_congr_left fun j m => ?_
      show j + sp g + 1 = j + 1 + sp g
      omega
    have hh := hd_ge h
    rw [c] at hh
    rw [q, mx_add (by simp) (fun y m => by
      obtain ⟨j, mj, rfl⟩ := List.mem_map.mp m
      have := hh j mj
      omega) hg]
    have eh : sp h = mx ((x :: l).map (· + 1)) := by unfold sp; rw [c]
    rw [← eh]
    have : 0 ≤ sp h := mx_ge0 _
    split <;> omega
theorem rng_add (a b : Nat) : rngI (a + b) = rngI a ++ (rngI b).map fun i => i + (a : Int) := by
  unfold rngI
  rw [List.range_add, List.map_append, List.map_map, List.map_map]
  congr 1
  refine List.map_congr_left fun k _ => ?_
  show ((a + k : Nat) : Int) = (k : Int) + a
  omega
theorem ends_ser {g h : Gr} (G : GOk g) (H : GOk h) (hn : h ≠ []) : ends (ser g h) = shift g.length (ends h) := by
  unfold ends
  rw [ser_len, rng_add, List.filter_append]
  have e1 : (rngI g.length).filter (fun i => !inRow (ser g h) i) = [] := by
    rw [List.filter_eq_nil_iff]
    intro i m c
    rw [mem_rng] at m
    rw [Bool.not_eq_true'] at c
    have c' : ¬ inRow (ser g h) i = true := by rw [c]; exact Bool.false_ne_true
    cases q : inRow g i with
    | true =>
      obtain ⟨r, mr, mi⟩ := inRow_iff.mp q
      exact c' (inRow_iff.mpr ⟨r, List.mem_append_left _ mr, mi⟩)
    | false =>
      have me : i ∈ ends g := mem_ends.mpr ⟨m, q⟩
      match h, hn, H with
      | r :: h, _, H =>
        have hr : r = [] := by
          cases r with
          | nil => rfl
          | cons x r =>
            have := H.low 0 _ rfl x List.mem_cons_self
            omega
        refine c' (inRow_iff.mpr ⟨ends g, List.mem_append_right _ ?_, me⟩)
        rw [List.map_cons, if_pos hr]
        exact List.mem_cons_self
  rw [e1, List.nil_append, List.filter_map]
  unfold shift
  congr 1
  refine List.filter_congr fun i m => ?_
  rw [mem_rng] at m
  show (!inRow (ser g h) (i + g.length)) = !inRow h i
  congr 1
  rw [Bool.eq_iff_iff, inRow_iff, inRow_iff]
  constructor
  · rintro ⟨r, mr, mi⟩
    rcases List.mem_append.mp mr with mr | mr
    · obtain ⟨k, hk⟩ := List.mem_iff_getElem?.mp mr
      have := G.low k r hk _ mi
      have := (List.getElem?_eq_some_iff.mp hk).1
      omega
    · obtain ⟨q, mq, rfl⟩ := List.mem_map.mp mr
      try dsimp only at mi
      split at mi
      · have := (mem_ends.mp mi).1
        omega
      · rw [mem_shift] at mi
        rw [show i + (g.length : Int) - g.length = i by omega] at mi
        exact ⟨q, mq, mi⟩
  · rintro ⟨q, mq, mi⟩
    refine ⟨shift g.length q, List.mem_append_right _ (List.mem_map.mpr ⟨q, mq, if_neg (List.ne_nil_of_mem mi)⟩), ?_⟩
    rw [mem_shift, show i + (g.length : Int) - g.length = i by omega]
    exact mi
theorem ser_nil (g : Gr) : ser g [] = g := by unfold ser; simp
theorem shift_shift (a b : Nat) (r : List Int) : shift a (shift b r) = shift (a + b) r := by
  unfold shift
  rw [List.map_map]
  refine List.map_congr_left fun j _ => ?_
  show j + (b : Int) + a = j + ((a + b : Nat) : Int)
  omega
theorem ser_assoc {g h f : Gr} (G : GOk g) (H : GOk h) : ser (ser g h) f = ser g (ser h f) := by
  have e1 : ser (ser g h) f = g ++ (h.map (fun r => if r = [] then ends g else shift g.length r) ++ f.map fun r => if r = [] then ends (ser g h) else shift (ser g h).length r) := by
    rw [← List.append_assoc]
    rfl
  have e2 : ser g (ser h f) = g ++ (h.map (fun r => if r = [] then ends g else shift g.length r) ++ (f.map fun r => if r = [] then ends h else shift h.length r).map fun r => if r = [] then ends g else shift g.length r) := by
    show g ++ (h ++ _).map _ = _
    rw [List.map_append]
  rw [e1, e2]
  congr 2
  rw [List.map_map]
  refine List.map_congr_left fun r _ => ?_
  show (if r = [] then ends (ser g h) else shift (ser g h).length r) = if (if r = [] then ends h else shift h.length r) = [] then ends g else shift g.length (if r = [] then ends h else shift h.length r)
  by_cases c : r = []
  · rw [if_pos c, if_pos c]
    by_cases q : h = []
    · subst q
      rw [ser_nil]
      rfl
    · rw [ends_ser G H q, if_neg fun z => q (ends_nil H z)]
  · rw [if_neg c, if_neg c, if_neg (fun z => c (shift_nil.mp z)), shift_shift, ser_len]
end KG

namespace L2
open PySem PySem.Spec PyProof.Rows
theorem maxDf_ok {en : En} {me md : M SV} {a : SV} {d : Int} {ns : List Int} {e1 e2 : En} (h1 : mfrz me en = .ok a e1) (h2 : mfrz md e1 = .ok (.d (.int d)) e2) (ha : look e2 a = some (.list (ns.map .int))) : mMaxDf me md en = .ok (.d (.int (maxI d ns))) e2 := by
  unfold mMaxDf
  rw [s_bind, h1]
  dsimp only
  rw [s_bind, h2]
  dsimp only
  rw [ha, s_look_d]
  dsimp only
  rw [intsOf_map]
theorem keep_d {en : En} {m : M SV} {e : En} {d : D} (h : m en = .ok (.d d) e) : mkeep m en = .ok (.d d) e := by rw [s_keep, h]
theorem lput_ok {en : En} {i : Nat} {mk mv : M SV} {z : D} {sk : SV} {k : Int} {j : Nat} {ds : List D} {e1 e2 : En} (h1 : mkeep mv en = .ok (.d z) e1) (h2 : mfrz mk e1 = .ok sk e2) (hk : look e2 sk = some (.int k)) (h3 : ∃ ds0, e1[i]? = some (some (.own (.lst ds0)))) (h4 : e2[i]? = some (some (.own (.lst ds)))) (hj : ixN ds.length k = some j) :
    mLPut i mk mv en = .ok .nx (e2.set i (some (.own (.lst (ds.set j z))))) := by
  obtain ⟨ds0, h3⟩ := h3
  unfold mLPut
  rw [s_bind, h1]
  dsimp only
  rw [h3]
  dsimp only
  rw [s_bind, h2]
  dsimp only
  rw [hk, h4]
  dsimp only
  rw [hj]
theorem forRev_run {en : En} {tg : Tg} {me : M SV} {body : M Ct} {e : En} {sv : SV} {j : Int} (h : mfrz me en = .ok sv e) (hx : look e sv = some (.int j)) (h0 : 0 ≤ j) (h1 : j ≤ 1000000) : mForRev tg me body en = forGo tg none body (revD j.toNat) e := by
  unfold mForRev
  rw [s_bind, h]
  dsimp only
  rw [hx]
  dsimp only
  rw [if_pos ⟨by omega, by omega⟩]
end L2
namespace K17
open PySem PySem.Spec PyProof.Rows L2 KG
theorem e_check : F_check_graph = KG.F_check_graph := rfl
theorem e_isg : F_is_graph = KG.F_is_graph := rfl
theorem at_ints {acc : List Int} {k : Int} (h0 : 0 ≤ k) (h1 : k < acc.length) : atI (acc.map PyData.int) k = some (.int (atL acc k)) := by
  refine atI_at h0 ?_
  have h : k.toNat < acc.length := by omega
  rw [List.getElem?_map, List.getElem?_eq_getElem h]
  unfold atL
  rw [List.getD_eq_getElem?_getD, List.getElem?_eq_getElem h]
  rfl
theorem few_row {r : List Int} {n : Nat} (hn : n ≤ 62) (asc : r.Pairwise (· < ·)) (low : ∀ x ∈ r, 0 ≤ x ∧ x < n) : r.length ≤ 62 := by
  have := asc_len asc low
  omega
/-- check_graph(g), as a step -/
theorem chk_step {g : Gr} (G : GOk g) {i : Nat} {en : En} (h : en[i]? = some (some (.d (gD g)))) : mExpr (mCall F_check_graph (mCons (mVar i) (mNil))) en = .ok .nx en := by
  have h1 : mfrz (mVar i) en = .ok (.d (gD g)) en := by simp only [s_frz, s_var, h]
  rw [s_expr, call_d (cons_ok h1 s_nil rfl) rfl (by rw [e_check]; exact check_ok G) rfl]
theorem work_ok {g : Gr} (G : GOk g) : F_work [gD g] = .ok (.d (.int g.length)) [] := by
  refine run_ok rfl (e := [some (.d (gD g))]) ?_
  unfold m_work
  rw [seq_ok (chk_step G rfl)]
  have h1 : mfrz (mVar 0) [some (.d (gD g))] = .ok (.d (gD g)) [some (.d (gD g))] := rfl
  show mRet _ [some (.d (gD g))] = _
  rw [s_ret, callD_ok (cons_ok h1 s_nil rfl) rfl, s_d1]
  show (match dLen (.tuple (g.map rowD)) [some (.d (gD g))] with
    | .ok x e => Rs.ok (Ct.rt x) e
    | .exc x e => .exc x e
    | .stuck => .stuck) = _
  rw [s_len_t, List.length_map]
  rfl
/-! ### heads and span -/
noncomputable abbrev hBody : M Ct := mAppend 1 (mMaxDf (mLc (.nm 3) [3] (mVar 2) (mYes) (mOp2 dAdd (mOp2 dIx (mVar 1) (mVar 3)) (mC (.int 1)))) (mC (.int 0)))
abbrev enHd (g : Gr) (acc : List Int) (s2 : Option SV) : En := [some (.d (gD g)), some (.own (.lst (acc.map .int))), s2, none]
theorem hStep (g : Gr) (acc : List Int) (hge : ∀ y ∈ acc, 0 ≤ y) (hl : acc.length ≤ 62) {r : List Int} (asc : r.Pairwise (· < ·)) (low : ∀ x ∈ r, 0 ≤ x ∧ x < acc.length) :
    hBody (enHd g acc (some (.d (rowD r)))) = .ok .nx (enHd g (acc ++ [mx (r.map fun j => atL acc j + 1)]) (some (.d (rowD r)))) := by
  have hz := sizeLine_ge
  have hr := few_row hl asc low
  have hc : mComp (.nm 3) [3] mYes (mOp2 dAdd (mOp2 dIx (mVar 1) (mVar 3)) (mC (.int 1))) (r.map .int) (enHd g acc (some (.d (rowD r)))) = .ok (.own (.lst ((r.map fun j => atL acc j + 1).map .int))) (enHd g acc (some (.d (rowD r)))) := by
    rw [comp_emb (f := PyData.int) (p := fun _ => true) (g := fun j => .int (atL acc j + 1)) r rfl (fun j m => ?_) (by omega)]
    · rw [List.filter_eq_self.mpr fun _ _ => rfl, List.map_map]
      rfl
    · have lj := low j m
      refine ⟨[some (.d (gD g)), some (.own (.lst (acc.map .int))), some (.d (rowD r)), some (.d (.int j))], rfl, rfl, fun _ => ?_⟩
      simp only [s_keep, s_op2, s_frz, s_var, List.getElem?_cons_zero, List.getElem?_cons_succ, s_look_bor, s_look_d, s_dIx, s_ix_l, at_ints lj.1 lj.2, s_c, s_dAdd_i, s_pure]
  have h1 : mfrz (mLc (.nm 3) [3] (mVar 2) (mYes) (mOp2 dAdd (mOp2 dIx (mVar 1) (mVar 3)) (mC (.int 1)))) (enHd g acc (some (.d (rowD r)))) = .ok (.d (.list ((r.map fun j => atL acc j + 1).map .int))) (enHd g acc (some (.d (rowD r)))) := by
    refine frz_own ?_
    rw [s_lc, show mfrz (mVar 2) (enHd g acc (some (.d (rowD r)))) = .ok (.d (.tuple (r.map .int))) (enHd g acc (some (.d (rowD r)))) from rfl]
    exact hc
  have h2 := maxDf_ok (en := enHd g acc (some (.d (rowD r)))) (md := mC (.int 0)) (d := 0) h1 rfl rfl
  rw [maxI_mx (fun y m => by
    obtain ⟨j, _, rfl⟩ := List.mem_map.mp m
    have := atL_ge hge j
    omega)] at h2
  have h3 := append_ok (i := 1) (en := enHd g acc (some (.d (rowD r)))) (ds0 := acc.map .int) (ds := acc.map .int) rfl (keep_d h2) rfl (by rw [List.length_map]; omega)
  show mAppend 1 _ _ = _
  rw [h3]
  dsimp only [enHd]
  rw [List.map_append]
  rfl
theorem hLoop (g : Gr) : ∀ (q : Gr) (acc : List Int) (s2 : Option SV), (∀ y ∈ acc, 0 ≤ y) → acc.length + q.length ≤ 62 → (∀ r ∈ q, r.Pairwise (· < ·)) → Low acc.length q →
    ∃ s2', forGo (.nm 2) none hBody (q.map rowD) (enHd g acc s2) = .ok .nx (enHd g (hdGo acc q) s2')
  | [], acc, s2, _, _, _, _ => ⟨s2, for_nil rfl⟩
  | r :: q, acc, s2, hge, hl, ha, L => by
    have hs := hStep g acc hge (by omega) (ha r List.mem_cons_self) L.head
    obtain ⟨s2', h⟩ := hLoop g q (acc ++ [mx (r.map fun j => atL acc j + 1)]) (some (.d (rowD r))) (fun y m => by
      rcases List.mem_append.mp m with m | m
      · exact hge y m
      · rw [List.mem_singleton.mp m]; exact mx_ge0 _) (by simp only [List.length_append, List.length_cons, List.length_nil] at hl ⊢; omega) (fun x m => ha x (List.mem_cons_of_mem _ m)) (by rw [List.length_append]; exact L.tail)
    refine ⟨s2', ?_⟩
    rw [List.map_cons, for_step rfl (e1 := enHd g acc (some (.d (rowD r)))) rfl hs, h]
    rfl
theorem heads_ok {g : Gr} (G : GOk g) : F_heads [gD g] = .ok (.d (.tuple ((hd g).map .int))) [] := by
  obtain ⟨s2, h⟩ := hLoop g g [] none (fun y m => by cases m) (by have := G.few; simpa using this) G.asc G.Low
  refine run_ok rfl (e := enHd g (hd g) s2) ?_
  have h0 : mSet 1 (mLst (mNil)) [some (.d (gD g)), none, none, none] = .ok .nx (enHd g [] none) := by
    simp only [s_set, s_lst, s_nil, s_looks_nil, List.length_nil, List.all_nil, Nat.zero_le, and_self, if_true]
    rfl
  have h1 : mFor (.nm 2) [] (mVar 0) hBody (enHd g [] none) = .ok .nx (enHd g (hd g) s2) := by
    rw [s_for, show mfrz (mVar 0) (enHd g [] none) = .ok (.d (.tuple (g.map rowD))) (enHd g [] none) from rfl]
    exact h
  unfold m_heads
  show mSeq _ _ [some (.d (gD g)), none, none, none] = _
  rw [seq_ok (chk_step G rfl), seq_ok h0, seq_ok h1]
  rfl
theorem span_ok {g : Gr} (G : GOk g) : F_span [gD g] = .ok (.d (.int (sp g))) [] := by
  have hz := sizeLine_ge
  have hg := G.few
  refine run_ok rfl (e := [some (.d (gD g)), none]) ?_
  have h0 : mfrz (mCall F_heads (mCons (mVar 0) (mNil))) [some (.d (gD g)), none] = .ok (.d (.tuple ((hd g).map .int))) [some (.d (gD g)), none] :=
    frz_d (call_d (cons_ok (a := .d (gD g)) rfl s_nil rfl) rfl (heads_ok G) (flats_ints _))
  have hc : mComp (.nm 1) [1] mYes (mOp2 dAdd (mVar 1) (mC (.int 1))) ((hd g).map .int) [some (.d (gD g)), none] = .ok (.own (.lst (((hd g).map (· + 1)).map .int))) [some (.d (gD g)), none] := by
    rw [comp_emb (f := PyData.int) (p := fun _ => true) (g := fun j => .int (j + 1)) (hd g) rfl (fun j m => ?_) (by rw [hd_len]; omega)]
    · rw [List.filter_eq_self.mpr fun _ _ => rfl, List.map_map]
      rfl
    · exact ⟨[some (.d (gD g)), some (.d (.int j))], rfl, rfl, fun _ => rfl⟩
  have h1 : mfrz (mLc (.nm 1) [1] (mCall F_heads (mCons (mVar 0) (mNil))) (mYes) (mOp2 dAdd (mVar 1) (mC (.int 1)))) [some (.d (gD g)), none] = .ok (.d (.list (((hd g).map (· + 1)).map .int))) [some (.d (gD g)), none] := by
    refine frz_own ?_
    rw [s_lc, h0]
    exact hc
  have h2 := maxDf_ok (en := [some (.d (gD g)), none]) (md := mC (.int 0)) (d := 0) h1 rfl rfl
  rw [maxI_mx (fun y m => by
    obtain ⟨j, mj, rfl⟩ := List.mem_map.mp m
    have := hd_ge g j mj
    omega)] at h2
  unfold m_span
  show mRet _ [some (.d (gD g)), none] = _
  rw [s_ret, h2]
  rfl
/-! ### moved -/
theorem moved_ok {h : Gr} (H : GOk h) (n : Nat) : F_moved [gD h, .int n] = .ok (.d (gD (h.map (shift n)))) [] := by
  have hz := sizeLine_ge
  have hh := H.few
  refine run_ok rfl (e := [some (.d (gD h)), some (.d (.int n)), none, none]) ?_
  have hc : mComp (.nm 2) [2] mYes (mCallD (d1 dTuple) (mCons (mLc (.nm 3) [3] (mVar 2) (mYes) (mOp2 dAdd (mVar 3) (mVar 1))) (mNil))) (h.map rowD) [some (.d (gD h)), some (.d (.int n)), none, none] = .ok (.own (.lst ((h.map (shift n)).map rowD))) [some (.d (gD h)), some (.d (.int n)), none, none] := by
    rw [comp_emb (f := rowD) (p := fun _ => true) (g := fun r => rowD (shift n r)) h rfl (fun r m => ?_) (by omega)]
    · rw [List.filter_eq_self.mpr fun _ _ => rfl, List.map_map]
      rfl
    · obtain ⟨i, hi⟩ := List.mem_iff_getElem?.mp m
      have li : i < h.length := (List.getElem?_eq_some_iff.mp hi).1
      have hr := few_row (n := i) (by omega) (H.asc r m) (H.low i r hi)
      refine ⟨[some (.d (gD h)), some (.d (.int n)), some (.d (rowD r)), none], rfl, rfl, fun _ => ?_⟩
      have hc2 : mComp (.nm 3) [3] mYes (mOp2 dAdd (mVar 3) (mVar 1)) (r.map .int) [some (.d (gD h)), some (.d (.int n)), some (.d (rowD r)), none] = .ok (.own (.lst ((shift n r).map .int))) [some (.d (gD h)), some (.d (.int n)), some (.d (rowD r)), none] := by
        rw [comp_emb (f := PyData.int) (p := fun _ => true) (g := fun j => .int (j + n)) r rfl (fun j m => ?_) (by omega)]
        · rw [List.filter_eq_self.mpr fun _ _ => rfl]
          unfold shift
          rw [List.map_map]
          rfl
        · exact ⟨[some (.d (gD h)), some (.d (.int n)), some (.d (rowD r)), some (.d (.int j))], rfl, rfl, fun _ => rfl⟩
      have h1 : mfrz (mLc (.nm 3) [3] (mVar 2) (mYes) (mOp2 dAdd (mVar 3) (mVar 1))) [some (.d (gD h)), some (.d (.int n)), some (.d (rowD r)), none] = .ok (.d (.list ((shift n r).map .int))) [some (.d (gD h)), some (.d (.int n)), some (.d (rowD r)), none] := by
        refine frz_own ?_
        rw [s_lc, show mfrz (mVar 2) [some (.d (gD h)), some (.d (.int n)), some (.d (rowD r)), none] = .ok (.d (.tuple (r.map .int))) [some (.d (gD h)), some (.d (.int n)), some (.d (rowD r)), none] from rfl]
        exact hc2
      rw [s_keep, callD_ok (cons_ok h1 s_nil rfl) rfl]
      rfl
  have h1 : mfrz (mLc (.nm 2) [2] (mVar 0) (mYes) (mCallD (d1 dTuple) (mCons (mLc (.nm 3) [3] (mVar 2) (mYes) (mOp2 dAdd (mVar 3) (mVar 1))) (mNil)))) [some (.d (gD h)), some (.d (.int n)), none, none] = .ok (.d (.list ((h.map (shift n)).map rowD))) [some (.d (gD h)), some (.d (.int n)), none, none] := by
    refine frz_own ?_
    rw [s_lc, show mfrz (mVar 0) [some (.d (gD h)), some (.d (.int n)), none, none] = .ok (.d (.tuple (h.map rowD))) [some (.d (gD h)), some (.d (.int n)), none, none] from rfl]
    exact hc
  unfold m_moved
  show mRet _ [some (.d (gD h)), some (.d (.int n)), none, none] = _
  rw [s_ret, callD_ok (cons_ok h1 s_nil rfl) rfl]
  rfl
end K17

namespace K17
open PySem PySem.Spec PyProof.Rows L2 KG
theorem atL_set {l : List Int} {j : Nat} (hj : j < l.length) (z x : Int) (hx : 0 ≤ x) : atL (l.set j z) x = if x = j then z else atL l x := by
  unfold atL
  rw [List.getD_eq_getElem?_getD, List.getD_eq_getElem?_getD, List.getElem?_set]
  by_cases c : x = (j : Int)
  · rw [if_pos c, if_pos (by omega), if_pos hj]
    rfl
  · rw [if_neg c, if_neg (by omega)]
theorem set_ge {l : List Int} (h : ∀ y ∈ l, 0 ≤ y) {j : Nat} {z : Int} (hz : 0 ≤ z) : ∀ y ∈ l.set j z, 0 ≤ y := fun y m => by
  rcases List.mem_or_eq_of_mem_set m with m | rfl
  · exact h y m
  · exact hz
noncomputable abbrev tBody : M Ct := mLPut 1 (mVar 3) (mCallD dMax2 (mCons (mOp2 dIx (mVar 1) (mVar 3)) (mCons (mOp2 dAdd (mOp2 dIx (mVar 1) (mVar 2)) (mC (.int 1))) (mNil))))
abbrev enT (g : Gr) (cs : List Int) (s2 s3 : Option SV) : En := [some (.d (gD g)), some (.own (.lst (cs.map .int))), s2, s3, none]
theorem ixN_nat {n : Nat} {k : Int} (h0 : 0 ≤ k) (h1 : k < n) : ixN n k = some k.toNat := by
  unfold ixN
  simp only [h0, h1, and_self, if_true, if_neg (show ¬ k < 0 by omega)]
theorem tStep (g : Gr) (cs : List Int) {k x : Int} (k0 : 0 ≤ k) (k1 : k < cs.length) (x0 : 0 ≤ x) (x1 : x < cs.length) :
    tBody (enT g cs (some (.d (.int k))) (some (.d (.int x)))) = .ok .nx (enT g (cs.set x.toNat (if atL cs k + 1 > atL cs x then atL cs k + 1 else atL cs x)) (some (.d (.int k))) (some (.d (.int x)))) := by
  have hv : mkeep (mCallD dMax2 (mCons (mOp2 dIx (mVar 1) (mVar 3)) (mCons (mOp2 dAdd (mOp2 dIx (mVar 1) (mVar 2)) (mC (.int 1))) (mNil)))) (enT g cs (some (.d (.int k))) (some (.d (.int x)))) = .ok (.d (.int (if atL cs k + 1 > atL cs x then atL cs k + 1 else atL cs x))) (enT g cs (some (.d (.int k))) (some (.d (.int x)))) := by
    refine keep_d ?_
    simp only [s_callD, s_cons, s_op2, s_frz, s_var, List.getElem?_cons_zero, List.getElem?_cons_succ, s_look_bor, s_look_d, s_dIx, s_ix_l, at_ints k0 k1, at_ints x0 x1, s_c, s_dAdd_i, s_pure, s_nil, s_lent_d, if_true, s_looks_cons, s_looks_nil, s_max2]
  have h := lput_ok (i := 1) (mk := mVar 3) (sk := .d (.int x)) (k := x) (ds := cs.map .int) (e2 := enT g cs (some (.d (.int k))) (some (.d (.int x)))) hv rfl rfl ⟨_, rfl⟩ rfl (by rw [List.length_map]; exact ixN_nat x0 x1)
  show mLPut 1 _ _ _ = _
  rw [h, ← List.map_set]
  rfl
theorem tInner (g : Gr) {n : Nat} {k : Int} (k0 : 0 ≤ k) (k1 : k < n) : ∀ (r cs : List Int) (s3 : Option SV), (∀ x ∈ r, 0 ≤ x ∧ x < n) → cs.length = n → (∀ y ∈ cs, 0 ≤ y) →
    ∃ cs' s3', forGo (.nm 3) none tBody (r.map .int) (enT g cs (some (.d (.int k))) s3) = .ok .nx (enT g cs' (some (.d (.int k))) s3') ∧ cs'.length = n ∧ (∀ y ∈ cs', 0 ≤ y) ∧ ∀ x : Int, 0 ≤ x → x < (n : Int) → (atL cs' x = 0 ↔ atL cs x = 0 ∧ x ∉ r)
  | [], cs, s3, _, hl, hg => ⟨cs, s3, for_nil rfl, hl, hg, fun x _ _ => by simp⟩
  | a :: r, cs, s3, hr, hl, hg => by
    have ha := hr a List.mem_cons_self
    have hs := tStep g cs k0 (by rw [hl]; exact k1) ha.1 (by rw [hl]; exact ha.2)
    have hk := atL_ge hg k
    have hz : 0 < if atL cs k + 1 > atL cs a then atL cs k + 1 else atL cs a := by split <;> omega
    obtain ⟨cs', s3', h, h1, h2, h3⟩ := tInner g k0 k1 r (cs.set a.toNat (if atL cs k + 1 > atL cs a then atL cs k + 1 else atL cs a)) (some (.d (.int a))) (fun x m => hr x (List.mem_cons_of_mem _ m)) (by rw [List.length_set]; exact hl) (set_ge hg (by omega))
    refine ⟨cs', s3', ?_, h1, h2, fun x x0 x1 => ?_⟩
    · rw [List.map_cons, for_step rfl (e1 := enT g cs (some (.d (.int k))) (some (.d (.int a)))) rfl hs]
      exact h
    · rw [h3 x x0 x1, atL_set (by omega) _ _ x0, List.mem_cons, not_or]
      by_cases c : x = a
      · subst c
        rw [if_pos (by omega)]
        constructor
        · rintro ⟨z, _⟩; omega
        · rintro ⟨_, z, _⟩; exact absurd rfl z
      · rw [if_neg (by omega)]
        exact ⟨fun ⟨p, q⟩ => ⟨p, c, q⟩, fun ⟨p, _, q⟩ => ⟨p, q⟩⟩
noncomputable abbrev tOuter : M Ct := mFor (.nm 3) [] (mOp2 dIx (mVar 0) (mVar 2)) tBody
theorem rev_get {n i : Nat} {d : D} (h : (revD n)[i]? = some d) : i < n ∧ d = .int ((n : Int) - 1 - i) := by
  unfold revD at h
  rw [List.getElem?_map] at h
  by_cases c : i < n
  · rw [List.getElem?_range c] at h
    cases h
    exact ⟨c, rfl⟩
  · rw [List.getElem?_eq_none (by simp; omega)] at h
    cases h
theorem tails_ok {g : Gr} (G : GOk g) : ∃ cs : List Int, F_tails [gD g] = .ok (.d (.tuple (cs.map .int))) [] ∧ cs.length = g.length ∧ ∀ x, 0 ≤ x → x < (g.length : Int) → (atL cs x = 0 ↔ inRow g x = false) := by
  have hz := sizeLine_ge
  have hg := G.few
  have h0 : mSet 1 (mLc (.nm 4) [4] (mVar 0) (mYes) (mC (.int 0))) [some (.d (gD g)), none, none, none, none] = .ok .nx (enT g (g.map fun _ => 0) none none) := by
    have hc : mComp (.nm 4) [4] mYes (mC (.int 0)) (g.map rowD) [some (.d (gD g)), none, none, none, none] = .ok (.own (.lst ((g.map fun _ => (0 : Int)).map .int))) [some (.d (gD g)), none, none, none, none] := by
      rw [comp_emb (f := rowD) (p := fun _ => true) (g := fun _ => .int 0) g rfl (fun r m => ?_) (by omega)]
      · rw [List.filter_eq_self.mpr fun _ _ => rfl, List.map_map]
        rfl
      · exact ⟨[some (.d (gD g)), none, none, none, some (.d (rowD r))], rfl, rfl, fun _ => rfl⟩
    rw [set_own (e := [some (.d (gD g)), none, none, none, none]) (o := .lst ((g.map fun _ => (0 : Int)).map .int)) ?_]
    · rfl
    · rw [s_lc, show mfrz (mVar 0) [some (.d (gD g)), none, none, none, none] = .ok (.d (.tuple (g.map rowD))) [some (.d (gD g)), none, none, none, none] from rfl]
      exact hc
  obtain ⟨e', h1, cs, s2, s3, he, hl, hge, hzr⟩ := for_inv (tg := .nm 2) (body := tOuter) (ds := revD g.length) (e := enT g (g.map fun _ => 0) none none)
    (fun i e => ∃ cs s2 s3, e = enT g cs s2 s3 ∧ cs.length = g.length ∧ (∀ y ∈ cs, 0 ≤ y) ∧ ∀ x, 0 ≤ x → x < (g.length : Int) → (atL cs x = 0 ↔ ∀ (k : Nat) (r : List Int), g.length ≤ k + i → g[k]? = some r → x ∉ r)) (fun i d e hi ⟨cs, s2, s3, he, hl, hge, hzr⟩ => by
      obtain ⟨li, rfl⟩ := rev_get hi
      subst he
      obtain ⟨k, ek⟩ : ∃ k : Nat, g.length = k + 1 + i := ⟨g.length - 1 - i, by omega⟩
      have hk : k < g.length := by omega
      have e1 : (g.length : Int) - 1 - (i : Nat) = (k : Nat) := by omega
      rw [e1]
      have hgk : g[k]? = some g[k] := List.getElem?_eq_getElem hk
      have hx := ix_row g (k := (k : Int)) (by omega) (by omega)
      have hrow : rowOf g (k : Int) = g[k] := by
        unfold rowOf
        rw [List.getD_eq_getElem?_getD, Int.toNat_natCast, hgk]
        rfl
      rw [hrow] at hx
      obtain ⟨cs', s3', h, h1, h2, h3⟩ := tInner g (n := g.length) (k := (k : Int)) (by omega) (by omega) g[k] cs s3 (fun x m => by
        have := G.low k _ hgk x m
        omega) hl hge
      refine ⟨enT g cs (some (.d (.int k))) s3, enT g cs' (some (.d (.int k))) s3', rfl, .inl ?_, cs', _, s3', rfl, h1, h2, fun x x0 x1 => ?_⟩
      · have hm : mfrz (mOp2 dIx (mVar 0) (mVar 2)) (enT g cs (some (.d (.int k))) s3) = .ok (.d (.tuple (g[k].map .int))) (enT g cs (some (.d (.int k))) s3) := by
          refine frz_d ?_
          rw [op2_ok (x := gD g) (y := .int k) (a := .d (gD g)) (b := .d (.int k)) (e2 := enT g cs (some (.d (.int k))) s3) rfl rfl rfl rfl, s_dIx, hx]
          rfl
        show mFor _ _ _ _ _ = _
        rw [s_for, hm]
        exact h
      · rw [h3 x x0 x1, hzr x x0 x1]
        constructor
        · rintro ⟨p, q⟩ m r hm hr
          by_cases c : m = k
          · subst c
            rw [hgk] at hr
            cases hr
            exact q
          · exact p m r (by omega) hr
        · intro p
          exact ⟨fun m r hm hr => p m r (by omega) hr, p k _ (by omega) hgk⟩)
    ⟨_, none, none, rfl, by simp, (fun y m => by
      obtain ⟨_, _, rfl⟩ := List.mem_map.mp m
      exact Int.le_refl _), fun x x0 x1 => by
      constructor
      · intro _ k r hk hr
        have := (List.getElem?_eq_some_iff.mp hr).1
        omega
      · intro _
        unfold atL
        rw [List.getD_eq_getElem?_getD, List.getElem?_map]
        cases g[x.toNat]? <;> rfl⟩
  subst he
  have hrl : (revD g.length).length = g.length := by unfold revD; simp
  rw [hrl] at hzr
  refine ⟨cs, ?_, hl, fun x x0 x1 => ?_⟩
  · refine run_ok rfl (e := enT g cs s2 s3) ?_
    have hlen : mfrz (mCallD (d1 dLen) (mCons (mVar 0) (mNil))) (enT g (g.map fun _ => 0) none none) = .ok (.d (.int g.length)) (enT g (g.map fun _ => 0) none none) := by
      refine frz_d ?_
      rw [callD_ok (cons_ok (a := .d (gD g)) (e2 := enT g (g.map fun _ => 0) none none) rfl s_nil rfl) rfl, s_d1]
      show dLen (.tuple (g.map rowD)) _ = _
      rw [s_len_t, List.length_map]
      rfl
    have h2 : mForRev (.nm 2) (mCallD (d1 dLen) (mCons (mVar 0) (mNil))) tOuter (enT g (g.map fun _ => 0) none none) = .ok .nx (enT g cs s2 s3) := by
      rw [forRev_run hlen rfl (by omega) (by omega), Int.toNat_natCast]
      exact h1
    unfold m_tails
    show mSeq _ _ [some (.d (gD g)), none, none, none, none] = _
    rw [seq_ok (chk_step G rfl), seq_ok h0, seq_ok h2]
    rfl
  · rw [hzr x x0 x1]
    constructor
    · intro h
      cases c : inRow g x with
      | false => rfl
      | true =>
        obtain ⟨r, mr, mi⟩ := inRow_iff.mp c
        obtain ⟨k, hk⟩ := List.mem_iff_getElem?.mp mr
        exact absurd mi (h k r (by omega) hk)
    · intro h k r _ hr mi
      have : inRow g x = true := inRow_iff.mpr ⟨r, List.mem_of_getElem? hr, mi⟩
      rw [h] at this
      cases this
/-! ### joined -/
theorem zip_snd (cs : List Int) : (cs.zipIdx.map fun p => ((p.2 : Nat) : Int)) = rngI cs.length := by
  unfold rngI
  rw [List.range_eq_range', ← List.zipIdx_map_snd 0 cs, List.map_map]
  rfl
theorem enum_ints (cs : List Int) : enumD (cs.map .int) = cs.zipIdx.map fun p => .tuple [.int p.2, .int p.1] := by
  unfold enumD
  rw [List.zipIdx_map, List.map_map]
  rfl
abbrev enS (g h : Gr) (s2 : Option SV) : En := [some (.d (gD g)), some (.d (gD h)), s2, none, none, none]
theorem ends_comp {g h : Gr} {cs : List Int} (hg : g.length ≤ 62) (hl : cs.length = g.length) (hzr : ∀ x, 0 ≤ x → x < (g.length : Int) → (atL cs x = 0 ↔ inRow g x = false)) :
    mComp (.tp [3, 4]) [3, 4] (mB (mOp2 dEq (mVar 4) (mC (.int 0)))) (mVar 3) (enumD (cs.map .int)) (enS g h none) = .ok (.own (.lst ((ends g).map .int))) (enS g h none) := by
  have hz := sizeLine_ge
  rw [enum_ints, comp_emb (f := fun p : Int × Nat => PyData.tuple [.int p.2, .int p.1]) (p := fun p => decide (p.1 = 0)) (g := fun p => .int p.2) cs.zipIdx rfl (fun p m => ?_) (by rw [List.length_zipIdx]; omega)]
  · congr 3
    have e : ends g = ((cs.zipIdx.filter fun p => decide (p.1 = 0)).map fun p => ((p.2 : Nat) : Int)) := by
      unfold ends
      rw [← hl, ← zip_snd, List.filter_map]
      congr 1
      refine List.filter_congr fun p m => ?_
      obtain ⟨c, i⟩ := p
      have hi : cs[i]? = some c := List.mem_zipIdx_iff_getElem?.mp m
      have li : i < cs.length := (List.getElem?_eq_some_iff.mp hi).1
      have := hzr (i : Int) (by omega) (by omega)
      have e2 : atL cs (i : Int) = c := by
        unfold atL
        rw [List.getD_eq_getElem?_getD, Int.toNat_natCast, hi]
        rfl
      rw [e2] at this
      show (!inRow g (i : Int)) = decide (c = 0)
      rw [Bool.eq_iff_iff, Bool.not_eq_true', decide_eq_true_eq]
      exact this.symm
    rw [e, List.map_map]
    rfl
  · obtain ⟨c, i⟩ := p
    refine ⟨[some (.d (gD g)), some (.d (gD h)), none, some (.d (.int i)), some (.d (.int c)), none], rfl, ?_, fun _ => rfl⟩
    simp only [s_B, s_op2, s_frz, s_var, List.getElem?_cons_zero, List.getElem?_cons_succ, s_c, s_look_d, s_dEq, s_eq_i]
theorem len_step {g : Gr} {i : Nat} {en : En} (h : en[i]? = some (some (.d (gD g)))) : mfrz (mCallD (d1 dLen) (mCons (mVar i) (mNil))) en = .ok (.d (.int g.length)) en := by
  have h1 : mfrz (mVar i) en = .ok (.d (gD g)) en := by simp only [s_frz, s_var, h]
  refine frz_d ?_
  rw [callD_ok (cons_ok h1 s_nil rfl) rfl, s_d1]
  show dLen (.tuple (g.map rowD)) _ = _
  rw [s_len_t, List.length_map]
  rfl
theorem add_g {en : En} {a b : Gr} (hl : a.length + b.length ≤ 1000000) : dAdd (gD a) (gD b) en = .ok (.d (gD (a ++ b))) en := by
  have hz := sizeLine_ge
  show (if (a.map rowD).length + (b.map rowD).length ≤ sizeLine then (mpure (SV.d (.tuple (a.map rowD ++ b.map rowD))) : M SV) else mstuck) en = _
  rw [if_pos (by rw [List.length_map, List.length_map]; omega), ← List.map_append]
  rfl
theorem series_ok {g h : Gr} (G : GOk g) (H : GOk h) : F_in_series [gD g, gD h] = .ok (.d (gD (ser g h))) [] := by
  have hz := sizeLine_ge
  have hg := G.few
  have hh := H.few
  obtain ⟨cs, ht, hl, hzr⟩ := tails_ok G
  have hE := rowD (ends g)
  have h1 : mSet 2 (mCallD (d1 dTuple) (mCons (mLcE (.tp [3, 4]) [3, 4] (mCall F_tails (mCons (mVar 0) (mNil))) (mB (mOp2 dEq (mVar 4) (mC (.int 0)))) (mVar 3)) (mNil))) (enS g h none) = .ok .nx (enS g h (some (.d (rowD (ends g))))) := by
    have q0 : mfrz (mCall F_tails (mCons (mVar 0) (mNil))) (enS g h none) = .ok (.d (.tuple (cs.map .int))) (enS g h none) :=
      frz_d (call_d (cons_ok (a := .d (gD g)) rfl s_nil rfl) rfl ht (flats_ints _))
    have q1 : mfrz (mLcE (.tp [3, 4]) [3, 4] (mCall F_tails (mCons (mVar 0) (mNil))) (mB (mOp2 dEq (mVar 4) (mC (.int 0)))) (mVar 3)) (enS g h none) = .ok (.d (.list ((ends g).map .int))) (enS g h none) := by
      refine frz_own ?_
      rw [s_lcE, q0]
      exact ends_comp hg hl hzr
    rw [set_d (d := rowD (ends g)) (e := enS g h none) ?_]
    · rfl
    · rw [callD_ok (cons_ok q1 s_nil rfl) rfl]
      rfl
  have hm : mfrz (mCall F_moved (mCons (mVar 1) (mCons (mCallD (d1 dLen) (mCons (mVar 0) (mNil))) (mNil)))) (enS g h (some (.d (rowD (ends g))))) = .ok (.d (.tuple ((h.map (shift g.length)).map rowD))) (enS g h (some (.d (rowD (ends g))))) :=
    frz_d (call_d (cons_ok (a := .d (gD h)) rfl (cons_ok (len_step rfl) s_nil rfl) rfl) rfl (moved_ok H g.length) (flat_g _))
  have hc : mComp (.nm 5) [5] mYes (mIf (mTru (mVar 5)) (mVar 5) (mVar 2)) ((h.map (shift g.length)).map rowD) (enS g h (some (.d (rowD (ends g))))) = .ok (.own (.lst ((h.map fun r => if r = [] then ends g else shift g.length r).map rowD))) (enS g h (some (.d (rowD (ends g))))) := by
    rw [comp_emb (f := rowD) (p := fun _ => true) (g := fun r => rowD (if r = [] then ends g else r)) (h.map (shift g.length)) rfl (fun r m => ?_) (by rw [List.length_map]; omega)]
    · rw [List.filter_eq_self.mpr fun _ _ => rfl, List.map_map, List.map_map]
      congr 3
      refine List.map_congr_left fun r _ => ?_
      show rowD (if shift g.length r = [] then ends g else shift g.length r) = rowD (if r = [] then ends g else shift g.length r)
      by_cases c : r = []
      · rw [if_pos (shift_nil.mpr c), if_pos c]
      · rw [if_neg (fun z => c (shift_nil.mp z)), if_neg c]
    · refine ⟨[some (.d (gD g)), some (.d (gD h)), some (.d (rowD (ends g))), none, none, some (.d (rowD r))], rfl, rfl, fun _ => ?_⟩
      have ht : truD (rowD r) = some (!(r.map PyData.int).isEmpty) := rfl
      cases r with
      | nil => rfl
      | cons x r => rfl
  have h2 : mfrz (mCallD (d1 dTuple) (mCons (mLc (.nm 5) [5] (mCall F_moved (mCons (mVar 1) (mCons (mCallD (d1 dLen) (mCons (mVar 0) (mNil))) (mNil)))) (mYes) (mIf (mTru (mVar 5)) (mVar 5) (mVar 2))) (mNil))) (enS g h (some (.d (rowD (ends g))))) = .ok (.d (gD (h.map fun r => if r = [] then ends g else shift g.length r))) (enS g h (some (.d (rowD (ends g))))) := by
    have q1 : mfrz (mLc (.nm 5) [5] (mCall F_moved (mCons (mVar 1) (mCons (mCallD (d1 dLen) (mCons (mVar 0) (mNil))) (mNil)))) (mYes) (mIf (mTru (mVar 5)) (mVar 5) (mVar 2))) (enS g h (some (.d (rowD (ends g))))) = .ok (.d (.list ((h.map fun r => if r = [] then ends g else shift g.length r).map rowD))) (enS g h (some (.d (rowD (ends g))))) := by
      refine frz_own ?_
      rw [s_lc, hm]
      exact hc
    refine frz_d ?_
    rw [callD_ok (cons_ok q1 s_nil rfl) rfl]
    rfl
  refine run_ok rfl (e := enS g h (some (.d (rowD (ends g))))) ?_
  unfold m_in_series
  show mSeq _ _ (enS g h none) = _
  rw [seq_ok (chk_step G rfl), seq_ok (chk_step H rfl), seq_ok h1, s_ret, op2_ok (a := .d (gD g)) (x := gD g) rfl h2 rfl rfl, add_g (by rw [List.length_map]; omega)]
  rfl
theorem parallel_ok {g h : Gr} (G : GOk g) (H : GOk h) : F_in_parallel [gD g, gD h] = .ok (.d (gD (par g h))) [] := by
  have hg := G.few
  have hh := H.few
  have hm : mfrz (mCall F_moved (mCons (mVar 1) (mCons (mCallD (d1 dLen) (mCons (mVar 0) (mNil))) (mNil)))) [some (.d (gD g)), some (.d (gD h))] = .ok (.d (gD (h.map (shift g.length)))) [some (.d (gD g)), some (.d (gD h))] :=
    frz_d (call_d (cons_ok (a := .d (gD h)) rfl (cons_ok (len_step rfl) s_nil rfl) rfl) rfl (moved_ok H g.length) (flat_g _))
  refine run_ok rfl (e := [some (.d (gD g)), some (.d (gD h))]) ?_
  unfold m_in_parallel
  show mSeq _ _ [some (.d (gD g)), some (.d (gD h))] = _
  rw [seq_ok (chk_step G rfl), seq_ok (chk_step H rfl), s_ret, op2_ok (a := .d (gD g)) (x := gD g) rfl hm rfl rfl, add_g (by rw [List.length_map]; omega)]
  rfl
end K17

namespace K17
open PySem PySem.Spec PyProof.Rows L2
/-! ### _law_equal of the same -/
def lvl : Nat → D → Bool
  | 0, _ => false
  | _ + 1, .int _ => true
  | _ + 1, .str _ => true
  | _ + 1, .bool _ => true
  | _ + 1, .none => true
  | n + 1, .tuple ds => ds.all (lvl n) && decide (ds.length ≤ 1000000)
  | _ + 1, .list _ => false
  | _ + 1, .dict _ => false
@[simp] theorem s_dIs_none (x : D) : dIs x .none = mpure (.d (.bool (isNone x))) := by
  cases x <;> rfl
theorem equal_refl : ∀ (n : Nat) (d : D), lvl n d = true → F__law_equal n [d, d] = .ok (.d (.bool true)) []
  | 0, _, h => by cases h
  | n + 1, .int i, _ => by
    show runF 2 3 (m__law_equal (F__law_equal n)) _ = _
    exact run_ok rfl (e := [some (.d (.int i)), some (.d (.int i)), none]) (by simp [m__law_equal, isNone, isiD])
  | n + 1, .str i, _ => by
    show runF 2 3 (m__law_equal (F__law_equal n)) _ = _
    exact run_ok rfl (e := [some (.d (.str i)), some (.d (.str i)), none]) (by simp [m__law_equal, isNone, isiD])
  | n + 1, .bool i, _ => by
    show runF 2 3 (m__law_equal (F__law_equal n)) _ = _
    exact run_ok rfl (e := [some (.d (.bool i)), some (.d (.bool i)), none]) (by simp [m__law_equal, isNone, isiD])
  | n + 1, .none, _ => by
    show runF 2 3 (m__law_equal (F__law_equal n)) _ = _
    exact run_ok rfl (e := [some (.d .none), some (.d .none), none]) (by simp [m__law_equal, isNone, isiD])
  | n + 1, .tuple ds, h => by
    show runF 2 3 (m__law_equal (F__law_equal n)) _ = _
    unfold lvl at h
    simp only [Bool.and_eq_true, decide_eq_true_eq, List.all_eq_true] at h
    obtain ⟨hd, hl⟩ := h
    have hr : -(2 ^ 62) ≤ (ds.length : Int) ∧ (ds.length : Int) < 2 ^ 62 := ⟨by omega, by omega⟩
    obtain ⟨e', h1, jv, h2⟩ := for_inv (tg := .nm 2) (body := mIfS (mNotT (mB (mCall (F__law_equal n) (mCons (mOp2 dIx (mVar 0) (mVar 2)) (mCons (mOp2 dIx (mVar 1) (mVar 2)) (mNil)))))) (mRet (mC (.bool false))) (mNx)) (ds := rngD 0 ds.length)
      (fun _ e => ∃ jv, e = [some (.d (.tuple ds)), some (.d (.tuple ds)), jv]) (fun i d e hi ⟨jv, he⟩ => by
        obtain ⟨li, rfl⟩ := rng_get hi
        subst he
        have ha : atI ds ((0 : Int) + (i : Nat)) = some ds[i] := atI_at (by omega) (by simp [List.getElem?_eq_getElem li])
        have ih := equal_refl n ds[i] (hd _ (List.getElem_mem li))
        rw [Int.zero_add] at ha
        refine ⟨_, [some (.d (.tuple ds)), some (.d (.tuple ds)), some (.d (.int (0 + (i : Nat))))], rfl, .inl ?_, _, rfl⟩
        simp [ha, ih, flat]) (e := [some (.d (.tuple ds)), some (.d (.tuple ds)), none]) ⟨_, rfl⟩
    subst h2
    refine run_ok rfl (e := [some (.d (.tuple ds)), some (.d (.tuple ds)), jv]) ?_
    simp at hr
    simp [m__law_equal, isNone, isiD, hr, h1]
theorem ix_scr_at {ns : List Int} {i : Int} (h0 : 0 ≤ i) (h1 : i < ns.length) : ∃ z : Int, ixD (scrD ns) (.int i) = some (.int z) := by
  have hl : i.toNat < ns.length := by omega
  refine ⟨ns[i.toNat], ?_⟩
  rw [ix_scr]
  exact atI_at h0 (by rw [List.getElem?_map, List.getElem?_eq_getElem hl]; rfl)
/-- what is drawn lies below the bounds -/
def InB (ds bs : List Int) : Prop := ∀ (i : Nat) (d b : Int), ds[i]? = some d → bs[i]? = some b → 0 ≤ d ∧ d < b
abbrev enD (ns : List Int) (k : Int) (bs : List Int) (cell rest : Int) (ds : List Int) (j mx : Option SV) : En := [some (.d (scrD ns)), some (.d (.int k)), some (.d (.list (bs.map .int))), some (.d (.int cell)), some (.d (.int rest)), some (.own (.lst (ds.map .int))), j, mx]
abbrev bodyD : M Ct := mIfS (mB (mOp2 dGt (mVar 4) (mC (.int 0)))) (mSeq (mAppend 5 (mOp2 dMod (mCallD (d1 dInt) (mCons (mVar 4) (mNil))) (mOp2 dIx (mVar 2) (mVar 6)))) (mSet 4 (mOp2 dDiv (mVar 4) (mOp2 dIx (mVar 2) (mVar 6))))) (mSeq (mSet 7 (mOp2 dMod (mCallD (d1 dInt) (mCons (mOp2 dAdd (mOp2 dAdd (mOp2 dAdd (mOp2 dMulL (mVar 3) (mC (.int 48271))) (mOp2 dMulL (mVar 1) (mC (.int 69621)))) (mOp2 dMulL (mVar 6) (mC (.int 40692)))) (mC (.int 12345))) (mNil))) (mC (.int 2147483647)))) (mSeq (mSet 7 (mOp2 dMod (mCallD (d1 dInt) (mCons (mOp2 dAdd (mOp2 dAdd (mOp2 dMulL (mVar 7) (mVar 7)) (mOp2 dMulL (mVar 6) (mC (.int 16807)))) (mC (.int 271))) (mNil))) (mC (.int 2147483563)))) (mSeq (mSet 7 (mOp2 dMod (mCallD (d1 dInt) (mCons (mOp2 dAdd (mOp2 dAdd (mOp2 dMulL (mVar 7) (mVar 7)) (mOp2 dMulL (mVar 7) (mC (.int 39373)))) (mC (.int 7))) (mNil))) (mC (.int 2147483399)))) (mAppend 5 (mOp2 dMod (mOp2 dDiv (mVar 7) (mC (.int 16))) (mOp2 dIx (mVar 2) (mVar 6)))))))
section
variable (ns : List Int) (k cell rest : Int) (bs ds : List Int) (i : Int)
theorem dr1 (mx : Option SV) : (mSet 7 (mOp2 dMod (mCallD (d1 dInt) (mCons (mOp2 dAdd (mOp2 dAdd (mOp2 dAdd (mOp2 dMulL (mVar 3) (mC (.int 48271))) (mOp2 dMulL (mVar 1) (mC (.int 69621)))) (mOp2 dMulL (mVar 6) (mC (.int 40692)))) (mC (.int 12345))) (mNil))) (mC (.int 2147483647)))) (enD ns k bs cell rest ds (some (.d (.int i))) mx) = .ok .nx (enD ns k bs cell rest ds (some (.d (.int i))) (some (.d (.int ((cell * 48271 + k * 69621 + i * 40692 + 12345) % 2147483647))))) := by
  simp
theorem dr2 (x1 : Int) (g : x1 < 18446744073709551616 ∧ -18446744073709551616 < x1) : (mSet 7 (mOp2 dMod (mCallD (d1 dInt) (mCons (mOp2 dAdd (mOp2 dAdd (mOp2 dMulL (mVar 7) (mVar 7)) (mOp2 dMulL (mVar 6) (mC (.int 16807)))) (mC (.int 271))) (mNil))) (mC (.int 2147483563)))) (enD ns k bs cell rest ds (some (.d (.int i))) (some (.d (.int x1)))) = .ok .nx (enD ns k bs cell rest ds (some (.d (.int i))) (some (.d (.int ((x1 * x1 + i * 16807 + 271) % 2147483563))))) := by
  simp [g.1, g.2]
theorem dr3 (x2 : Int) (g : x2 < 18446744073709551616 ∧ -18446744073709551616 < x2) : (mSet 7 (mOp2 dMod (mCallD (d1 dInt) (mCons (mOp2 dAdd (mOp2 dAdd (mOp2 dMulL (mVar 7) (mVar 7)) (mOp2 dMulL (mVar 7) (mC (.int 39373)))) (mC (.int 7))) (mNil))) (mC (.int 2147483399)))) (enD ns k bs cell rest ds (some (.d (.int i))) (some (.d (.int x2)))) = .ok .nx (enD ns k bs cell rest ds (some (.d (.int i))) (some (.d (.int ((x2 * x2 + x2 * 39373 + 7) % 2147483399))))) := by
  simp [g.1, g.2]
theorem dr4 (x3 b : Int) (hi : atI (bs.map PyData.int) i = some (.int b)) (b0 : 0 < b) (hs : ds.length < sizeLine) : (mAppend 5 (mOp2 dMod (mOp2 dDiv (mVar 7) (mC (.int 16))) (mOp2 dIx (mVar 2) (mVar 6)))) (enD ns k bs cell rest ds (some (.d (.int i))) (some (.d (.int x3)))) = .ok .nx (enD ns k bs cell rest (ds ++ [x3 / 16 % b]) (some (.d (.int i))) (some (.d (.int x3)))) := by
  simp [hi, b0, hs]
theorem dr5 (mx : Option SV) (b : Int) (hi : atI (bs.map PyData.int) i = some (.int b)) (b0 : 0 < b) (b1 : b < 18446744073709551616) (hs : ds.length < sizeLine) (c : 0 < rest) : bodyD (enD ns k bs cell rest ds (some (.d (.int i))) mx) = .ok .nx (enD ns k bs cell (rest / b) (ds ++ [rest % b]) (some (.d (.int i))) mx) := by
  simp [c, hi, b0, b1, hs]
theorem md (y m : Int) (h : 0 < m) : 0 ≤ y % m ∧ y % m < m := ⟨Int.emod_nonneg _ (by omega), Int.emod_lt_of_pos _ h⟩
theorem dr6 (mx : Option SV) (b : Int) (hi : atI (bs.map PyData.int) i = some (.int b)) (b0 : 0 < b) (hs : ds.length < sizeLine) (c : ¬ 0 < rest) : ∃ x3 : Int, bodyD (enD ns k bs cell rest ds (some (.d (.int i))) mx) = .ok .nx (enD ns k bs cell rest (ds ++ [x3 / 16 % b]) (some (.d (.int i))) (some (.d (.int x3)))) := by
  have t : mB (mOp2 dGt (mVar 4) (mC (.int 0))) (enD ns k bs cell rest ds (some (.d (.int i))) mx) = .ok false (enD ns k bs cell rest ds (some (.d (.int i))) mx) := by simp [c]
  have h1 := dr1 ns k cell rest bs ds i mx
  have p1 := md (cell * 48271 + k * 69621 + i * 40692 + 12345) 2147483647 (by omega)
  generalize (cell * 48271 + k * 69621 + (i : Int) * 40692 + 12345) % 2147483647 = x1 at h1 p1
  have h2 := dr2 ns k cell rest bs ds i x1 ⟨by omega, by omega⟩
  have p2 := md (x1 * x1 + i * 16807 + 271) 2147483563 (by omega)
  generalize (x1 * x1 + (i : Int) * 16807 + 271) % 2147483563 = x2 at h2 p2
  have h3 := dr3 ns k cell rest bs ds i x2 ⟨by omega, by omega⟩
  generalize (x2 * x2 + x2 * 39373 + 7) % 2147483399 = x3 at h3
  refine ⟨x3, ?_⟩
  unfold bodyD
  rw [s_ifS, t]
  dsimp only
  rw [s_seq, h1]
  dsimp only
  rw [s_seq, h2]
  dsimp only
  rw [s_seq, h3]
  dsimp only
  exact dr4 ns k cell rest bs ds i x3 b hi b0 hs
end
/-- the bounds that are drawn below -/
structure Bnds (bs : List Int) : Prop where
  few : bs.length ≤ 1000
  pos : ∀ b ∈ bs, 0 < b
  lt : ∀ b ∈ bs, b < 18446744073709551616
theorem turns (ns : List Int) (k cell rest : Int) (bs : List Int) (B : Bnds bs) : ∃ e' rest' ds j mx, forGo (.nm 6) none bodyD (rngD 0 bs.length) (enD ns k bs cell rest [] none none) = .ok .nx e' ∧ e' = enD ns k bs cell rest' ds j mx ∧ ds.length = bs.length ∧ InB ds bs := by
  obtain ⟨e', h1, h2⟩ := for_inv (tg := .nm 6) (body := bodyD) (ds := rngD 0 bs.length) (e := enD ns k bs cell rest [] none none)
    (fun i e => ∃ (rest' : Int) (ds : List Int) (j mx : Option SV), e = enD ns k bs cell rest' ds j mx ∧ ds.length = i ∧ InB ds bs) (fun i d e hi ⟨rest', ds, j, mx, he, hl, hb⟩ => by
      obtain ⟨li, rfl⟩ := rng_get hi
      subst he
      rw [Int.zero_add]
      have hbi : bs[i]? = some bs[i] := List.getElem?_eq_getElem li
      have b0 := B.pos _ (List.getElem_mem li)
      have b1 := B.lt _ (List.getElem_mem li)
      have hs : ds.length < sizeLine := by have := sizeLine_ge; have := B.few; omega
      have ha : atI (bs.map PyData.int) (i : Int) = some (.int bs[i]) := atI_at (by omega) (by rw [Int.toNat_natCast, List.getElem?_map, hbi]; rfl)
      have inb : ∀ x, 0 ≤ x → x < bs[i] → InB (ds ++ [x]) bs := fun x h0 h1 m d b q1 q2 => by
        by_cases hm : m < ds.length
        · rw [List.getElem?_append_left hm] at q1
          exact hb m d b q1 q2
        · rw [List.getElem?_append_right (by omega)] at q1
          have e0 : m - ds.length = 0 := by
            have := (List.getElem?_eq_some_iff.mp q1).1
            simp at this
            omega
          rw [e0] at q1
          have em : m = i := by omega
          subst em
          rw [hbi] at q2
          cases q1
          cases q2
          exact ⟨h0, h1⟩
      by_cases c : 0 < rest'
      · exact ⟨_, _, rfl, .inl (dr5 ns k cell rest' bs ds (i : Int) mx _ ha b0 b1 hs c), _, _, _, _, rfl, by simp [hl], inb _ (md _ _ b0).1 (md _ _ b0).2⟩
      · obtain ⟨x3, q⟩ := dr6 ns k cell rest' bs ds (i : Int) mx _ ha b0 hs c
        exact ⟨_, _, rfl, .inl q, _, _, _, _, rfl, by simp [hl], inb _ (md _ _ b0).1 (md _ _ b0).2⟩)
    ⟨rest, [], none, none, rfl, rfl, fun i d b q _ => by simp at q⟩
  obtain ⟨rest', ds, j, mx, he, hl, hb⟩ := h2
  rw [show (rngD 0 bs.length).length = bs.length by unfold rngD; simp] at hl
  exact ⟨e', rest', ds, j, mx, h1, he, hl, hb⟩
theorem p18 : (10 : Int) ^ (18 : Int).toNat = 1000000000000000000 := by decide
theorem draws_pre (ns : List Int) (k : Int) (hk : 0 ≤ k) (bs : List Int) : ∃ cell rest : Int, ∀ n : M Ct, (mSeq (mSet 3 (mC (.int 0))) (mSeq (mSet 4 (mC (.int 0))) (mSeq (mIfS (mB (mOp2 dLt (mVar 1) (mCallD (d1 dLen) (mCons (mVar 0) (mNil))))) (mSeq (mSet 3 (mCallD (d1 dInt) (mCons (mOp2 dIx (mVar 0) (mVar 1)) (mNil)))) (mSet 4 (mCallD dMax2 (mCons (mC (.int 0)) (mCons (mOp2 dSub (mVar 3) (mOp2 dPow (mC (.int 10)) (mC (.int 18)))) (mNil)))))) (mIfS (mB (mOp2 dGt (mCallD (d1 dLen) (mCons (mVar 0) (mNil))) (mC (.int 0)))) (mSet 3 (mCallD (d1 dInt) (mCons (mOp2 dIx (mVar 0) (mOp2 dMod (mCallD (d1 dInt) (mCons (mVar 1) (mNil))) (mCallD (d1 dLen) (mCons (mVar 0) (mNil))))) (mNil)))) (mNx))) n)))
      [some (.d (scrD ns)), some (.d (.int k)), some (.d (.list (bs.map .int))), none, none, none, none, none] = n [some (.d (scrD ns)), some (.d (.int k)), some (.d (.list (bs.map .int))), some (.d (.int cell)), some (.d (.int rest)), none, none, none] := by
  by_cases c : k < ns.length
  · obtain ⟨z, hz⟩ := ix_scr_at hk c
    refine ⟨z, if z - 1000000000000000000 > 0 then z - 1000000000000000000 else 0, fun n => ?_⟩
    simp [c, hz]
  · by_cases c2 : 0 < ns.length
    · obtain ⟨z, hz⟩ := ix_scr_at (ns := ns) (i := k % (ns.length : Int)) (md _ _ (by omega)).1 (md _ _ (by omega)).2
      refine ⟨z, 0, fun n => ?_⟩
      simp [c, c2, hz]
    · refine ⟨0, 0, fun n => ?_⟩
      simp [c, c2]

theorem draws_loop (ns : List Int) (k cell rest rest' : Int) (bs ds : List Int) (j mx : Option SV) (B : Bnds bs) (h1 : forGo (.nm 6) none bodyD (rngD 0 bs.length) (enD ns k bs cell rest [] none none) = .ok .nx (enD ns k bs cell rest' ds j mx)) :
    mForR1 (.nm 6) (mCons (mCallD (d1 dLen) (mCons (mVar 2) (mNil))) (mNil)) bodyD (enD ns k bs cell rest [] none none) = .ok .nx (enD ns k bs cell rest' ds j mx) := by
  have h : (mCons (mCallD (d1 dLen) (mCons (mVar 2) (mNil))) (mNil)) (enD ns k bs cell rest [] none none) = .ok [.d (.int (bs.length : Int))] (enD ns k bs cell rest [] none none) := by simp
  have hb : (bs.length : Int) ≤ 1000000 := by have := B.few; omega
  have := forR1_run (tg := .nm 6) (body := bodyD) h (by omega) hb
  rw [Int.toNat_natCast] at this
  exact this.trans h1
theorem draws_tail (ns : List Int) (k cell rest : Int) (bs : List Int) (B : Bnds bs) : ∃ e' ds, (mSeq (mSet 5 (mLst (mNil))) (mSeq (mForR1 (.nm 6) (mCons (mCallD (d1 dLen) (mCons (mVar 2) (mNil))) (mNil)) bodyD) (mRet (mVar 5)))) [some (.d (scrD ns)), some (.d (.int k)), some (.d (.list (bs.map .int))), some (.d (.int cell)), some (.d (.int rest)), none, none, none] = .ok (.rt (.bor 5)) e' ∧ e'[5]? = some (some (.own (.lst (ds.map .int)))) ∧ ds.length = bs.length ∧ InB ds bs := by
  obtain ⟨e', rest', ds, j, mx, h1, he, hl, hb⟩ := turns ns k cell rest bs B
  subst he
  refine ⟨enD ns k bs cell rest' ds j mx, ds, ?_, rfl, hl, hb⟩
  have h0 : mSet 5 (mLst mNil) [some (.d (scrD ns)), some (.d (.int k)), some (.d (.list (bs.map .int))), some (.d (.int cell)), some (.d (.int rest)), none, none, none] = .ok .nx (enD ns k bs cell rest [] none none) := by simp
  have h2 := draws_loop ns k cell rest rest' bs ds j mx B h1
  rw [s_seq, h0]
  dsimp only
  rw [s_seq, h2]
  rfl
theorem draws_is : m__law_draws = (mSeq (mSet 3 (mC (.int 0))) (mSeq (mSet 4 (mC (.int 0))) (mSeq (mIfS (mB (mOp2 dLt (mVar 1) (mCallD (d1 dLen) (mCons (mVar 0) (mNil))))) (mSeq (mSet 3 (mCallD (d1 dInt) (mCons (mOp2 dIx (mVar 0) (mVar 1)) (mNil)))) (mSet 4 (mCallD dMax2 (mCons (mC (.int 0)) (mCons (mOp2 dSub (mVar 3) (mOp2 dPow (mC (.int 10)) (mC (.int 18)))) (mNil)))))) (mIfS (mB (mOp2 dGt (mCallD (d1 dLen) (mCons (mVar 0) (mNil))) (mC (.int 0)))) (mSet 3 (mCallD (d1 dInt) (mCons (mOp2 dIx (mVar 0) (mOp2 dMod (mCallD (d1 dInt) (mCons (mVar 1) (mNil))) (mCallD (d1 dLen) (mCons (mVar 0) (mNil))))) (mNil)))) (mNx))) (mSeq (mSet 5 (mLst (mNil))) (mSeq (mForR1 (.nm 6) (mCons (mCallD (d1 dLen) (mCons (mVar 2) (mNil))) (mNil)) bodyD) (mRet (mVar 5))))))) := rfl
theorem draws_ok (ns : List Int) (k : Int) (hk : 0 ≤ k) (bs : List Int) (B : Bnds bs) : ∃ ds : List Int, F__law_draws [scrD ns, .int k, .list (bs.map .int)] = .ok (.own (.lst (ds.map .int))) [] ∧ ds.length = bs.length ∧ InB ds bs := by
  obtain ⟨cell, rest, pre⟩ := draws_pre ns k hk bs
  obtain ⟨e', ds, h1, h2, hl, hb⟩ := draws_tail ns k cell rest bs B
  refine ⟨ds, run_bor rfl (i := 5) (e := e') ?_ h2, hl, hb⟩
  rw [draws_is]
  exact (pre _).trans h1
end K17

namespace K17
open PySem PySem.Spec PyProof.Rows L2 KG
abbrev enL (ns : List Int) (k most a b : Int) (g : Gr) (s5 s6 s7 s8 s9 s10 : Option SV) : En :=
  [some (.d (scrD ns)), some (.d (.int k)), some (.d (.int most)), some (.own (.lst ([a, b].map .int))), some (.own (.lst (g.map rowD))), s5, s6, s7, s8, s9, s10]
noncomputable abbrev n1 : M Ct := mSet 10 (mOp2 dGe (mVar 9) (mOp2 dSub (mVar 5) (mC (.int 4))))
noncomputable abbrev n2 : M Ct := mIfS (mB (mOp2 dEq (mOp2 dIx (mVar 3) (mC (.int 1))) (mC (.int 1)))) (mSet 10 (mOp2 dEq (mVar 9) (mOp2 dSub (mVar 5) (mC (.int 1))))) (mNx)
noncomputable abbrev n3 : M Ct := mIfS (mB (mOp2 dEq (mOp2 dIx (mVar 3) (mC (.int 1))) (mC (.int 2)))) (mSet 10 (mOp2 dEq (mOp2 dDiv (mVar 9) (mC (.int 3))) (mOp2 dSub (mOp2 dDiv (mVar 5) (mC (.int 3))) (mC (.int 1))))) (mNx)
noncomputable abbrev nc : M Bool := mAndT (mTru (mVar 10)) (mB (mOp2 dGt (mOp2 dAdd (mOp2 dMod (mCallD (d1 dInt) (mCons (mVar 7) (mNil))) (mC (.int 2))) (mCallD (d1 dInt) (mCons (mBV (mAndT (mB (mOp2 dLt (mOp2 dIx (mVar 3) (mC (.int 1))) (mC (.int 3)))) (mB (mOp2 dGt (mOp2 dIx (mVar 6) (mC (.int 1))) (mC (.int 3)))))) (mNil)))) (mC (.int 0))))
noncomputable abbrev n5 : M Ct := mIfS (mTru (mVar 10)) (mSet 7 (mOp2 dDiv (mVar 7) (mC (.int 2)))) (mNx)
noncomputable abbrev nB : M Ct := mSeq n1 (mSeq n2 (mSeq n3 (mSeq (mIfS nc (mAppend 8 (mVar 9)) (mNx)) n5)))
section
variable (ns : List Int) (k most a b : Int) (g : Gr) (i j c d num : Int) (beh : List Int)
abbrev enJ (s10 : Option SV) : En := enL ns k most a b g (some (.d (.int i))) (some (.own (.lst ([c, d].map .int)))) (some (.d (.int num))) (some (.own (.lst (beh.map .int)))) (some (.d (.int j))) s10
theorem n1_ok (s10 : Option SV) : n1 (enJ ns k most a b g i j c d num beh s10) = .ok .nx (enJ ns k most a b g i j c d num beh (some (.d (.bool (decide (i - 4 ≤ j)))))) := by
  simp only [s_set, s_op2, s_frz, s_var, List.getElem?_cons_zero, List.getElem?_cons_succ, s_c, s_look_d, s_sub, s_dGe_i, s_pure]
  rfl
theorem ix1 (x y : Int) : atI ([x, y].map PyData.int) 1 = some (.int y) := rfl
theorem n2_ok (z : Bool) : ∃ z', n2 (enJ ns k most a b g i j c d num beh (some (.d (.bool z)))) = .ok .nx (enJ ns k most a b g i j c d num beh (some (.d (.bool z')))) := by
  have t : mB (mOp2 dEq (mOp2 dIx (mVar 3) (mC (.int 1))) (mC (.int 1))) (enJ ns k most a b g i j c d num beh (some (.d (.bool z)))) = .ok (decide (b = 1)) (enJ ns k most a b g i j c d num beh (some (.d (.bool z)))) := by
    simp only [s_B, s_op2, s_frz, s_var, List.getElem?_cons_zero, List.getElem?_cons_succ, s_c, s_look_d, s_look_bor, s_dIx, s_ix_l, ix1, s_dEq, s_eq_i]
  by_cases q : b = 1
  · refine ⟨decide (j = i - 1), ?_⟩
    unfold n2
    rw [s_ifS, t, decide_eq_true q]
    simp only [s_set, s_op2, s_frz, s_var, List.getElem?_cons_zero, List.getElem?_cons_succ, s_c, s_look_d, s_sub, s_pure, s_dEq, s_eq_i]
    rfl
  · refine ⟨z, ?_⟩
    unfold n2
    rw [s_ifS, t, decide_eq_false q]
    rfl
theorem lt64 : (0 : Int) < 3 ∧ (3 : Int) < 2 ^ 64 := by decide
theorem n3_ok (z : Bool) : ∃ z', n3 (enJ ns k most a b g i j c d num beh (some (.d (.bool z)))) = .ok .nx (enJ ns k most a b g i j c d num beh (some (.d (.bool z')))) := by
  have t : mB (mOp2 dEq (mOp2 dIx (mVar 3) (mC (.int 1))) (mC (.int 2))) (enJ ns k most a b g i j c d num beh (some (.d (.bool z)))) = .ok (decide (b = 2)) (enJ ns k most a b g i j c d num beh (some (.d (.bool z)))) := by
    simp only [s_B, s_op2, s_frz, s_var, List.getElem?_cons_zero, List.getElem?_cons_succ, s_c, s_look_d, s_look_bor, s_dIx, s_ix_l, ix1, s_dEq, s_eq_i]
  by_cases q : b = 2
  · refine ⟨decide (j / 3 = i / 3 - 1), ?_⟩
    unfold n3
    rw [s_ifS, t, decide_eq_true q]
    simp only [s_set, s_op2, s_frz, s_var, List.getElem?_cons_zero, List.getElem?_cons_succ, s_c, s_look_d, s_div, if_pos lt64, s_sub, s_pure, s_dEq, s_eq_i]
    rfl
  · refine ⟨z, ?_⟩
    unfold n3
    rw [s_ifS, t, decide_eq_false q]
    rfl
theorem nc_ok (z : Bool) : ∃ y, nc (enJ ns k most a b g i j c d num beh (some (.d (.bool z)))) = .ok y (enJ ns k most a b g i j c d num beh (some (.d (.bool z)))) := by
  cases z with
  | false => exact ⟨false, rfl⟩
  | true =>
    have hb : ∃ w, mBV (mAndT (mB (mOp2 dLt (mOp2 dIx (mVar 3) (mC (.int 1))) (mC (.int 3)))) (mB (mOp2 dGt (mOp2 dIx (mVar 6) (mC (.int 1))) (mC (.int 3))))) (enJ ns k most a b g i j c d num beh (some (.d (.bool true)))) = .ok (.d (.bool w)) (enJ ns k most a b g i j c d num beh (some (.d (.bool true)))) := by
      by_cases q : b < 3
      · refine ⟨decide (3 < d), ?_⟩
        simp only [s_BV, s_andT, s_B, s_op2, s_frz, s_var, List.getElem?_cons_zero, List.getElem?_cons_succ, s_c, s_look_d, s_look_bor, s_dIx, s_ix_l, ix1, s_dLt_i, s_dGt_i, s_pure, decide_eq_true q]
      · refine ⟨false, ?_⟩
        simp only [s_BV, s_andT, s_B, s_op2, s_frz, s_var, List.getElem?_cons_zero, List.getElem?_cons_succ, s_c, s_look_d, s_look_bor, s_dIx, s_ix_l, ix1, s_dLt_i, s_dGt_i, s_pure, decide_eq_false q]
    obtain ⟨w, hw⟩ := hb
    refine ⟨decide (0 < num % 2 + if w = true then 1 else 0), ?_⟩
    simp only [s_andT, s_tru, s_frz, s_var, List.getElem?_cons_zero, List.getElem?_cons_succ, s_look_d, s_tru_b, s_B, s_op2, s_callD, s_cons, s_nil, s_lent_d, if_true, s_looks_cons, s_looks_nil, s_d1, s_dInt_i, s_dInt_b, s_pure, s_c, s_mod, show (0 : Int) < 2 from by decide, hw, s_dAdd_i, s_dGt_i]
theorem n5_ok (z : Bool) : ∃ num', n5 (enJ ns k most a b g i j c d num beh (some (.d (.bool z)))) = .ok .nx (enJ ns k most a b g i j c d num' beh (some (.d (.bool z)))) := by
  cases z with
  | false => exact ⟨num, rfl⟩
  | true =>
    refine ⟨num / 2, ?_⟩
    have q : (0 : Int) < 2 ∧ (2 : Int) < 2 ^ 64 := by decide
    unfold n5
    rw [s_ifS]
    have t : mTru (mVar 10) (enJ ns k most a b g i j c d num beh (some (.d (.bool true)))) = .ok true (enJ ns k most a b g i j c d num beh (some (.d (.bool true)))) := rfl
    rw [t]
    simp only [s_set, s_op2, s_frz, s_var, List.getElem?_cons_zero, List.getElem?_cons_succ, s_c, s_look_d, s_div, if_pos q]
    rfl
theorem nB_ok (hl : beh.length < 62) (s10 : Option SV) : ∃ num' beh' s10', nB (enJ ns k most a b g i j c d num beh s10) = .ok .nx (enJ ns k most a b g i j c d num' beh' s10') ∧ (beh' = beh ∨ beh' = beh ++ [j]) := by
  have hz := sizeLine_ge
  have h1 := n1_ok ns k most a b g i j c d num beh s10
  obtain ⟨z2, h2⟩ := n2_ok ns k most a b g i j c d num beh (decide (i - 4 ≤ j))
  obtain ⟨z3, h3⟩ := n3_ok ns k most a b g i j c d num beh z2
  obtain ⟨y, h4⟩ := nc_ok ns k most a b g i j c d num beh z3
  cases y with
  | false =>
    obtain ⟨num', h5⟩ := n5_ok ns k most a b g i j c d num beh z3
    refine ⟨num', beh, some (.d (.bool z3)), ?_, .inl rfl⟩
    have h6 : mIfS nc (mAppend 8 (mVar 9)) (mNx) (enJ ns k most a b g i j c d num beh (some (.d (.bool z3)))) = .ok .nx (enJ ns k most a b g i j c d num beh (some (.d (.bool z3)))) := by
      rw [s_ifS, h4]
      rfl
    unfold nB
    rw [seq_ok h1, seq_ok h2, seq_ok h3, seq_ok h6, h5]
  | true =>
    obtain ⟨num', h5⟩ := n5_ok ns k most a b g i j c d num (beh ++ [j]) z3
    refine ⟨num', beh ++ [j], some (.d (.bool z3)), ?_, .inr rfl⟩
    have h6 : mIfS nc (mAppend 8 (mVar 9)) (mNx) (enJ ns k most a b g i j c d num beh (some (.d (.bool z3)))) = .ok .nx (enJ ns k most a b g i j c d num (beh ++ [j]) (some (.d (.bool z3)))) := by
      rw [s_ifS, h4]
      have := append_ok (i := 8) (m := mVar 9) (en := enJ ns k most a b g i j c d num beh (some (.d (.bool z3)))) (e := enJ ns k most a b g i j c d num beh (some (.d (.bool z3)))) (d := .int j) (ds0 := beh.map .int) (ds := beh.map .int) rfl rfl rfl (by rw [List.length_map]; omega)
      dsimp only
      rw [this]
      dsimp only [enJ, enL]
      rw [List.map_append]
      rfl
    unfold nB
    rw [seq_ok h1, seq_ok h2, seq_ok h3, seq_ok h6, h5]
theorem nLoop (n : Nat) (hn : n ≤ 62) (s9 s10 : Option SV) : ∃ (num' : Int) (beh' : List Int) (s9' s10' : Option SV), forGo (.nm 9) none nB (rngD 0 n) (enL ns k most a b g (some (.d (.int i))) (some (.own (.lst ([c, d].map .int)))) (some (.d (.int num))) (some (.own (.lst (([] : List Int).map .int)))) s9 s10) =
    .ok .nx (enL ns k most a b g (some (.d (.int i))) (some (.own (.lst ([c, d].map .int)))) (some (.d (.int num'))) (some (.own (.lst (beh'.map .int)))) s9' s10') ∧ beh'.Pairwise (· < ·) ∧ ∀ x ∈ beh', 0 ≤ x ∧ x < n := by
  obtain ⟨e', h1, num', beh', s9', s10', he, hl, hp, hb⟩ := for_inv (tg := .nm 9) (body := nB) (ds := rngD 0 n) (e := enL ns k most a b g (some (.d (.int i))) (some (.own (.lst ([c, d].map .int)))) (some (.d (.int num))) (some (.own (.lst (([] : List Int).map .int)))) s9 s10)
    (fun m e => ∃ (num' : Int) (beh' : List Int) (s9' s10' : Option SV), e = enL ns k most a b g (some (.d (.int i))) (some (.own (.lst ([c, d].map .int)))) (some (.d (.int num'))) (some (.own (.lst (beh'.map .int)))) s9' s10' ∧ beh'.length ≤ m ∧ beh'.Pairwise (· < ·) ∧ ∀ x ∈ beh', 0 ≤ x ∧ x < (m : Int)) (fun m dd e hi ⟨num', beh', s9', s10', he, hl, hp, hb⟩ => by
      obtain ⟨li, rfl⟩ := rng_get hi
      subst he
      rw [Int.zero_add]
      obtain ⟨nu, be, sx, h, hbe⟩ := nB_ok ns k most a b g i (m : Int) c d num' beh' (by omega) s10'
      refine ⟨_, _, rfl, .inl h, nu, be, _, sx, rfl, ?_⟩
      rcases hbe with rfl | rfl
      · exact ⟨by omega, hp, fun x mx => by have := hb x mx; omega⟩
      · refine ⟨by simp; omega, ?_, fun x mx => ?_⟩
        · rw [List.pairwise_append]
          exact ⟨hp, List.pairwise_singleton _ _, fun x mx y my => by
            rw [List.mem_singleton.mp my]
            exact (hb x mx).2⟩
        · rcases List.mem_append.mp mx with mx | mx
          · have := hb x mx; omega
          · rw [List.mem_singleton.mp mx]; omega)
    ⟨num, [], s9, s10, rfl, Nat.le_refl _, List.Pairwise.nil, fun x m => by cases m⟩
  subst he
  have hrl : (rngD 0 n).length = n := by unfold rngD; simp
  rw [hrl] at hb
  exact ⟨num', beh', s9', s10', h1, hp, hb⟩
end
noncomputable abbrev g1 : M Ct := mSet 6 (mCall F__law_draws (mCons (mVar 0) (mCons (mOp2 dAdd (mOp2 dAdd (mVar 1) (mC (.int 1))) (mOp2 dMod (mCallD (d1 dInt) (mCons (mVar 5) (mNil))) (mC (.int 12)))) (mCons (mLst (mCons (mC (.int 2520)) (mCons (mC (.int 6)) (mNil)))) (mNil)))))
noncomputable abbrev g2 : M Ct := mSet 7 (mOp2 dIx (mVar 6) (mC (.int 0)))
noncomputable abbrev g3 : M Ct := mSet 8 (mLst (mNil))
noncomputable abbrev g4 : M Ct := mForR1 (.nm 9) (mCons (mVar 5) (mNil)) nB
noncomputable abbrev g5 : M Ct := mIfS (mAndT (mB (mOp2 dEq (mOp2 dIx (mVar 3) (mC (.int 1))) (mC (.int 4)))) (mB (mOp2 dLt (mOp2 dIx (mVar 6) (mC (.int 1))) (mC (.int 3))))) (mSet 8 (mLst (mNil))) (mNx)
noncomputable abbrev g6 : M Ct := mAppend 4 (mCallD (d1 dTuple) (mCons (mVar 8) (mNil)))
noncomputable abbrev gB : M Ct := mSeq g1 (mSeq g2 (mSeq g3 (mSeq g4 (mSeq g5 g6))))
theorem lst2 {en : En} (x y : Int) : mfrz (mLst (mCons (mC (.int x)) (mCons (mC (.int y)) (mNil)))) en = .ok (.d (.list (([x, y] : List Int).map .int))) en := by
  have hz := sizeLine_ge
  have q : ([PyData.int x, PyData.int y] : List D).length ≤ sizeLine := by simp; omega
  simp only [s_frz, s_lst, s_cons, s_c, s_nil, s_lent_d, if_true, s_looks_cons, s_looks_nil, s_look_d, q, List.all_cons, List.all_nil, Bool.and_self, and_self]
  rfl
theorem gB_ok (ns : List Int) {k most : Int} (k0 : 0 ≤ k) (a b : Int) {g : Gr} (G : GOk g) (hl : g.length < 62) (s6 s7 s8 s9 s10 : Option SV) :
    ∃ (g' : Gr) (s6' s7' s8' s9' s10' : Option SV), gB (enL ns k most a b g (some (.d (.int g.length))) s6 s7 s8 s9 s10) = .ok .nx (enL ns k most a b g' (some (.d (.int g.length))) s6' s7' s8' s9' s10') ∧ GOk g' ∧ g'.length = g.length + 1 := by
  have hz := sizeLine_ge
  have km := K17.md (g.length : Int) 12 (by omega)
  have B : K17.Bnds [2520, 6] := ⟨by simp, fun x hx => by simp at hx; omega, fun x hx => by simp at hx; omega⟩
  obtain ⟨ds, hd, hdl, _⟩ := K17.draws_ok ns (k + 1 + (g.length : Int) % 12) (by omega) [2520, 6] B
  match ds, hdl with
  | [c, d], _ =>
    have h1 : g1 (enL ns k most a b g (some (.d (.int g.length))) s6 s7 s8 s9 s10) = .ok .nx (enL ns k most a b g (some (.d (.int g.length))) (some (.own (.lst ([c, d].map .int)))) s7 s8 s9 s10) := by
      have q1 : mfrz (mOp2 dAdd (mOp2 dAdd (mVar 1) (mC (.int 1))) (mOp2 dMod (mCallD (d1 dInt) (mCons (mVar 5) (mNil))) (mC (.int 12)))) (enL ns k most a b g (some (.d (.int g.length))) s6 s7 s8 s9 s10) = .ok (.d (.int (k + 1 + (g.length : Int) % 12))) (enL ns k most a b g (some (.d (.int g.length))) s6 s7 s8 s9 s10) := by
        simp only [s_frz, s_op2, s_var, List.getElem?_cons_zero, List.getElem?_cons_succ, s_c, s_look_d, s_dAdd_i, s_pure, s_callD, s_cons, s_nil, s_lent_d, if_true, s_looks_cons, s_looks_nil, s_d1, s_dInt_i, s_mod, show (0 : Int) < 12 from by decide]
      show mSet 6 _ _ = _
      rw [set_own (call_own (cons_ok (a := .d (scrD ns)) rfl (cons_ok q1 (cons_ok (lst2 2520 6) s_nil rfl) rfl) rfl) rfl hd (flats_ints [c, d]))]
      rfl
    have h2 : g2 (enL ns k most a b g (some (.d (.int g.length))) (some (.own (.lst ([c, d].map .int)))) s7 s8 s9 s10) = .ok .nx (enL ns k most a b g (some (.d (.int g.length))) (some (.own (.lst ([c, d].map .int)))) (some (.d (.int c))) s8 s9 s10) := by
      have e1 : atI ([c, d].map PyData.int) 0 = some (.int c) := rfl
      simp only [s_set, s_op2, s_frz, s_var, List.getElem?_cons_zero, List.getElem?_cons_succ, s_c, s_look_d, s_look_bor, s_dIx, s_ix_l, e1]
      rfl
    have h3 : g3 (enL ns k most a b g (some (.d (.int g.length))) (some (.own (.lst ([c, d].map .int)))) (some (.d (.int c))) s8 s9 s10) = .ok .nx (enL ns k most a b g (some (.d (.int g.length))) (some (.own (.lst ([c, d].map .int)))) (some (.d (.int c))) (some (.own (.lst (([] : List Int).map .int)))) s9 s10) := by
      simp only [s_set, s_lst, s_nil, s_looks_nil, List.length_nil, List.all_nil, Nat.zero_le, and_self, if_true]
      rfl
    obtain ⟨num', beh, s9', s10', hL, hp, hb⟩ := nLoop ns k most a b g g.length c d c g.length (by omega) s9 s10
    have h4 : g4 (enL ns k most a b g (some (.d (.int g.length))) (some (.own (.lst ([c, d].map .int)))) (some (.d (.int c))) (some (.own (.lst (([] : List Int).map .int)))) s9 s10) = .ok .nx (enL ns k most a b g (some (.d (.int g.length))) (some (.own (.lst ([c, d].map .int)))) (some (.d (.int num'))) (some (.own (.lst (beh.map .int)))) s9' s10') := by
      show mForR1 _ _ _ _ = _
      rw [forR1_run (mas := mCons (mVar 5) (mNil)) (j := (g.length : Int)) (e := enL ns k most a b g (some (.d (.int g.length))) (some (.own (.lst ([c, d].map .int)))) (some (.d (.int c))) (some (.own (.lst (([] : List Int).map .int)))) s9 s10) rfl (by omega) (by omega), Int.toNat_natCast]
      exact hL
    obtain ⟨be, h5, hp', hb'⟩ : ∃ be : List Int, g5 (enL ns k most a b g (some (.d (.int g.length))) (some (.own (.lst ([c, d].map .int)))) (some (.d (.int num'))) (some (.own (.lst (beh.map .int)))) s9' s10') = .ok .nx (enL ns k most a b g (some (.d (.int g.length))) (some (.own (.lst ([c, d].map .int)))) (some (.d (.int num'))) (some (.own (.lst (be.map .int)))) s9' s10') ∧ be.Pairwise (· < ·) ∧ ∀ x ∈ be, 0 ≤ x ∧ x < g.length := by
      obtain ⟨y, hy⟩ : ∃ y, mAndT (mB (mOp2 dEq (mOp2 dIx (mVar 3) (mC (.int 1))) (mC (.int 4)))) (mB (mOp2 dLt (mOp2 dIx (mVar 6) (mC (.int 1))) (mC (.int 3)))) (enL ns k most a b g (some (.d (.int g.length))) (some (.own (.lst ([c, d].map .int)))) (some (.d (.int num'))) (some (.own (.lst (beh.map .int)))) s9' s10') = .ok y (enL ns k most a b g (some (.d (.int g.length))) (some (.own (.lst ([c, d].map .int)))) (some (.d (.int num'))) (some (.own (.lst (beh.map .int)))) s9' s10') := by
        by_cases q : b = 4
        · refine ⟨decide (d < 3), ?_⟩
          simp only [s_andT, s_B, s_op2, s_frz, s_var, List.getElem?_cons_zero, List.getElem?_cons_succ, s_c, s_look_d, s_look_bor, s_dIx, s_ix_l, ix1, s_dEq, s_eq_i, s_dLt_i, s_pure, decide_eq_true q]
        · refine ⟨false, ?_⟩
          simp only [s_andT, s_B, s_op2, s_frz, s_var, List.getElem?_cons_zero, List.getElem?_cons_succ, s_c, s_look_d, s_look_bor, s_dIx, s_ix_l, ix1, s_dEq, s_eq_i, s_dLt_i, s_pure, decide_eq_false q]
      cases y with
      | false =>
        refine ⟨beh, ?_, hp, hb⟩
        show mIfS _ _ _ _ = _
        rw [s_ifS, hy]
        rfl
      | true =>
        refine ⟨[], ?_, List.Pairwise.nil, fun x m => by cases m⟩
        show mIfS _ _ _ _ = _
        rw [s_ifS, hy]
        simp only [s_set, s_lst, s_nil, s_looks_nil, List.length_nil, List.all_nil, Nat.zero_le, and_self, if_true]
        rfl
    refine ⟨g ++ [be], some (.own (.lst ([c, d].map .int))), some (.d (.int num')), some (.own (.lst (be.map .int))), s9', s10', ?_, gok_snoc G hl hp' hb', by simp⟩
    have hgl : (g.map rowD).length < sizeLine := by rw [List.length_map]; omega
    have h6 : g6 (enL ns k most a b g (some (.d (.int g.length))) (some (.own (.lst ([c, d].map .int)))) (some (.d (.int num'))) (some (.own (.lst (be.map .int)))) s9' s10') = .ok .nx (enL ns k most a b (g ++ [be]) (some (.d (.int g.length))) (some (.own (.lst ([c, d].map .int)))) (some (.d (.int num'))) (some (.own (.lst (be.map .int)))) s9' s10') := by
      have := append_ok (i := 4) (m := mCallD (d1 dTuple) (mCons (mVar 8) (mNil))) (en := enL ns k most a b g (some (.d (.int g.length))) (some (.own (.lst ([c, d].map .int)))) (some (.d (.int num'))) (some (.own (.lst (be.map .int)))) s9' s10') (e := enL ns k most a b g (some (.d (.int g.length))) (some (.own (.lst ([c, d].map .int)))) (some (.d (.int num'))) (some (.own (.lst (be.map .int)))) s9' s10') (d := rowD be) (ds0 := g.map rowD) (ds := g.map rowD) rfl rfl rfl hgl
      show mAppend 4 _ _ = _
      rw [this]
      dsimp only [enL]
      rw [List.map_append]
      rfl
    unfold gB
    rw [seq_ok h1, seq_ok h2, seq_ok h3, seq_ok h4, seq_ok h5, h6]
theorem graph_def : m__law_graph = mSeq (mSet 3 (mCall F__law_draws (mCons (mVar 0) (mCons (mVar 1) (mCons (mLst (mCons (mOp2 dAdd (mC (.int 1)) (mVar 2)) (mCons (mC (.int 5)) (mNil)))) (mNil)))))) (mSeq (mSet 4 (mLst (mNil))) (mSeq (mForR1 (.nm 5) (mCons (mOp2 dIx (mVar 3) (mC (.int 0))) (mNil)) gB) (mRet (mCallD (d1 dTuple) (mCons (mVar 4) (mNil)))))) := rfl
theorem graph_drawn (ns : List Int) {k most : Int} (k0 : 0 ≤ k) (m0 : 0 ≤ most) (m1 : most ≤ 60) : ∃ g, F__law_graph [scrD ns, .int k, .int most] = .ok (.d (gD g)) [] ∧ GOk g ∧ (g.length : Int) ≤ most := by
  have hz := sizeLine_ge
  have B : K17.Bnds [1 + most, 5] := ⟨by simp, fun x hx => by simp at hx; omega, fun x hx => by simp at hx; omega⟩
  obtain ⟨sh, hd, hl, ha⟩ := K17.draws_ok ns k k0 [1 + most, 5] B
  match sh, hl with
  | [a, b], _ =>
    have ha0 := ha 0 a (1 + most) rfl rfl
    have h1 : mSet 3 (mCall F__law_draws (mCons (mVar 0) (mCons (mVar 1) (mCons (mLst (mCons (mOp2 dAdd (mC (.int 1)) (mVar 2)) (mCons (mC (.int 5)) (mNil)))) (mNil))))) [some (.d (scrD ns)), some (.d (.int k)), some (.d (.int most)), none, none, none, none, none, none, none, none] = .ok .nx [some (.d (scrD ns)), some (.d (.int k)), some (.d (.int most)), some (.own (.lst ([a, b].map .int))), none, none, none, none, none, none, none] := by
      have q1 : mfrz (mLst (mCons (mOp2 dAdd (mC (.int 1)) (mVar 2)) (mCons (mC (.int 5)) (mNil)))) [some (.d (scrD ns)), some (.d (.int k)), some (.d (.int most)), none, none, none, none, none, none, none, none] = .ok (.d (.list (([1 + most, 5] : List Int).map .int))) [some (.d (scrD ns)), some (.d (.int k)), some (.d (.int most)), none, none, none, none, none, none, none, none] := by
        have q : ([PyData.int (1 + most), PyData.int 5] : List D).length ≤ sizeLine := by simp; omega
        simp only [s_frz, s_lst, s_cons, s_c, s_nil, s_op2, s_var, List.getElem?_cons_zero, List.getElem?_cons_succ, s_dAdd_i, s_pure, s_lent_d, if_true, s_looks_cons, s_looks_nil, s_look_d, q, List.all_cons, List.all_nil, Bool.and_self, and_self]
        rfl
      rw [set_own (call_own (cons_ok (a := .d (scrD ns)) rfl (cons_ok (a := .d (.int k)) rfl (cons_ok q1 s_nil rfl) rfl) rfl) rfl hd (flats_ints [a, b]))]
      rfl
    have h2 : mSet 4 (mLst (mNil)) [some (.d (scrD ns)), some (.d (.int k)), some (.d (.int most)), some (.own (.lst ([a, b].map .int))), none, none, none, none, none, none, none] = .ok .nx (enL ns k most a b [] none none none none none none) := by
      simp only [s_set, s_lst, s_nil, s_looks_nil, List.length_nil, List.all_nil, Nat.zero_le, and_self, if_true]
      rfl
    obtain ⟨e', q1, g, s5, s6, s7, s8, s9, s10, he, G, hgl⟩ := for_inv (tg := .nm 5) (body := gB) (ds := rngD 0 a.toNat) (e := enL ns k most a b [] none none none none none none)
      (fun m e => ∃ (g : Gr) (s5 s6 s7 s8 s9 s10 : Option SV), e = enL ns k most a b g s5 s6 s7 s8 s9 s10 ∧ GOk g ∧ g.length = m) (fun m dd e hi ⟨g, s5, s6, s7, s8, s9, s10, he, G, hgl⟩ => by
        obtain ⟨li, rfl⟩ := rng_get hi
        subst he
        rw [Int.zero_add, ← hgl]
        obtain ⟨g', s6', s7', s8', s9', s10', h, G', hl'⟩ := gB_ok ns (most := most) k0 a b G (by omega) s6 s7 s8 s9 s10
        exact ⟨_, _, rfl, .inl h, g', _, s6', s7', s8', s9', s10', rfl, G', by omega⟩)
      ⟨[], none, none, none, none, none, none, rfl, gok_nil, rfl⟩
    subst he
    have hrl : (rngD 0 a.toNat).length = a.toNat := by unfold rngD; simp
    rw [hrl] at hgl
    have h3 : mForR1 (.nm 5) (mCons (mOp2 dIx (mVar 3) (mC (.int 0))) (mNil)) gB (enL ns k most a b [] none none none none none none) = .ok .nx (enL ns k most a b g s5 s6 s7 s8 s9 s10) := by
      rw [forR1_run (mas := mCons (mOp2 dIx (mVar 3) (mC (.int 0))) (mNil)) (j := a) (e := enL ns k most a b [] none none none none none none) rfl (by omega) (by omega)]
      exact q1
    refine ⟨g, run_ok rfl (e := enL ns k most a b g s5 s6 s7 s8 s9 s10) ?_, G, by omega⟩
    rw [graph_def]
    show mSeq _ _ [some (.d (scrD ns)), some (.d (.int k)), some (.d (.int most)), none, none, none, none, none, none, none, none] = _
    rw [seq_ok h1, seq_ok h2, seq_ok h3]
    rfl
end K17

namespace K17
open PySem PySem.Spec PyProof.Rows L2 KG
/-! ### the law's heads and span -/
noncomputable abbrev lhI : M Ct := mIfS (mB (mOp2 dGt (mOp2 dAdd (mOp2 dIx (mVar 1) (mVar 4)) (mC (.int 1))) (mVar 3))) (mSet 3 (mOp2 dAdd (mOp2 dIx (mVar 1) (mVar 4)) (mC (.int 1)))) (mNx)
abbrev enK (g : Gr) (acc : List Int) (s2 s3 s4 : Option SV) : En := [some (.d (gD g)), some (.own (.lst (acc.map .int))), s2, s3, s4]
theorem lhI_ok (g : Gr) (acc : List Int) (s2 : Option SV) {c j : Int} (j0 : 0 ≤ j) (j1 : j < acc.length) :
    lhI (enK g acc s2 (some (.d (.int c))) (some (.d (.int j)))) = .ok .nx (enK g acc s2 (some (.d (.int (if c < atL acc j + 1 then atL acc j + 1 else c)))) (some (.d (.int j)))) := by
  have t : mB (mOp2 dGt (mOp2 dAdd (mOp2 dIx (mVar 1) (mVar 4)) (mC (.int 1))) (mVar 3)) (enK g acc s2 (some (.d (.int c))) (some (.d (.int j)))) = .ok (decide (c < atL acc j + 1)) (enK g acc s2 (some (.d (.int c))) (some (.d (.int j)))) := by
    simp only [s_B, s_op2, s_frz, s_var, List.getElem?_cons_zero, List.getElem?_cons_succ, s_c, s_look_d, s_look_bor, s_dIx, s_ix_l, at_ints j0 j1, s_dAdd_i, s_dGt_i, s_pure]
  unfold lhI
  rw [s_ifS, t]
  by_cases q : c < atL acc j + 1
  · rw [decide_eq_true q, if_pos q]
    simp only [s_set, s_op2, s_frz, s_var, List.getElem?_cons_zero, List.getElem?_cons_succ, s_c, s_look_d, s_look_bor, s_dIx, s_ix_l, at_ints j0 j1, s_dAdd_i, s_pure]
    rfl
  · rw [decide_eq_false q, if_neg q]
    rfl
theorem lhL (g : Gr) (acc : List Int) (s2 : Option SV) : ∀ (r : List Int) (c : Int) (s4 : Option SV), (∀ x ∈ r, 0 ≤ x ∧ x < acc.length) →
    ∃ s4', forGo (.nm 4) none lhI (r.map .int) (enK g acc s2 (some (.d (.int c))) s4) = .ok .nx (enK g acc s2 (some (.d (.int (r.foldl (fun c j => if c < atL acc j + 1 then atL acc j + 1 else c) c)))) s4')
  | [], c, s4, _ => ⟨s4, for_nil rfl⟩
  | j :: r, c, s4, h => by
    have lj := h j List.mem_cons_self
    obtain ⟨s4', q⟩ := lhL g acc s2 r (if c < atL acc j + 1 then atL acc j + 1 else c) (some (.d (.int j))) fun x m => h x (List.mem_cons_of_mem _ m)
    refine ⟨s4', ?_⟩
    rw [List.map_cons, for_step rfl (e1 := enK g acc s2 (some (.d (.int c))) (some (.d (.int j)))) rfl (lhI_ok g acc s2 lj.1 lj.2)]
    exact q
noncomputable abbrev lhB : M Ct := mSeq (mSet 3 (mC (.int 0))) (mSeq (mFor (.nm 4) [3] (mVar 2) lhI) (mAppend 1 (mVar 3)))
theorem lhB_ok (g : Gr) {acc : List Int} (hl : acc.length ≤ 62) {r : List Int} (low : ∀ x ∈ r, 0 ≤ x ∧ x < acc.length) (s3 s4 : Option SV) :
    ∃ s3' s4', lhB (enK g acc (some (.d (rowD r))) s3 s4) = .ok .nx (enK g (acc ++ [mx (r.map fun j => atL acc j + 1)]) (some (.d (rowD r))) s3' s4') := by
  have hz := sizeLine_ge
  obtain ⟨s4', q⟩ := lhL g acc (some (.d (rowD r))) r 0 s4 low
  have e : r.foldl (fun c j => if c < atL acc j + 1 then atL acc j + 1 else c) 0 = mx (r.map fun j => atL acc j + 1) := by
    unfold mx
    rw [List.foldl_map]
  rw [e] at q
  have h1 : mSet 3 (mC (.int 0)) (enK g acc (some (.d (rowD r))) s3 s4) = .ok .nx (enK g acc (some (.d (rowD r))) (some (.d (.int 0))) s4) := rfl
  have h2 : mFor (.nm 4) [3] (mVar 2) lhI (enK g acc (some (.d (rowD r))) (some (.d (.int 0))) s4) = .ok .nx (enK g acc (some (.d (rowD r))) (some (.d (.int (mx (r.map fun j => atL acc j + 1))))) s4') := by
    rw [s_for, show mfrz (mVar 2) (enK g acc (some (.d (rowD r))) (some (.d (.int 0))) s4) = .ok (.d (.tuple (r.map .int))) (enK g acc (some (.d (rowD r))) (some (.d (.int 0))) s4) from rfl]
    exact q
  have h3 := append_ok (i := 1) (m := mVar 3) (en := enK g acc (some (.d (rowD r))) (some (.d (.int (mx (r.map fun j => atL acc j + 1))))) s4') (e := enK g acc (some (.d (rowD r))) (some (.d (.int (mx (r.map fun j => atL acc j + 1))))) s4') (d := .int (mx (r.map fun j => atL acc j + 1))) (ds0 := acc.map .int) (ds := acc.map .int) rfl rfl rfl (by rw [List.length_map]; omega)
  refine ⟨some (.d (.int (mx (r.map fun j => atL acc j + 1)))), s4', ?_⟩
  unfold lhB
  rw [seq_ok h1, seq_ok h2, h3]
  dsimp only [enK]
  rw [List.map_append]
  rfl
theorem lhLoop (g : Gr) : ∀ (q : Gr) (acc : List Int) (s2 s3 s4 : Option SV), acc.length + q.length ≤ 62 → Low acc.length q →
    ∃ s2' s3' s4', forGo (.nm 2) none lhB (q.map rowD) (enK g acc s2 s3 s4) = .ok .nx (enK g (hdGo acc q) s2' s3' s4')
  | [], acc, s2, s3, s4, _, _ => ⟨s2, s3, s4, for_nil rfl⟩
  | r :: q, acc, s2, s3, s4, hl, L => by
    obtain ⟨t3, t4, hs⟩ := lhB_ok g (acc := acc) (by omega) L.head s3 s4
    obtain ⟨s2', s3', s4', h⟩ := lhLoop g q (acc ++ [mx (r.map fun j => atL acc j + 1)]) (some (.d (rowD r))) t3 t4 (by simp only [List.length_append, List.length_cons, List.length_nil] at hl ⊢; omega) (by rw [List.length_append]; exact L.tail)
    refine ⟨s2', s3', s4', ?_⟩
    rw [List.map_cons, for_step rfl (e1 := enK g acc (some (.d (rowD r))) s3 s4) rfl hs, h]
    rfl
theorem lheads_ok {g : Gr} (G : GOk g) : F__law_heads [gD g] = .ok (.own (.lst ((hd g).map .int))) [] := by
  obtain ⟨s2, s3, s4, h⟩ := lhLoop g g [] none none none (by have := G.few; simpa using this) G.Low
  refine run_bor rfl (i := 1) (e := enK g (hd g) s2 s3 s4) ?_ rfl
  have h0 : mSet 1 (mLst (mNil)) [some (.d (gD g)), none, none, none, none] = .ok .nx (enK g [] none none none) := by
    simp only [s_set, s_lst, s_nil, s_looks_nil, List.length_nil, List.all_nil, Nat.zero_le, and_self, if_true]
    rfl
  have h1 : mFor (.nm 2) [3, 4] (mVar 0) lhB (enK g [] none none none) = .ok .nx (enK g (hd g) s2 s3 s4) := by
    rw [s_for, show mfrz (mVar 0) (enK g [] none none none) = .ok (.d (.tuple (g.map rowD))) (enK g [] none none none) from rfl]
    exact h
  unfold m__law_heads
  show mSeq _ _ [some (.d (gD g)), none, none, none, none] = _
  rw [seq_ok h0, seq_ok h1]
  rfl
noncomputable abbrev lsB : M Ct := mIfS (mB (mOp2 dGt (mOp2 dAdd (mVar 2) (mC (.int 1))) (mVar 1))) (mSet 1 (mOp2 dAdd (mVar 2) (mC (.int 1)))) (mNx)
theorem lsB_ok (g : Gr) (c x : Int) : lsB [some (.d (gD g)), some (.d (.int c)), some (.d (.int x))] = .ok .nx [some (.d (gD g)), some (.d (.int (if c < x + 1 then x + 1 else c))), some (.d (.int x))] := by
  have t : mB (mOp2 dGt (mOp2 dAdd (mVar 2) (mC (.int 1))) (mVar 1)) [some (.d (gD g)), some (.d (.int c)), some (.d (.int x))] = .ok (decide (c < x + 1)) [some (.d (gD g)), some (.d (.int c)), some (.d (.int x))] := by
    simp only [s_B, s_op2, s_frz, s_var, List.getElem?_cons_zero, List.getElem?_cons_succ, s_c, s_look_d, s_dAdd_i, s_dGt_i, s_pure]
  unfold lsB
  rw [s_ifS, t]
  by_cases q : c < x + 1
  · rw [decide_eq_true q, if_pos q]
    simp only [s_set, s_op2, s_frz, s_var, List.getElem?_cons_zero, List.getElem?_cons_succ, s_c, s_look_d, s_dAdd_i, s_pure]
    rfl
  · rw [decide_eq_false q, if_neg q]
    rfl
theorem lsL (g : Gr) : ∀ (r : List Int) (c : Int) (s2 : Option SV), ∃ s2', forGo (.nm 2) none lsB (r.map .int) [some (.d (gD g)), some (.d (.int c)), s2] = .ok .nx [some (.d (gD g)), some (.d (.int (r.foldl (fun c x => if c < x + 1 then x + 1 else c) c))), s2']
  | [], c, s2 => ⟨s2, for_nil rfl⟩
  | x :: r, c, s2 => by
    obtain ⟨s2', q⟩ := lsL g r (if c < x + 1 then x + 1 else c) (some (.d (.int x)))
    refine ⟨s2', ?_⟩
    rw [List.map_cons, for_step rfl (e1 := [some (.d (gD g)), some (.d (.int c)), some (.d (.int x))]) rfl (lsB_ok g c x)]
    exact q
theorem lspan_ok {g : Gr} (G : GOk g) : F__law_span [gD g] = .ok (.d (.int (sp g))) [] := by
  obtain ⟨s2, h⟩ := lsL g (hd g) 0 none
  have e : (hd g).foldl (fun c x => if c < x + 1 then x + 1 else c) 0 = sp g := by
    unfold sp mx
    rw [List.foldl_map]
  rw [e] at h
  refine run_ok rfl (e := [some (.d (gD g)), some (.d (.int (sp g))), s2]) ?_
  have h0 : mSet 1 (mC (.int 0)) [some (.d (gD g)), none, none] = .ok .nx [some (.d (gD g)), some (.d (.int 0)), none] := rfl
  have h1 : mFor (.nm 2) [1] (mCall F__law_heads (mCons (mVar 0) (mNil))) lsB [some (.d (gD g)), some (.d (.int 0)), none] = .ok .nx [some (.d (gD g)), some (.d (.int (sp g))), s2] := by
    rw [s_for, frz_own (call_own (cons_ok (a := .d (gD g)) (e2 := [some (.d (gD g)), some (.d (.int 0)), none]) rfl s_nil rfl) rfl (lheads_ok G) (flats_ints _))]
    exact h
  unfold m__law_span
  show mSeq _ _ [some (.d (gD g)), none, none] = _
  rw [seq_ok h0, seq_ok h1]
  rfl
/-! ### the law's joined -/
abbrev enW (g h : Gr) (z : Bool) (la : List Int) (s5 s6 s7 : Option SV) (s8 s9 : Option SV) : En := [some (.d (gD g)), some (.d (gD h)), some (.d (.bool z)), some (.d (.int g.length)), some (.own (.lst (la.map .int))), s5, s6, s7, s8, s9, none]
noncomputable abbrev wI : M Ct := mIfS (mB (mOp2 dIn (mVar 5) (mVar 7))) (mSet 6 (mC (.bool true))) (mNx)
theorem wI_ok (g h : Gr) (z : Bool) (la : List Int) (i : Int) (f : Bool) (r : List Int) (s8 s9 : Option SV) : wI (enW g h z la (some (.d (.int i))) (some (.d (.bool f))) (some (.d (rowD r))) s8 s9) = .ok .nx (enW g h z la (some (.d (.int i))) (some (.d (.bool (f || decide (i ∈ r))))) (some (.d (rowD r))) s8 s9) := by
  have hr : inD (.int i) (rowD r) = some (decide (i ∈ r)) := inD_t r i
  have t : mB (mOp2 dIn (mVar 5) (mVar 7)) (enW g h z la (some (.d (.int i))) (some (.d (.bool f))) (some (.d (rowD r))) s8 s9) = .ok (decide (i ∈ r)) (enW g h z la (some (.d (.int i))) (some (.d (.bool f))) (some (.d (rowD r))) s8 s9) := by
    simp only [s_B, s_op2, s_frz, s_var, List.getElem?_cons_zero, List.getElem?_cons_succ, s_look_d, s_dIn, hr]
  unfold wI
  rw [s_ifS, t]
  cases q : decide (i ∈ r) with
  | true => rw [Bool.or_true]; rfl
  | false => rw [Bool.or_false]; rfl
theorem wL (g h : Gr) (z : Bool) (la : List Int) (i : Int) (s8 s9 : Option SV) : ∀ (q : Gr) (f : Bool) (s7 : Option SV), ∃ s7', forGo (.nm 7) none wI (q.map rowD) (enW g h z la (some (.d (.int i))) (some (.d (.bool f))) s7 s8 s9) = .ok .nx (enW g h z la (some (.d (.int i))) (some (.d (.bool (f || inRow q i)))) s7' s8 s9)
  | [], f, s7 => ⟨s7, by rw [show inRow [] i = false from rfl, Bool.or_false]; exact for_nil rfl⟩
  | r :: q, f, s7 => by
    obtain ⟨s7', e⟩ := wL g h z la i s8 s9 q (f || decide (i ∈ r)) (some (.d (rowD r)))
    refine ⟨s7', ?_⟩
    rw [List.map_cons, for_step rfl (e1 := enW g h z la (some (.d (.int i))) (some (.d (.bool f))) (some (.d (rowD r))) s8 s9) rfl (wI_ok g h z la i f r s8 s9), e, Bool.or_assoc]
    rfl
noncomputable abbrev wB : M Ct := mSeq (mSet 6 (mC (.bool false))) (mSeq (mFor (.nm 7) [6] (mVar 0) wI) (mIfS (mNotT (mTru (mVar 6))) (mAppend 4 (mVar 5)) (mNx)))
theorem wB_ok (g h : Gr) (z : Bool) {la : List Int} (hl : la.length ≤ 62) (i : Int) (s6 s7 s8 s9 : Option SV) : ∃ s6' s7', wB (enW g h z la (some (.d (.int i))) s6 s7 s8 s9) = .ok .nx (enW g h z (la ++ if inRow g i = true then [] else [i]) (some (.d (.int i))) s6' s7' s8 s9) := by
  have hz := sizeLine_ge
  obtain ⟨s7', q⟩ := wL g h z la i s8 s9 g false s7
  rw [Bool.false_or] at q
  have h1 : mSet 6 (mC (.bool false)) (enW g h z la (some (.d (.int i))) s6 s7 s8 s9) = .ok .nx (enW g h z la (some (.d (.int i))) (some (.d (.bool false))) s7 s8 s9) := rfl
  have h2 : mFor (.nm 7) [6] (mVar 0) wI (enW g h z la (some (.d (.int i))) (some (.d (.bool false))) s7 s8 s9) = .ok .nx (enW g h z la (some (.d (.int i))) (some (.d (.bool (inRow g i)))) s7' s8 s9) := by
    rw [s_for, show mfrz (mVar 0) (enW g h z la (some (.d (.int i))) (some (.d (.bool false))) s7 s8 s9) = .ok (.d (.tuple (g.map rowD))) (enW g h z la (some (.d (.int i))) (some (.d (.bool false))) s7 s8 s9) from rfl]
    exact q
  refine ⟨some (.d (.bool (inRow g i))), s7', ?_⟩
  unfold wB
  rw [seq_ok h1, seq_ok h2, s_ifS]
  cases c : inRow g i with
  | true =>
    rw [if_pos rfl, List.append_nil]
    rfl
  | false =>
    have h3 := append_ok (i := 4) (m := mVar 5) (en := enW g h z la (some (.d (.int i))) (some (.d (.bool false))) s7' s8 s9) (e := enW g h z la (some (.d (.int i))) (some (.d (.bool false))) s7' s8 s9) (d := .int i) (ds0 := la.map .int) (ds := la.map .int) rfl rfl rfl (by rw [List.length_map]; omega)
    rw [if_neg Bool.false_ne_true, show mNotT (mTru (mVar 6)) (enW g h z la (some (.d (.int i))) (some (.d (.bool false))) s7' s8 s9) = .ok true (enW g h z la (some (.d (.int i))) (some (.d (.bool false))) s7' s8 s9) from rfl]
    dsimp only
    rw [h3]
    dsimp only [enW]
    rw [List.map_append]
    rfl
theorem wLoop {g : Gr} (h : Gr) (hg : g.length ≤ 62) (z : Bool) : ∃ s5 s6 s7, mForR1 (.nm 5) (mCons (mVar 3) (mNil)) wB (enW g h z [] none none none none none) = .ok .nx (enW g h z (ends g) s5 s6 s7 none none) := by
  obtain ⟨e', q1, s5, s6, s7, he⟩ := for_inv (tg := .nm 5) (body := wB) (ds := rngD 0 g.length) (e := enW g h z [] none none none none none)
    (fun m e => ∃ (s5 s6 s7 : Option SV), e = enW g h z ((rngI m).filter fun i => !inRow g i) s5 s6 s7 none none) (fun m dd e hi ⟨s5, s6, s7, he⟩ => by
      obtain ⟨li, rfl⟩ := rng_get hi
      subst he
      rw [Int.zero_add]
      obtain ⟨s6', s7', q⟩ := wB_ok g h z (la := (rngI m).filter fun i => !inRow g i) (by have := List.length_filter_le (fun i => !inRow g i) (rngI m); rw [rng_len] at this; omega) (m : Int) s6 s7 none none
      refine ⟨_, _, rfl, .inl q, some (.d (.int m)), s6', s7', ?_⟩
      have e1 : rngI (m + 1) = rngI m ++ [(m : Int)] := by
        rw [rng_add]
        congr 1
        show [(0 : Int) + m] = [(m : Int)]
        rw [Int.zero_add]
      rw [e1, List.filter_append]
      cases c : inRow g (m : Int) with
      | true => rw [if_pos rfl, List.filter_cons_of_neg (by rw [c]; decide)]; rfl
      | false => rw [if_neg Bool.false_ne_true, List.filter_cons_of_pos (by rw [c]; decide)]; rfl)
    ⟨none, none, none, rfl⟩
  subst he
  have hrl : (rngD 0 g.length).length = g.length := by unfold rngD; simp
  rw [hrl] at q1
  refine ⟨s5, s6, s7, ?_⟩
  rw [forR1_run (mas := mCons (mVar 3) (mNil)) (j := (g.length : Int)) (e := enW g h z [] none none none none none) rfl (by omega) (by omega), Int.toNat_natCast]
  exact q1
def jrow (g : Gr) (z : Bool) (r : List Int) : List Int := if z = true ∧ r = [] then ends g else shift g.length r
noncomputable abbrev jB : M Ct := mSeq (mSet 9 (mCallD (d1 dTuple) (mCons (mLc (.nm 10) [10] (mVar 7) (mYes) (mOp2 dAdd (mVar 3) (mVar 10))) (mNil)))) (mSeq (mIfS (mAndT (mTru (mVar 2)) (mB (mOp2 dEq (mCallD (d1 dLen) (mCons (mVar 7) (mNil))) (mC (.int 0))))) (mSet 9 (mCallD (d1 dTuple) (mCons (mVar 4) (mNil)))) (mNx)) (mAppend 8 (mVar 9)))
theorem jB_ok (g h : Gr) (z : Bool) {q : Gr} (hq : q.length ≤ 200) {r : List Int} (hr : r.length ≤ 62) (s5 s6 s9 : Option SV) :
    ∃ s9', jB (enW g h z (ends g) s5 s6 (some (.d (rowD r))) (some (.own (.lst (q.map rowD)))) s9) = .ok .nx (enW g h z (ends g) s5 s6 (some (.d (rowD r))) (some (.own (.lst ((q ++ [jrow g z r]).map rowD)))) s9') := by
  have hz := sizeLine_ge
  generalize hs8 : (some (.own (.lst (q.map rowD))) : Option SV) = s8
  have hc : mComp (.nm 10) [10] mYes (mOp2 dAdd (mVar 3) (mVar 10)) (r.map .int) (enW g h z (ends g) s5 s6 (some (.d (rowD r))) s8 s9) = .ok (.own (.lst ((shift g.length r).map .int))) (enW g h z (ends g) s5 s6 (some (.d (rowD r))) s8 s9) := by
    rw [comp_emb (f := PyData.int) (p := fun _ => true) (g := fun j => .int (g.length + j)) r rfl (fun j m => ?_) (by omega)]
    · rw [List.filter_eq_self.mpr fun _ _ => rfl]
      unfold shift
      rw [List.map_map]
      congr 3
      refine List.map_congr_left fun j _ => ?_
      show PyData.int (g.length + j) = .int (j + g.length)
      rw [Int.add_comm]
    · exact ⟨[some (.d (gD g)), some (.d (gD h)), some (.d (.bool z)), some (.d (.int g.length)), some (.own (.lst ((ends g).map .int))), s5, s6, some (.d (rowD r)), s8, s9, some (.d (.int j))], rfl, rfl, fun _ => rfl⟩
  have q1 : mfrz (mLc (.nm 10) [10] (mVar 7) (mYes) (mOp2 dAdd (mVar 3) (mVar 10))) (enW g h z (ends g) s5 s6 (some (.d (rowD r))) s8 s9) = .ok (.d (.list ((shift g.length r).map .int))) (enW g h z (ends g) s5 s6 (some (.d (rowD r))) s8 s9) := by
    refine frz_own ?_
    rw [s_lc, show mfrz (mVar 7) (enW g h z (ends g) s5 s6 (some (.d (rowD r))) s8 s9) = .ok (.d (.tuple (r.map .int))) (enW g h z (ends g) s5 s6 (some (.d (rowD r))) s8 s9) from rfl]
    exact hc
  have h1 : mSet 9 (mCallD (d1 dTuple) (mCons (mLc (.nm 10) [10] (mVar 7) (mYes) (mOp2 dAdd (mVar 3) (mVar 10))) (mNil))) (enW g h z (ends g) s5 s6 (some (.d (rowD r))) s8 s9) = .ok .nx (enW g h z (ends g) s5 s6 (some (.d (rowD r))) s8 (some (.d (rowD (shift g.length r))))) := by
    rw [set_d (d := rowD (shift g.length r)) (e := enW g h z (ends g) s5 s6 (some (.d (rowD r))) s8 s9) ?_]
    · rfl
    · rw [callD_ok (cons_ok q1 s_nil rfl) rfl]
      rfl
  have h2 : mIfS (mAndT (mTru (mVar 2)) (mB (mOp2 dEq (mCallD (d1 dLen) (mCons (mVar 7) (mNil))) (mC (.int 0))))) (mSet 9 (mCallD (d1 dTuple) (mCons (mVar 4) (mNil)))) (mNx) (enW g h z (ends g) s5 s6 (some (.d (rowD r))) s8 (some (.d (rowD (shift g.length r))))) = .ok .nx (enW g h z (ends g) s5 s6 (some (.d (rowD r))) s8 (some (.d (rowD (jrow g z r))))) := by
    rw [s_ifS]
    cases z with
    | false =>
      have e : jrow g false r = shift g.length r := if_neg fun c => Bool.false_ne_true c.1
      rw [e]
      rfl
    | true =>
      cases r with
      | nil => rfl
      | cons x r =>
        have e : jrow g true (x :: r) = shift g.length (x :: r) := if_neg fun c => List.cons_ne_nil _ _ c.2
        rw [e]
        have t : mB (mOp2 dEq (mCallD (d1 dLen) (mCons (mVar 7) (mNil))) (mC (.int 0))) (enW g h true (ends g) s5 s6 (some (.d (rowD (x :: r)))) s8 (some (.d (rowD (shift g.length (x :: r)))))) = .ok false (enW g h true (ends g) s5 s6 (some (.d (rowD (x :: r)))) s8 (some (.d (rowD (shift g.length (x :: r)))))) := by
          have hl : mfrz (mCallD (d1 dLen) (mCons (mVar 7) (mNil))) (enW g h true (ends g) s5 s6 (some (.d (rowD (x :: r)))) s8 (some (.d (rowD (shift g.length (x :: r)))))) = .ok (.d (.int (((x :: r).map PyData.int).length : Nat))) (enW g h true (ends g) s5 s6 (some (.d (rowD (x :: r)))) s8 (some (.d (rowD (shift g.length (x :: r)))))) := rfl
          rw [s_B, op2_ok hl (b := .d (.int 0)) rfl rfl rfl, s_dEq, s_eq_i, decide_eq_false (by rw [List.length_map, List.length_cons]; omega)]
          try rfl
        rw [s_andT, show mTru (mVar 2) (enW g h true (ends g) s5 s6 (some (.d (rowD (x :: r)))) s8 (some (.d (rowD (shift g.length (x :: r)))))) = .ok true (enW g h true (ends g) s5 s6 (some (.d (rowD (x :: r)))) s8 (some (.d (rowD (shift g.length (x :: r)))))) from rfl]
        dsimp only
        rw [t]
        rfl
  subst hs8
  have h3 := append_ok (i := 8) (m := mVar 9) (en := enW g h z (ends g) s5 s6 (some (.d (rowD r))) (some (.own (.lst (q.map rowD)))) (some (.d (rowD (jrow g z r))))) (e := enW g h z (ends g) s5 s6 (some (.d (rowD r))) (some (.own (.lst (q.map rowD)))) (some (.d (rowD (jrow g z r))))) (d := rowD (jrow g z r)) (ds0 := q.map rowD) (ds := q.map rowD) rfl rfl rfl (by rw [List.length_map]; omega)
  refine ⟨some (.d (rowD (jrow g z r))), ?_⟩
  unfold jB
  rw [seq_ok h1, seq_ok h2, h3]
  dsimp only [enW]
  rw [List.map_append]
  rfl
theorem jLoop (g h : Gr) (z : Bool) (s5 s6 : Option SV) : ∀ (p q : Gr) (s7 s9 : Option SV), p.length + q.length ≤ 200 → (∀ r ∈ p, r.length ≤ 62) →
    ∃ s7' s9', forGo (.nm 7) none jB (p.map rowD) (enW g h z (ends g) s5 s6 s7 (some (.own (.lst (q.map rowD)))) s9) = .ok .nx (enW g h z (ends g) s5 s6 s7' (some (.own (.lst ((q ++ p.map (jrow g z)).map rowD)))) s9')
  | [], q, s7, s9, _, _ => ⟨s7, s9, by rw [List.map_nil, List.map_nil, List.append_nil]; exact for_nil rfl⟩
  | r :: p, q, s7, s9, hl, hr => by
    obtain ⟨t9, hs⟩ := jB_ok g h z (q := q) (by simp at hl; omega) (hr r List.mem_cons_self) s5 s6 s9
    obtain ⟨s7', s9', e⟩ := jLoop g h z s5 s6 p (q ++ [jrow g z r]) (some (.d (rowD r))) t9 (by simp at hl ⊢; omega) fun x m => hr x (List.mem_cons_of_mem _ m)
    refine ⟨s7', s9', ?_⟩
    rw [List.map_cons, for_step rfl (e1 := enW g h z (ends g) s5 s6 (some (.d (rowD r))) (some (.own (.lst (q.map rowD)))) s9) rfl hs, e, List.append_assoc]
    rfl
theorem joined_def : m__law_joined = mSeq (mSet 3 (mCallD (d1 dLen) (mCons (mVar 0) (mNil)))) (mSeq (mSet 4 (mLst (mNil))) (mSeq (mForR1 (.nm 5) (mCons (mVar 3) (mNil)) wB) (mSeq (mSet 8 (mCallD (d1 dList) (mCons (mVar 0) (mNil)))) (mSeq (mFor (.nm 7) [9] (mVar 1) jB) (mRet (mCallD (d1 dTuple) (mCons (mVar 8) (mNil)))))))) := rfl
theorem joined_ok {g h : Gr} (G : GOk g) (H : GOk h) (z : Bool) : F__law_joined [gD g, gD h, .bool z] = .ok (.d (gD (g ++ h.map (jrow g z)))) [] := by
  have hg := G.few
  have hh := H.few
  obtain ⟨s5, s6, s7, q1⟩ := wLoop h hg z
  obtain ⟨s7', s9', q2⟩ := jLoop g h z s5 s6 h g s7 none (by omega) fun r m => by
    obtain ⟨i, hi⟩ := List.mem_iff_getElem?.mp m
    have li : i < h.length := (List.getElem?_eq_some_iff.mp hi).1
    exact few_row (n := i) (by omega) (H.asc r m) (H.low i r hi)
  have h1 : mSet 3 (mCallD (d1 dLen) (mCons (mVar 0) (mNil))) [some (.d (gD g)), some (.d (gD h)), some (.d (.bool z)), none, none, none, none, none, none, none, none] = .ok .nx [some (.d (gD g)), some (.d (gD h)), some (.d (.bool z)), some (.d (.int g.length)), none, none, none, none, none, none, none] := by
    have e := len_step (g := g) (i := 0) (en := [some (.d (gD g)), some (.d (gD h)), some (.d (.bool z)), none, none, none, none, none, none, none, none]) rfl
    have e2 : mCallD (d1 dLen) (mCons (mVar 0) (mNil)) [some (.d (gD g)), some (.d (gD h)), some (.d (.bool z)), none, none, none, none, none, none, none, none] = .ok (.d (.int ((g.map rowD).length : Nat))) [some (.d (gD g)), some (.d (gD h)), some (.d (.bool z)), none, none, none, none, none, none, none, none] := rfl
    rw [set_d e2, List.length_map]
    rfl
  have h2 : mSet 4 (mLst (mNil)) [some (.d (gD g)), some (.d (gD h)), some (.d (.bool z)), some (.d (.int g.length)), none, none, none, none, none, none, none] = .ok .nx (enW g h z [] none none none none none) := by
    simp only [s_set, s_lst, s_nil, s_looks_nil, List.length_nil, List.all_nil, Nat.zero_le, and_self, if_true]
    rfl
  have h3 : mSet 8 (mCallD (d1 dList) (mCons (mVar 0) (mNil))) (enW g h z (ends g) s5 s6 s7 none none) = .ok .nx (enW g h z (ends g) s5 s6 s7 (some (.own (.lst (g.map rowD)))) none) := by
    have e2 : mCallD (d1 dList) (mCons (mVar 0) (mNil)) (enW g h z (ends g) s5 s6 s7 none none) = .ok (.own (.lst (g.map rowD))) (enW g h z (ends g) s5 s6 s7 none none) := rfl
    rw [set_own e2]
    rfl
  have h4 : mFor (.nm 7) [9] (mVar 1) jB (enW g h z (ends g) s5 s6 s7 (some (.own (.lst (g.map rowD)))) none) = .ok .nx (enW g h z (ends g) s5 s6 s7' (some (.own (.lst ((g ++ h.map (jrow g z)).map rowD)))) s9') := by
    rw [s_for, show mfrz (mVar 1) (enW g h z (ends g) s5 s6 s7 (some (.own (.lst (g.map rowD)))) none) = .ok (.d (.tuple (h.map rowD))) (enW g h z (ends g) s5 s6 s7 (some (.own (.lst (g.map rowD)))) none) from rfl]
    exact q2
  refine run_ok rfl (e := enW g h z (ends g) s5 s6 s7' (some (.own (.lst ((g ++ h.map (jrow g z)).map rowD)))) s9') ?_
  rw [joined_def]
  show mSeq _ _ [some (.d (gD g)), some (.d (gD h)), some (.d (.bool z)), none, none, none, none, none, none, none, none] = _
  rw [seq_ok h1, seq_ok h2, seq_ok q1, seq_ok h3, seq_ok h4]
  rfl
theorem jser {g h : Gr} (G : GOk g) (H : GOk h) : F__law_joined [gD g, gD h, .bool true] = .ok (.d (gD (ser g h))) [] := by
  rw [joined_ok G H true]
  have e : h.map (jrow g true) = h.map fun r => if r = [] then ends g else shift g.length r := List.map_congr_left fun r _ => by
    unfold jrow
    by_cases c : r = []
    · rw [if_pos ⟨rfl, c⟩, if_pos c]
    · rw [if_neg (fun x => c x.2), if_neg c]
  rw [e]
  rfl
theorem jpar {g h : Gr} (G : GOk g) (H : GOk h) : F__law_joined [gD g, gD h, .bool false] = .ok (.d (gD (par g h))) [] := by
  rw [joined_ok G H false]
  have e : h.map (jrow g false) = h.map (shift g.length) := List.map_congr_left fun r _ => if_neg fun x => Bool.false_ne_true x.1
  rw [e]
  rfl
end K17

namespace L2
open PySem PySem.Spec PyProof.Rows
section
variable {en : En}
theorem looks_ds (ds : List D) : looks en (ds.map SV.d) = some ds := by
  induction ds with
  | nil => rfl
  | cons d r ih => rw [List.map_cons, s_looks_cons, ih, s_look_d]
theorem looksA_ds (ds : List D) : looksA en (ds.map SV.d) = some ds := by
  induction ds with
  | nil => rfl
  | cons d r ih => rw [List.map_cons, s_looksA_cons, ih, s_lookA_d]
theorem all_ds (ds : List D) : ((ds.map SV.d).all fun s => match s with | .d _ => true | _ => false) = true := by
  rw [List.all_map]
  exact List.all_eq_true.mpr fun _ _ => rfl
theorem v_nil : mNil en = .ok (([] : List D).map SV.d) en := rfl
theorem v_cons {m : M SV} {r : M (List SV)} {d : D} {ds : List D} (h : mfrz m en = .ok (.d d) en) (h2 : r en = .ok (ds.map SV.d) en) : mCons m r en = .ok ((d :: ds).map SV.d) en := cons_ok h h2 rfl
theorem v_lst {r : M (List SV)} {ds : List D} (h : r en = .ok (ds.map SV.d) en) (hl : ds.length ≤ 1000) : mfrz (mLst r) en = .ok (.d (.list ds)) en := by
  have hz := sizeLine_ge
  refine frz_own ?_
  rw [s_lst, h]
  dsimp only
  rw [looks_ds]
  dsimp only
  rw [if_pos ⟨by omega, all_ds ds⟩]
theorem v_tup {r : M (List SV)} {ds : List D} (h : r en = .ok (ds.map SV.d) en) (hl : ds.length ≤ 1000) : mTup r en = .ok (.d (.tuple ds)) en := by
  have hz := sizeLine_ge
  rw [s_tup, h]
  dsimp only
  rw [looks_ds]
  dsimp only
  rw [if_pos ⟨by omega, all_ds ds⟩]
theorem v_call {F : Fm} {r : M (List SV)} {ds : List D} {d : D} {e2 : En} (h : r en = .ok (ds.map SV.d) en) (h2 : F ds = .ok (.d d) e2) (hf : flat d = true) : mCall F r en = .ok (.d d) en := call_d h (looksA_ds ds) h2 hf
theorem call_exc {F : Fm} {r : M (List SV)} {ds : List D} {x : Xc} {e2 : En} (h : r en = .ok (ds.map SV.d) en) (h2 : F ds = .exc x e2) (hf : frzAll en = en) : mCall F r en = .exc x en := by
  rw [s_call, h]
  dsimp only
  rw [looksA_ds]
  dsimp only
  rw [h2]
  dsimp only
  rw [hf]
theorem seq_exc {m n : M Ct} {e : En} {x : Xc} (h : m en = .exc x e) : mSeq m n en = .exc x e := by rw [s_seq, h]
theorem expr_exc {m : M SV} {e : En} {x : Xc} (h : m en = .exc x e) : mExpr m en = .exc x e := by rw [s_expr, h]
theorem ret_exc {m : M SV} {e : En} {x : Xc} (h : m en = .exc x e) : mRet m en = .exc x e := by rw [s_ret, h]
theorem tup2_exc {m1 m2 : M SV} {d : D} {x : Xc} {e : En} (h1 : mfrz m1 en = .ok (.d d) en) (h2 : m2 en = .exc x e) : mTup (mCons m1 (mCons m2 (mNil))) en = .exc x e := by
  have q : mfrz m2 en = .exc x e := by rw [s_frz, h2]
  rw [s_tup, s_cons, h1]
  dsimp only
  rw [s_cons, q]
theorem notB {m : M SV} (h : m en = .ok (.d (.bool true)) en) : mNotT (mB m) en = .ok false en := by
  rw [s_notT, s_B, h]
  rfl
theorem ifS_no {t : M Bool} {a b : M Ct} {e : En} (h : t en = .ok false e) : mIfS t a b en = b e := by rw [s_ifS, h]
theorem ifS_nx {t : M Bool} {a : M Ct} {e : En} (h : t en = .ok false e) : mIfS t a mNx en = .ok .nx e := by rw [s_ifS, h]; rfl
theorem ifS_yes {t : M Bool} {a b : M Ct} {e : En} (h : t en = .ok true e) : mIfS t a b en = a e := by rw [s_ifS, h]
theorem or_no {t u : M Bool} {e : En} (h : t en = .ok false e) : mOrT t u en = u e := by rw [s_orT, h]
theorem and_yes {t u : M Bool} {e : En} (h : t en = .ok true e) : mAndT t u en = u e := by rw [s_andT, h]
theorem try_rt {kn : List (Str × Bool)} {i : Nat} {mb : M Ct} {mh : Xc → M Ct} {x : Xc} {en1 en2 : En} {d : D} (h1 : mb en = .exc x en1) (h2 : kn.lookup x.cls = some true) (h3 : noBor en1 = true) (h4 : mh x (en1.set i (some (.bor 0))) = .ok (.rt (.d d)) en2) (h5 : noBor (en2.set i none) = true) : mTry kn i mb mh en = .ok (.rt (.d d)) (en2.set i none) := by
  unfold mTry
  rw [h1]
  dsimp only
  rw [h2]
  dsimp only
  rw [if_pos h3, h4]
  dsimp only
  rw [if_pos h5]
theorem var_d {i : Nat} {d : D} (h : en[i]? = some (some (.d d))) : mfrz (mVar i) en = .ok (.d d) en := by simp only [s_frz, s_var, h]
end
end L2
namespace K17
open PySem PySem.Spec PyProof.Rows L2 KG
/-! ### what is no graph -/
theorem row_no {r : List Int} {i : Int} (hl : r.length ≤ 62) (h : ¬ (r.Pairwise (· < ·) ∧ ∀ x ∈ r, 0 ≤ x ∧ x < i)) : F_is_row [rowD r, .int i] = .ok (.d (.bool false)) [] := by
  have hz := sizeLine_ge
  have hin : ∀ x : Int, ∃ e, (mBV (mAndT (mB (mCall F_is_integer (mCons (mVar 2) (mNil)))) (mB (mChain dLe dLt (mC (.int 0)) (mVar 2) (mVar 1))))) [some (.d (rowD r)), some (.d (.int i)), some (.d (.int x))] = .ok (.d (.bool (decide (0 ≤ x) && decide (x < i)))) e ∧ e = [some (.d (rowD r)), some (.d (.int i)), some (.d (.int x))] := fun x => by
    refine ⟨_, ?_, rfl⟩
    have hi : F_is_integer [.int x] = .ok (.d (.bool true)) [] := KG.isint_ok x
    by_cases h0 : 0 ≤ x
    · simp [hi, flat, h0]
    · simp [hi, flat, h0]
  have hc : mComp (.nm 2) [2] mYes (mBV (mAndT (mB (mCall F_is_integer (mCons (mVar 2) (mNil)))) (mB (mChain dLe dLt (mC (.int 0)) (mVar 2) (mVar 1))))) (r.map .int) [some (.d (rowD r)), some (.d (.int i)), none] = .ok (.own (.lst ((r.map fun x => decide (0 ≤ x) && decide (x < i)).map .bool))) [some (.d (rowD r)), some (.d (.int i)), none] := by
    rw [comp_emb (f := PyData.int) (p := fun _ => true) (g := fun x => .bool (decide (0 ≤ x) && decide (x < i))) r rfl (fun x m => ?_) (by omega)]
    · rw [List.filter_eq_self.mpr fun _ _ => rfl, List.map_map]
      rfl
    · obtain ⟨e, h1, h2⟩ := hin x
      subst h2
      exact ⟨_, rfl, rfl, fun _ => keep_d h1⟩
  have hs : siD (rowD r) = some (sortI r) := by
    unfold rowD
    show (match intsOf (r.map .int) with
      | some is => if is.length ≤ 62 then some (sortI is) else none
      | none => none) = _
    rw [intsOf_map]
    simp only [hl, if_true]
  refine run_ok rfl (e := [some (.d (rowD r)), some (.d (.int i)), none]) ?_
  have t1 : mNotT (mB (mIsi .tTuple (mVar 0))) [some (.d (rowD r)), some (.d (.int i)), none] = .ok false [some (.d (rowD r)), some (.d (.int i)), none] := rfl
  have h1 : mfrz (mLc (.nm 2) [2] (mVar 0) (mYes) (mBV (mAndT (mB (mCall F_is_integer (mCons (mVar 2) (mNil)))) (mB (mChain dLe dLt (mC (.int 0)) (mVar 2) (mVar 1)))))) [some (.d (rowD r)), some (.d (.int i)), none] = .ok (.d (.list ((r.map fun x => decide (0 ≤ x) && decide (x < i)).map .bool))) [some (.d (rowD r)), some (.d (.int i)), none] := by
    refine frz_own ?_
    rw [s_lc, show mfrz (mVar 0) [some (.d (rowD r)), some (.d (.int i)), none] = .ok (.d (.tuple (r.map .int))) [some (.d (rowD r)), some (.d (.int i)), none] from rfl]
    exact hc
  have t2 : mNotT (mB (mCallD (d1 dAll) (mCons (mLc (.nm 2) [2] (mVar 0) (mYes) (mBV (mAndT (mB (mCall F_is_integer (mCons (mVar 2) (mNil)))) (mB (mChain dLe dLt (mC (.int 0)) (mVar 2) (mVar 1)))))) (mNil)))) [some (.d (rowD r)), some (.d (.int i)), none] = .ok (!((r.map fun x => decide (0 ≤ x) && decide (x < i)).all id)) [some (.d (rowD r)), some (.d (.int i)), none] := by
    rw [s_notT, s_B, callD_ok (cons_ok h1 s_nil rfl) rfl, s_d1, dAll_bools]
    rfl
  unfold m_is_row
  show mSeq _ _ [some (.d (rowD r)), some (.d (.int i)), none] = _
  rw [seq_ok (ifS_nx t1)]
  cases q : (r.map fun x => decide (0 ≤ x) && decide (x < i)).all id with
  | false =>
    rw [q] at t2
    rw [s_seq, ifS_yes t2]
    rfl
  | true =>
    rw [q] at t2
    rw [seq_ok (ifS_nx t2), s_ret]
    have ha : ¬ r = sortI r := fun z => h ⟨z ▸ sortI_asc r, fun x m => by
      rw [List.all_map, List.all_eq_true] at q
      have := q x m
      simpa using this⟩
    have f1 : mfrz (mCallD (d1 dList) (mCons (mVar 0) (mNil))) [some (.d (rowD r)), some (.d (.int i)), none] = .ok (.d (.list (r.map .int))) [some (.d (rowD r)), some (.d (.int i)), none] := rfl
    have f2 : mfrz (mSortSetI (mVar 0)) [some (.d (rowD r)), some (.d (.int i)), none] = .ok (.d (.list ((sortI r).map .int))) [some (.d (rowD r)), some (.d (.int i)), none] := by
      refine frz_own ?_
      rw [s_sortSetI, show mfrz (mVar 0) [some (.d (rowD r)), some (.d (.int i)), none] = .ok (.d (rowD r)) [some (.d (rowD r)), some (.d (.int i)), none] from rfl]
      dsimp only
      rw [s_look_d]
      dsimp only
      rw [hs]
    rw [op2_ok f1 f2 rfl rfl, s_dEq, eq_ints, decide_eq_false ha]
/-- a tuple of rows, one of them no row -/
theorem graph_no {vs : List D} (hl : vs.length ≤ 1000) (b : Nat → Bool) (h : ∀ (i : Nat) (v : D), vs[i]? = some v → F_is_row [v, .int i] = .ok (.d (.bool (b i))) []) (hb : ∃ i, i < vs.length ∧ b i = false) : F_is_graph [.tuple vs] = .ok (.d (.bool false)) [] := by
  have hz := sizeLine_ge
  have hc : mComp (.tp [1, 2]) [1, 2] mYes (mCall F_is_row (mCons (mVar 2) (mCons (mVar 1) (mNil)))) (enumD vs) [some (.d (.tuple vs)), none, none] = .ok (.own (.lst ((vs.zipIdx.map fun p => b p.2).map .bool))) [some (.d (.tuple vs)), none, none] := by
    have e : enumD vs = vs.zipIdx.map fun p => .tuple [.int p.2, p.1] := rfl
    rw [e, comp_emb (f := fun p : D × Nat => PyData.tuple [.int p.2, p.1]) (p := fun _ => true) (g := fun p => .bool (b p.2)) vs.zipIdx rfl (fun p m => ?_) (by rw [List.length_zipIdx]; omega)]
    · rw [List.filter_eq_self.mpr fun _ _ => rfl, List.map_map]
      rfl
    · obtain ⟨v, i⟩ := p
      have hi : vs[i]? = some v := List.mem_zipIdx_iff_getElem?.mp m
      refine ⟨[some (.d (.tuple vs)), some (.d (.int i)), some (.d v)], rfl, rfl, fun _ => keep_d ?_⟩
      exact v_call (v_cons (var_d rfl) (v_cons (var_d rfl) v_nil)) (h i v hi) rfl
  have hall : (vs.zipIdx.map fun p => b p.2).all id = false := by
    obtain ⟨i, li, q⟩ := hb
    rw [Bool.eq_false_iff]
    intro c
    rw [List.all_map, List.all_eq_true] at c
    have := c (vs[i], i) (List.mem_zipIdx_iff_getElem?.mpr (List.getElem?_eq_getElem li))
    have e : b i = true := this
    rw [q] at e
    cases e
  have t1 : mB (mIsi .tTuple (mVar 0)) [some (.d (.tuple vs)), none, none] = .ok true [some (.d (.tuple vs)), none, none] := rfl
  have h1 : mfrz (mLcE (.tp [1, 2]) [1, 2] (mVar 0) (mYes) (mCall F_is_row (mCons (mVar 2) (mCons (mVar 1) (mNil))))) [some (.d (.tuple vs)), none, none] = .ok (.d (.list ((vs.zipIdx.map fun p => b p.2).map .bool))) [some (.d (.tuple vs)), none, none] := by
    refine frz_own ?_
    rw [s_lcE, show mfrz (mVar 0) [some (.d (.tuple vs)), none, none] = .ok (.d (.tuple vs)) [some (.d (.tuple vs)), none, none] from rfl]
    exact hc
  refine run_ok rfl (e := [some (.d (.tuple vs)), none, none]) ?_
  unfold m_is_graph
  show mRet _ [some (.d (.tuple vs)), none, none] = _
  rw [s_ret, s_BV, and_yes t1, s_B, callD_ok (cons_ok h1 s_nil rfl) rfl, s_d1, dAll_bools, hall]
  rfl
def bads : List D := [.none, .tuple [.tuple [.int 0]], .tuple [.tuple [], .tuple [.int 1]], .tuple [.tuple [], .tuple [.int 0, .int 0]], .tuple [.tuple [], .tuple [.int (-1)]], .int 3, .tuple [.tuple [], .tuple [], .tuple [.int 1, .int 0]], .tuple [.none]]
theorem nil_row (i : Int) : F_is_row [.tuple [], .int i] = .ok (.d (.bool true)) [] := row_ok (r := []) (by simp) List.Pairwise.nil fun x m => by cases m
theorem bad_ok : ∀ d ∈ bads, F_is_graph [d] = .ok (.d (.bool false)) [] := by
  have p1 : ∀ x i : Int, ¬ (0 ≤ x ∧ x < i) → F_is_row [.tuple [.int x], .int i] = .ok (.d (.bool false)) [] := fun x i h => row_no (r := [x]) (by simp) fun c => h (c.2 x List.mem_cons_self)
  have p2 : ∀ x y i : Int, ¬ x < y → F_is_row [.tuple [.int x, .int y], .int i] = .ok (.d (.bool false)) [] := fun x y i h => row_no (r := [x, y]) (by simp) fun c => h (by have := c.1; simpa using this)
  intro d m
  simp only [bads, List.mem_cons, List.not_mem_nil, or_false] at m
  rcases m with rfl | rfl | rfl | rfl | rfl | rfl | rfl | rfl
  · exact run_ok rfl (e := [some (.d .none), none, none]) rfl
  · exact graph_no (by simp) (fun _ => false) (fun i v h => by
      match i, h with
      | 0, h => cases h; exact p1 0 0 (by omega)) ⟨0, by simp, rfl⟩
  · exact graph_no (by simp) (fun i => i == 0) (fun i v h => by
      match i, h with
      | 0, h => cases h; exact nil_row 0
      | 1, h => cases h; exact p1 1 1 (by omega)) ⟨1, by simp, rfl⟩
  · exact graph_no (by simp) (fun i => i == 0) (fun i v h => by
      match i, h with
      | 0, h => cases h; exact nil_row 0
      | 1, h => cases h; exact p2 0 0 1 (by omega)) ⟨1, by simp, rfl⟩
  · exact graph_no (by simp) (fun i => i == 0) (fun i v h => by
      match i, h with
      | 0, h => cases h; exact nil_row 0
      | 1, h => cases h; exact p1 (-1) 1 (by omega)) ⟨1, by simp, rfl⟩
  · exact run_ok rfl (e := [some (.d (.int 3)), none, none]) rfl
  · exact graph_no (by simp) (fun i => i != 2) (fun i v h => by
      match i, h with
      | 0, h => cases h; exact nil_row 0
      | 1, h => cases h; exact nil_row 1
      | 2, h => cases h; exact p2 1 0 2 (by omega)) ⟨2, by simp, rfl⟩
  · exact graph_no (by simp) (fun _ => false) (fun i v h => by
      match i, h with
      | 0, h => cases h; exact run_ok rfl (e := [some (.d .none), some (.d (.int 0)), none]) rfl) ⟨0, by simp, rfl⟩
abbrev xcG (d : D) : Xc := ⟨"InvalidGraph", [("value", d)]⟩
theorem check_no {d : D} (h : F_is_graph [d] = .ok (.d (.bool false)) []) : F_check_graph [d] = .exc (xcG d) [] := by
  refine run_exc rfl (e := [some (.d d)]) ?_
  unfold m_check_graph
  have t : mNotT (mB (mCall F_is_graph (mCons (mVar 0) (mNil)))) [some (.d d)] = .ok true [some (.d d)] := by
    rw [s_notT, s_B, v_call (v_cons (var_d rfl) v_nil) h rfl]
    rfl
  show mIfS _ _ _ [some (.d d)] = _
  rw [ifS_yes t]
  rfl
theorem chk_exc {d : D} (h : F_is_graph [d] = .ok (.d (.bool false)) []) {i : Nat} {en : En} (q : en[i]? = some (some (.d d))) (hf : frzAll en = en) : mExpr (mCall F_check_graph (mCons (mVar i) (mNil))) en = .exc (xcG d) en :=
  expr_exc (call_exc (v_cons (var_d q) v_nil) (check_no h) hf)
/-- the first of the two that is no graph -/
inductive Fst : D → D → D → Prop
  | one {a b : D} (h : F_is_graph [a] = .ok (.d (.bool false)) []) : Fst a b a
  | two {g : Gr} {b : D} (G : GOk g) (h : F_is_graph [b] = .ok (.d (.bool false)) []) : Fst (gD g) b b
theorem series_no {a b v : D} (h : Fst a b v) : F_in_series [a, b] = .exc (xcG v) [] := by
  refine run_exc rfl (e := [some (.d a), some (.d b), none, none, none, none]) ?_
  unfold m_in_series
  show mSeq _ _ [some (.d a), some (.d b), none, none, none, none] = _
  cases h with
  | one h => exact seq_exc (chk_exc h rfl rfl)
  | two G h => rw [seq_ok (chk_step G rfl)]; exact seq_exc (chk_exc h rfl rfl)
theorem parallel_no {a b v : D} (h : Fst a b v) : F_in_parallel [a, b] = .exc (xcG v) [] := by
  refine run_exc rfl (e := [some (.d a), some (.d b)]) ?_
  unfold m_in_parallel
  show mSeq _ _ [some (.d a), some (.d b)] = _
  cases h with
  | one h => exact seq_exc (chk_exc h rfl rfl)
  | two G h => rw [seq_ok (chk_step G rfl)]; exact seq_exc (chk_exc h rfl rfl)
noncomputable abbrev toB : M Ct := mSeq (mIfS (mTru (mVar 2)) (mRet (mTup (mCons (mC (.str "value")) (mCons (mCall F_in_series (mCons (mVar 0) (mCons (mVar 1) (mNil)))) (mNil))))) (mNx)) (mRet (mTup (mCons (mC (.str "value")) (mCons (mCall F_in_parallel (mCons (mVar 0) (mCons (mVar 1) (mNil)))) (mNil)))))
theorem told_def : m__law_told = mTry [("InvalidGraph", true)] 3 toB (fun xc => mRet (mTup (mCons (mC (.str "graph")) (mCons (mXf "InvalidGraph" 3 "value" xc) (mNil))))) := rfl
theorem told_ok {a b v : D} (h : Fst a b v) (z : Bool) : F__law_told [a, b, .bool z] = .ok (.d (.tuple [.str "graph", v])) [] := by
  have hb : toB [some (.d a), some (.d b), some (.d (.bool z)), none] = .exc (xcG v) [some (.d a), some (.d b), some (.d (.bool z)), none] := by
    unfold toB
    cases z with
    | true =>
      refine seq_exc ?_
      have t : mTru (mVar 2) [some (.d a), some (.d b), some (.d (.bool true)), none] = .ok true [some (.d a), some (.d b), some (.d (.bool true)), none] := rfl
      rw [ifS_yes t]
      exact ret_exc (tup2_exc (d := .str "value") rfl (call_exc (v_cons (var_d rfl) (v_cons (var_d rfl) v_nil)) (series_no h) rfl))
    | false =>
      have t : mTru (mVar 2) [some (.d a), some (.d b), some (.d (.bool false)), none] = .ok false [some (.d a), some (.d b), some (.d (.bool false)), none] := rfl
      rw [seq_ok (ifS_nx t)]
      exact ret_exc (tup2_exc (d := .str "value") rfl (call_exc (v_cons (var_d rfl) (v_cons (var_d rfl) v_nil)) (parallel_no h) rfl))
  have hh : mRet (mTup (mCons (mC (.str "graph")) (mCons (mXf "InvalidGraph" 3 "value" (xcG v)) (mNil)))) [some (.d a), some (.d b), some (.d (.bool z)), some (.bor 0)] = .ok (.rt (.d (.tuple [.str "graph", v]))) [some (.d a), some (.d b), some (.d (.bool z)), some (.bor 0)] := by
    have q : mfrz (mXf "InvalidGraph" 3 "value" (xcG v)) [some (.d a), some (.d b), some (.d (.bool z)), some (.bor 0)] = .ok (.d v) [some (.d a), some (.d b), some (.d (.bool z)), some (.bor 0)] := rfl
    rw [s_ret, v_tup (ds := [.str "graph", v]) (v_cons rfl (v_cons q v_nil)) (by simp)]
  refine run_ok rfl (e := [some (.d a), some (.d b), some (.d (.bool z)), none]) ?_
  have e1 : ([("InvalidGraph", true)] : List (Str × Bool)).lookup ("InvalidGraph" : Str) = some true := by decide
  rw [told_def]
  exact try_rt (i := 3) (x := xcG v) (en2 := [some (.d a), some (.d b), some (.d (.bool z)), some (.bor 0)]) hb e1 rfl hh rfl
theorem no_def : m__law_no_graph = mSeq (mSet 2 (mCall F__law_draws (mCons (mVar 0) (mCons (mVar 1) (mCons (mLst (mCons (mC (.int 8)) (mNil))) (mNil)))))) (mRet (mOp2 dIx (mLst (mCons (mC .none) (mCons (mTup (mCons (mTup (mCons (mC (.int 0)) (mNil))) (mNil))) (mCons (mTup (mCons (mTup (mNil)) (mCons (mTup (mCons (mC (.int 1)) (mNil))) (mNil)))) (mCons (mTup (mCons (mTup (mNil)) (mCons (mTup (mCons (mC (.int 0)) (mCons (mC (.int 0)) (mNil)))) (mNil)))) (mCons (mTup (mCons (mTup (mNil)) (mCons (mTup (mCons (mOp1 dNeg (mC (.int 1))) (mNil))) (mNil)))) (mCons (mC (.int 3)) (mCons (mTup (mCons (mTup (mNil)) (mCons (mTup (mNil)) (mCons (mTup (mCons (mC (.int 1)) (mCons (mC (.int 0)) (mNil)))) (mNil))))) (mCons (mTup (mCons (mC .none) (mNil))) (mNil)))))))))) (mOp2 dIx (mVar 2) (mC (.int 0))))) := rfl
theorem no_ok (ns : List Int) {k : Int} (k0 : 0 ≤ k) : ∃ d, F__law_no_graph [scrD ns, .int k] = .ok (.d d) [] ∧ d ∈ bads := by
  have B : K17.Bnds [8] := ⟨by simp, fun x hx => by simp at hx; omega, fun x hx => by simp at hx; omega⟩
  obtain ⟨sh, hd, hl, ha⟩ := K17.draws_ok ns k k0 [8] B
  match sh, hl with
  | [a], _ =>
    have ha0 := ha 0 a 8 rfl rfl
    have hlt : a.toNat < bads.length := by show _ < 8; omega
    have h1 : mSet 2 (mCall F__law_draws (mCons (mVar 0) (mCons (mVar 1) (mCons (mLst (mCons (mC (.int 8)) (mNil))) (mNil))))) [some (.d (scrD ns)), some (.d (.int k)), none] = .ok .nx [some (.d (scrD ns)), some (.d (.int k)), some (.own (.lst ([a].map .int)))] := by
      rw [set_own (call_own (v_cons (var_d rfl) (v_cons (var_d rfl) (v_cons (v_lst (ds := [.int 8]) (v_cons rfl v_nil) (by simp)) v_nil))) (looksA_ds _) hd (flats_ints [a]))]
      rfl
    have tp : ∀ {en : En} {r : M (List SV)} {ds : List D}, r en = .ok (ds.map SV.d) en → ds.length ≤ 1000 → mfrz (mTup r) en = .ok (.d (.tuple ds)) en := fun h hl => frz_d (v_tup h hl)
    have h2 : ∀ en : En, mfrz (mLst (mCons (mC .none) (mCons (mTup (mCons (mTup (mCons (mC (.int 0)) (mNil))) (mNil))) (mCons (mTup (mCons (mTup (mNil)) (mCons (mTup (mCons (mC (.int 1)) (mNil))) (mNil)))) (mCons (mTup (mCons (mTup (mNil)) (mCons (mTup (mCons (mC (.int 0)) (mCons (mC (.int 0)) (mNil)))) (mNil)))) (mCons (mTup (mCons (mTup (mNil)) (mCons (mTup (mCons (mOp1 dNeg (mC (.int 1))) (mNil))) (mNil)))) (mCons (mC (.int 3)) (mCons (mTup (mCons (mTup (mNil)) (mCons (mTup (mNil)) (mCons (mTup (mCons (mC (.int 1)) (mCons (mC (.int 0)) (mNil)))) (mNil))))) (mCons (mTup (mCons (mC .none) (mNil))) (mNil)))))))))) en = .ok (.d (.list bads)) en := fun en =>
      v_lst (ds := bads) (v_cons rfl (v_cons (tp (v_cons (tp (ds := [.int 0]) (v_cons rfl v_nil) (by simp)) v_nil) (by simp)) (v_cons (tp (v_cons (tp (ds := []) v_nil (by simp)) (v_cons (tp (ds := [.int 1]) (v_cons rfl v_nil) (by simp)) v_nil)) (by simp)) (v_cons (tp (v_cons (tp (ds := []) v_nil (by simp)) (v_cons (tp (ds := [.int 0, .int 0]) (v_cons rfl (v_cons rfl v_nil)) (by simp)) v_nil)) (by simp)) (v_cons (tp (v_cons (tp (ds := []) v_nil (by simp)) (v_cons (tp (ds := [.int (-1)]) (v_cons rfl v_nil) (by simp)) v_nil)) (by simp)) (v_cons rfl (v_cons (tp (v_cons (tp (ds := []) v_nil (by simp)) (v_cons (tp (ds := []) v_nil (by simp)) (v_cons (tp (ds := [.int 1, .int 0]) (v_cons rfl (v_cons rfl v_nil)) (by simp)) v_nil))) (by simp)) (v_cons (tp (ds := [.none]) (v_cons rfl v_nil) (by simp)) v_nil)))))))) (by decide)
    have h3 : mfrz (mOp2 dIx (mVar 2) (mC (.int 0))) [some (.d (scrD ns)), some (.d (.int k)), some (.own (.lst ([a].map .int)))] = .ok (.d (.int a)) [some (.d (scrD ns)), some (.d (.int k)), some (.own (.lst ([a].map .int)))] := rfl
    have e : ixD (.list bads) (.int a) = some bads[a.toNat] := atI_at ha0.1 (List.getElem?_eq_getElem hlt)
    refine ⟨bads[a.toNat], run_ok rfl (e := [some (.d (scrD ns)), some (.d (.int k)), some (.own (.lst ([a].map .int)))]) ?_, List.getElem_mem hlt⟩
    rw [no_def]
    show mSeq _ _ [some (.d (scrD ns)), some (.d (.int k)), none] = _
    rw [seq_ok h1, s_ret, op2_ok (h2 _) h3 rfl rfl, s_dIx, e]
end K17

namespace K17
open PySem PySem.Spec PyProof.Rows L2 KG
theorem lvl_row (n : Nat) {r : List Int} (hl : r.length ≤ 1000) : lvl (n + 2) (rowD r) = true := by
  show (((r.map PyData.int).all (lvl (n + 1))) && decide ((r.map PyData.int).length ≤ 1000000)) = true
  rw [Bool.and_eq_true, decide_eq_true_eq, List.length_map, List.all_map, List.all_eq_true]
  exact ⟨fun x _ => rfl, by omega⟩
theorem row_of {g : Gr} (G : GOk g) {r : List Int} (m : r ∈ g) : r.length ≤ 62 := by
  have hg := G.few
  obtain ⟨i, hi⟩ := List.mem_iff_getElem?.mp m
  have li : i < g.length := (List.getElem?_eq_some_iff.mp hi).1
  exact few_row (n := i) (by omega) (G.asc r m) (G.low i r hi)
theorem lvl_g (n : Nat) {g : Gr} (G : GOk g) : lvl (n + 3) (gD g) = true := by
  have hg := G.few
  show (((g.map rowD).all (lvl (n + 2))) && decide ((g.map rowD).length ≤ 1000000)) = true
  rw [Bool.and_eq_true, decide_eq_true_eq, List.length_map, List.all_map, List.all_eq_true]
  exact ⟨fun r m => lvl_row n (by have := row_of G m; omega), by omega⟩
theorem eq_step {en : En} {m1 m2 : M SV} {d : D} (h1 : mfrz m1 en = .ok (.d d) en) (h2 : mfrz m2 en = .ok (.d d) en) (hl : lvl 40 d = true) : mCall (F__law_equal 40) (mCons m1 (mCons m2 (mNil))) en = .ok (.d (.bool true)) en :=
  v_call (v_cons h1 (v_cons h2 v_nil)) (equal_refl 40 d hl) rfl
theorem isg_ok {g : Gr} (G : GOk g) : F_is_graph [gD g] = .ok (.d (.bool true)) [] := KG.graph_ok G
abbrev enR (g h : Gr) (s2 s3 s4 s5 s6 : Option SV) : En := [some (.d (gD g)), some (.d (gD h)), s2, s3, s4, s5, s6]
noncomputable abbrev r1 : M Ct := mIfS (mOrT (mNotT (mB (mCall (F__law_equal 40) (mCons (mVar 4) (mCons (mCall F__law_joined (mCons (mVar 0) (mCons (mVar 1) (mCons (mC (.bool true)) (mNil))))) (mNil)))))) (mNotT (mB (mCall (F__law_equal 40) (mCons (mVar 5) (mCons (mCall F__law_joined (mCons (mVar 0) (mCons (mVar 1) (mCons (mC (.bool false)) (mNil))))) (mNil))))))) (mRet (mC (.bool false))) (mNx)
noncomputable abbrev r2 : M Ct := mIfS (mOrT (mB (mOp2 dNis (mCall F_is_graph (mCons (mVar 4) (mNil))) (mC (.bool true)))) (mB (mOp2 dNis (mCall F_is_graph (mCons (mVar 5) (mNil))) (mC (.bool true))))) (mRet (mC (.bool false))) (mNx)
noncomputable abbrev r3B : M Ct := mIfS (mNotT (mB (mCall (F__law_equal 40) (mCons (mCall F_work (mCons (mVar 6) (mNil))) (mCons (mOp2 dAdd (mCallD (d1 dLen) (mCons (mVar 0) (mNil))) (mCallD (d1 dLen) (mCons (mVar 1) (mNil)))) (mNil)))))) (mRet (mC (.bool false))) (mNx)
noncomputable abbrev r4 : M Ct := mRet (mBV (mAndT (mB (mCall (F__law_equal 40) (mCons (mCall F_span (mCons (mVar 4) (mNil))) (mCons (mOp2 dAdd (mVar 2) (mVar 3)) (mNil))))) (mB (mCall (F__law_equal 40) (mCons (mCall F_span (mCons (mVar 5) (mNil))) (mCons (mOp2 dAdd (mVar 2) (mOp2 dMulL (mOp2 dSub (mVar 3) (mVar 2)) (mCallD (d1 dInt) (mCons (mOp2 dGt (mVar 3) (mVar 2)) (mNil))))) (mNil)))))))
theorem right_def : m__law_is_right = mSeq (mSet 2 (mCall F__law_span (mCons (mVar 0) (mNil)))) (mSeq (mSet 3 (mCall F__law_span (mCons (mVar 1) (mNil)))) (mSeq (mSet 4 (mCall F_in_series (mCons (mVar 0) (mCons (mVar 1) (mNil))))) (mSeq (mSet 5 (mCall F_in_parallel (mCons (mVar 0) (mCons (mVar 1) (mNil))))) (mSeq r1 (mSeq r2 (mSeq (mFor (.nm 6) [] (mLst (mCons (mVar 4) (mCons (mVar 5) (mNil)))) r3B) r4)))))) := rfl
theorem right_ok {g h : Gr} (G : GOk g) (H : GOk h) (hl : g.length + h.length ≤ 62) : F__law_is_right [gD g, gD h] = .ok (.d (.bool true)) [] := by
  have S := KG.ser_ok G H hl
  have P := KG.par_ok G H hl
  have h1 : mSet 2 (mCall F__law_span (mCons (mVar 0) (mNil))) (enR g h none none none none none) = .ok .nx (enR g h (some (.d (.int (sp g)))) none none none none) := by
    rw [set_d (v_call (v_cons (var_d rfl) v_nil) (lspan_ok G) rfl)]
    rfl
  have h2 : mSet 3 (mCall F__law_span (mCons (mVar 1) (mNil))) (enR g h (some (.d (.int (sp g)))) none none none none) = .ok .nx (enR g h (some (.d (.int (sp g)))) (some (.d (.int (sp h)))) none none none) := by
    rw [set_d (v_call (v_cons (var_d rfl) v_nil) (lspan_ok H) rfl)]
    rfl
  have h3 : mSet 4 (mCall F_in_series (mCons (mVar 0) (mCons (mVar 1) (mNil)))) (enR g h (some (.d (.int (sp g)))) (some (.d (.int (sp h)))) none none none) = .ok .nx (enR g h (some (.d (.int (sp g)))) (some (.d (.int (sp h)))) (some (.d (gD (ser g h)))) none none) := by
    rw [set_d (v_call (v_cons (var_d rfl) (v_cons (var_d rfl) v_nil)) (series_ok G H) (flat_g _))]
    rfl
  have h4 : mSet 5 (mCall F_in_parallel (mCons (mVar 0) (mCons (mVar 1) (mNil)))) (enR g h (some (.d (.int (sp g)))) (some (.d (.int (sp h)))) (some (.d (gD (ser g h)))) none none) = .ok .nx (enR g h (some (.d (.int (sp g)))) (some (.d (.int (sp h)))) (some (.d (gD (ser g h)))) (some (.d (gD (par g h)))) none) := by
    rw [set_d (v_call (v_cons (var_d rfl) (v_cons (var_d rfl) v_nil)) (parallel_ok G H) (flat_g _))]
    rfl
  generalize hen : enR g h (some (.d (.int (sp g)))) (some (.d (.int (sp h)))) (some (.d (gD (ser g h)))) (some (.d (gD (par g h)))) none = en at h4
  have v0 : en[0]? = some (some (.d (gD g))) := by subst hen; rfl
  have v1 : en[1]? = some (some (.d (gD h))) := by subst hen; rfl
  have v4 : en[4]? = some (some (.d (gD (ser g h)))) := by subst hen; rfl
  have v5 : en[5]? = some (some (.d (gD (par g h)))) := by subst hen; rfl
  have h5 : r1 en = .ok .nx en := by
    have a1 : mfrz (mCall F__law_joined (mCons (mVar 0) (mCons (mVar 1) (mCons (mC (.bool true)) (mNil))))) en = .ok (.d (gD (ser g h))) en := frz_d (v_call (v_cons (var_d v0) (v_cons (var_d v1) (v_cons rfl v_nil))) (jser G H) (flat_g _))
    have a2 : mfrz (mCall F__law_joined (mCons (mVar 0) (mCons (mVar 1) (mCons (mC (.bool false)) (mNil))))) en = .ok (.d (gD (par g h))) en := frz_d (v_call (v_cons (var_d v0) (v_cons (var_d v1) (v_cons rfl v_nil))) (jpar G H) (flat_g _))
    unfold r1
    refine ifS_nx ?_
    rw [or_no (notB (eq_step (var_d v4) a1 (lvl_g 37 S)))]
    exact notB (eq_step (var_d v5) a2 (lvl_g 37 P))
  have h6 : r2 en = .ok .nx en := by
    have q : ∀ {i : Nat} {k : Gr}, GOk k → en[i]? = some (some (.d (gD k))) → mB (mOp2 dNis (mCall F_is_graph (mCons (mVar i) (mNil))) (mC (.bool true))) en = .ok false en := fun {i k} K hv => by
      rw [s_B, op2_ok (frz_d (v_call (v_cons (var_d hv) v_nil) (isg_ok K) rfl)) (b := .d (.bool true)) (e2 := en) rfl rfl rfl, s_dNis_b]
      rfl
    unfold r2
    refine ifS_nx ?_
    rw [or_no (q S v4)]
    exact q P v5
  obtain ⟨e', q1, s6, he⟩ := for_inv (tg := .nm 6) (body := r3B) (ds := [ser g h, par g h].map gD) (e := en)
    (fun _ e => ∃ s6, e = enR g h (some (.d (.int (sp g)))) (some (.d (.int (sp h)))) (some (.d (gD (ser g h)))) (some (.d (gD (par g h)))) s6) (fun i d e hi ⟨s6, he⟩ => by
      subst he
      obtain ⟨k, mk, rfl⟩ := List.mem_map.mp (List.mem_of_getElem? hi)
      have hk : GOk k ∧ k.length = g.length + h.length := by
        simp only [List.mem_cons, List.not_mem_nil, or_false] at mk
        rcases mk with rfl | rfl
        · exact ⟨S, ser_len g h⟩
        · exact ⟨P, par_len g h⟩
      refine ⟨enR g h (some (.d (.int (sp g)))) (some (.d (.int (sp h)))) (some (.d (gD (ser g h)))) (some (.d (gD (par g h)))) (some (.d (gD k))), enR g h (some (.d (.int (sp g)))) (some (.d (.int (sp h)))) (some (.d (gD (ser g h)))) (some (.d (gD (par g h)))) (some (.d (gD k))), rfl, .inl ?_, _, rfl⟩
      generalize hen' : enR g h (some (.d (.int (sp g)))) (some (.d (.int (sp h)))) (some (.d (gD (ser g h)))) (some (.d (gD (par g h)))) (some (.d (gD k))) = en'
      have w0 : en'[0]? = some (some (.d (gD g))) := by subst hen'; rfl
      have w1 : en'[1]? = some (some (.d (gD h))) := by subst hen'; rfl
      have w6 : en'[6]? = some (some (.d (gD k))) := by subst hen'; rfl
      have a1 : mfrz (mCall F_work (mCons (mVar 6) (mNil))) en' = .ok (.d (.int (k.length : Nat))) en' := frz_d (v_call (v_cons (var_d w6) v_nil) (work_ok hk.1) rfl)
      have a2 : mfrz (mOp2 dAdd (mCallD (d1 dLen) (mCons (mVar 0) (mNil))) (mCallD (d1 dLen) (mCons (mVar 1) (mNil)))) en' = .ok (.d (.int (k.length : Nat))) en' := by
        refine frz_d ?_
        rw [op2_ok (len_step w0) (len_step w1) rfl rfl, s_dAdd_i, hk.2]
        rfl
      unfold r3B
      exact ifS_nx (notB (eq_step a1 a2 rfl))) ⟨none, hen.symm⟩
  subst he
  have h7 : mFor (.nm 6) [] (mLst (mCons (mVar 4) (mCons (mVar 5) (mNil)))) r3B en = .ok .nx (enR g h (some (.d (.int (sp g)))) (some (.d (.int (sp h)))) (some (.d (gD (ser g h)))) (some (.d (gD (par g h)))) s6) := by
    rw [s_for, v_lst (ds := [gD (ser g h), gD (par g h)]) (v_cons (var_d v4) (v_cons (var_d v5) v_nil)) (by simp)]
    exact q1
  refine run_ok rfl (e := enR g h (some (.d (.int (sp g)))) (some (.d (.int (sp h)))) (some (.d (gD (ser g h)))) (some (.d (gD (par g h)))) s6) ?_
  rw [right_def]
  show mSeq _ _ (enR g h none none none none none) = _
  rw [seq_ok h1, seq_ok h2, seq_ok h3, seq_ok h4, seq_ok h5, seq_ok h6, seq_ok h7]
  generalize hen2 : enR g h (some (.d (.int (sp g)))) (some (.d (.int (sp h)))) (some (.d (gD (ser g h)))) (some (.d (gD (par g h)))) s6 = en2
  have w2 : en2[2]? = some (some (.d (.int (sp g)))) := by subst hen2; rfl
  have w3 : en2[3]? = some (some (.d (.int (sp h)))) := by subst hen2; rfl
  have w4 : en2[4]? = some (some (.d (gD (ser g h)))) := by subst hen2; rfl
  have w5 : en2[5]? = some (some (.d (gD (par g h)))) := by subst hen2; rfl
  have b1 : mCall (F__law_equal 40) (mCons (mCall F_span (mCons (mVar 4) (mNil))) (mCons (mOp2 dAdd (mVar 2) (mVar 3)) (mNil))) en2 = .ok (.d (.bool true)) en2 := by
    refine eq_step (d := .int (sp g + sp h)) (frz_d ?_) (frz_d ?_) rfl
    · have := span_ok S
      rw [sp_ser G H] at this
      exact v_call (v_cons (var_d w4) v_nil) this rfl
    · rw [op2_ok (var_d w2) (var_d w3) rfl rfl, s_dAdd_i]
      rfl
  have b2 : mCall (F__law_equal 40) (mCons (mCall F_span (mCons (mVar 5) (mNil))) (mCons (mOp2 dAdd (mVar 2) (mOp2 dMulL (mOp2 dSub (mVar 3) (mVar 2)) (mCallD (d1 dInt) (mCons (mOp2 dGt (mVar 3) (mVar 2)) (mNil))))) (mNil))) en2 = .ok (.d (.bool true)) en2 := by
    refine eq_step (d := .int (if sp g < sp h then sp h else sp g)) (frz_d ?_) (frz_d ?_) rfl
    · have := span_ok P
      rw [sp_par H] at this
      exact v_call (v_cons (var_d w5) v_nil) this rfl
    · have c1 : mfrz (mOp2 dGt (mVar 3) (mVar 2)) en2 = .ok (.d (.bool (decide (sp g < sp h)))) en2 := by
        refine frz_d ?_
        rw [op2_ok (var_d w3) (var_d w2) rfl rfl, s_dGt_i]
        rfl
      have c2 : mfrz (mCallD (d1 dInt) (mCons (mOp2 dGt (mVar 3) (mVar 2)) (mNil))) en2 = .ok (.d (.int (if decide (sp g < sp h) = true then 1 else 0))) en2 := by
        refine frz_d ?_
        rw [callD_ok (v_cons c1 v_nil) (looks_ds _), s_d1, s_dInt_b]
        rfl
      have c3 : mfrz (mOp2 dSub (mVar 3) (mVar 2)) en2 = .ok (.d (.int (sp h - sp g))) en2 := by
        refine frz_d ?_
        rw [op2_ok (var_d w3) (var_d w2) rfl rfl, s_sub]
        rfl
      have c4 : mfrz (mOp2 dMulL (mOp2 dSub (mVar 3) (mVar 2)) (mCallD (d1 dInt) (mCons (mOp2 dGt (mVar 3) (mVar 2)) (mNil)))) en2 = .ok (.d (.int ((sp h - sp g) * if decide (sp g < sp h) = true then 1 else 0))) en2 := by
        refine frz_d ?_
        rw [op2_ok c3 c2 rfl rfl, s_mul, if_pos (.inr (by split <;> decide))]
      rw [op2_ok (var_d w2) c4 rfl rfl, s_dAdd_i]
      by_cases c : sp g < sp h
      · rw [if_pos c, if_pos (decide_eq_true c), Int.mul_one, show sp g + (sp h - sp g) = sp h by omega]
        rfl
      · rw [if_neg c, if_neg (by rw [decide_eq_false c]; exact Bool.false_ne_true), Int.mul_zero, Int.add_zero]
        rfl
  have b3 : mB (mCall (F__law_equal 40) (mCons (mCall F_span (mCons (mVar 4) (mNil))) (mCons (mOp2 dAdd (mVar 2) (mVar 3)) (mNil)))) en2 = .ok true en2 := by rw [s_B, b1]
  have b4 : mB (mCall (F__law_equal 40) (mCons (mCall F_span (mCons (mVar 5) (mNil))) (mCons (mOp2 dAdd (mVar 2) (mOp2 dMulL (mOp2 dSub (mVar 3) (mVar 2)) (mCallD (d1 dInt) (mCons (mOp2 dGt (mVar 3) (mVar 2)) (mNil))))) (mNil)))) en2 = .ok true en2 := by rw [s_B, b2]
  unfold r4
  rw [s_ret, s_BV, and_yes b3, b4]
end K17

namespace K17
open PySem PySem.Spec PyProof.Rows L2 KG
theorem bad_lvl : ∀ d ∈ bads, lvl 39 d = true := by decide
theorem bad_flat : ∀ d ∈ bads, flat d = true := by decide
theorem lvl_pair {d : D} (h : lvl 39 d = true) : lvl 40 (.tuple [.str "graph", d]) = true := by
  show ([PyData.str "graph", d].all (lvl 39) && decide ([PyData.str "graph", d].length ≤ 1000000)) = true
  rw [Bool.and_eq_true, decide_eq_true_eq, List.all_cons, List.all_cons, List.all_nil, h]
  exact ⟨rfl, by simp⟩
abbrev enA (ns : List Int) (g h : Gr) (s3 s4 s5 s6 s7 : Option SV) : En := [some (.d (scrD ns)), some (.d (gD g)), some (.d (gD h)), s3, s4, s5, s6, s7]
noncomputable abbrev a3B : M Ct := mIfS (mNotT (mB (mCall F__law_is_right (mCons (mOp2 dIx (mVar 3) (mC (.int 0))) (mCons (mOp2 dIx (mVar 3) (mC (.int 1))) (mNil)))))) (mRet (mC (.bool false))) (mNx)
noncomputable abbrev a3L : M SV := mLst (mCons (mTup (mCons (mVar 1) (mCons (mVar 2) (mNil)))) (mCons (mTup (mCons (mVar 2) (mCons (mVar 1) (mNil)))) (mCons (mTup (mCons (mVar 1) (mCons (mVar 1) (mNil)))) (mCons (mTup (mCons (mVar 1) (mCons (mTup (mNil)) (mNil)))) (mCons (mTup (mCons (mTup (mNil)) (mCons (mVar 2) (mNil)))) (mNil))))))
noncomputable abbrev a4 : M Ct := mSet 4 (mCall F_in_series (mCons (mCall F_in_series (mCons (mVar 1) (mCons (mVar 2) (mNil)))) (mCons (mVar 1) (mNil))))
noncomputable abbrev a5 : M Ct := mIfS (mNotT (mB (mCall (F__law_equal 40) (mCons (mVar 4) (mCons (mCall F__law_joined (mCons (mCall F__law_joined (mCons (mVar 1) (mCons (mVar 2) (mCons (mC (.bool true)) (mNil))))) (mCons (mVar 1) (mCons (mC (.bool true)) (mNil))))) (mNil)))))) (mRet (mC (.bool false))) (mNx)
noncomputable abbrev a6 : M Ct := mIfS (mNotT (mB (mCall (F__law_equal 40) (mCons (mCall F_in_series (mCons (mVar 1) (mCons (mCall F_in_series (mCons (mVar 2) (mCons (mVar 1) (mNil)))) (mNil)))) (mCons (mVar 4) (mNil)))))) (mRet (mC (.bool false))) (mNx)
noncomputable abbrev a9B : M Ct := mSeq (mIfS (mNotT (mB (mCall (F__law_equal 40) (mCons (mCall F__law_told (mCons (mVar 5) (mCons (mVar 6) (mCons (mVar 7) (mNil))))) (mCons (mTup (mCons (mC (.str "graph")) (mCons (mVar 5) (mNil)))) (mNil)))))) (mRet (mC (.bool false))) (mNx)) (mIfS (mNotT (mB (mCall (F__law_equal 40) (mCons (mCall F__law_told (mCons (mVar 1) (mCons (mVar 6) (mCons (mVar 7) (mNil))))) (mCons (mTup (mCons (mC (.str "graph")) (mCons (mVar 6) (mNil)))) (mNil)))))) (mRet (mC (.bool false))) (mNx))
theorem law_def : m_law = mSeq (mSet 1 (mCall F__law_graph (mCons (mVar 0) (mCons (mC (.int 0)) (mCons (mC (.int 9)) (mNil)))))) (mSeq (mSet 2 (mCall F__law_graph (mCons (mVar 0) (mCons (mC (.int 20)) (mCons (mC (.int 9)) (mNil)))))) (mSeq (mFor (.nm 3) [] a3L a3B) (mSeq a4 (mSeq a5 (mSeq a6 (mSeq (mSet 5 (mCall F__law_no_graph (mCons (mVar 0) (mCons (mC (.int 40)) (mNil))))) (mSeq (mSet 6 (mCall F__law_no_graph (mCons (mVar 0) (mCons (mC (.int 41)) (mNil))))) (mSeq (mFor (.nm 7) [] (mLst (mCons (mC (.bool true)) (mCons (mC (.bool false)) (mNil)))) a9B) (mRet (mC (.bool true))))))))))) := rfl
def pairD (p : Gr × Gr) : D := .tuple [gD p.1, gD p.2]
theorem math (ns : List Int) (hn : ns.length ≤ 63) : ∃ en, F_law [scrD ns] = .ok (.d (.bool true)) en := by
  obtain ⟨g, hg, G, lg⟩ := graph_drawn ns (k := 0) (most := 9) (by omega) (by omega) (by omega)
  obtain ⟨h, hh, H, lh⟩ := graph_drawn ns (k := 20) (most := 9) (by omega) (by omega) (by omega)
  obtain ⟨x, hx, bx⟩ := no_ok ns (k := 40) (by omega)
  obtain ⟨y, hy, by'⟩ := no_ok ns (k := 41) (by omega)
  have S := KG.ser_ok G H (by omega)
  have T := KG.ser_ok H G (by omega)
  have sl := ser_len g h
  have tl := ser_len h g
  have U := KG.ser_ok S G (by omega)
  have h1 : mSet 1 (mCall F__law_graph (mCons (mVar 0) (mCons (mC (.int 0)) (mCons (mC (.int 9)) (mNil))))) [some (.d (scrD ns)), none, none, none, none, none, none, none] = .ok .nx [some (.d (scrD ns)), some (.d (gD g)), none, none, none, none, none, none] := by
    rw [set_d (v_call (v_cons (var_d rfl) (v_cons rfl (v_cons rfl v_nil))) hg (flat_g _))]
    rfl
  have h2 : mSet 2 (mCall F__law_graph (mCons (mVar 0) (mCons (mC (.int 20)) (mCons (mC (.int 9)) (mNil))))) [some (.d (scrD ns)), some (.d (gD g)), none, none, none, none, none, none] = .ok .nx (enA ns g h none none none none none) := by
    rw [set_d (v_call (v_cons (var_d rfl) (v_cons rfl (v_cons rfl v_nil))) hh (flat_g _))]
    rfl
  obtain ⟨e', q1, s3, he⟩ := for_inv (tg := .nm 3) (body := a3B) (ds := [(g, h), (h, g), (g, g), (g, []), ([], h)].map pairD) (e := enA ns g h none none none none none)
    (fun _ e => ∃ s3, e = enA ns g h s3 none none none none) (fun i d e hi ⟨s3, he⟩ => by
      subst he
      obtain ⟨p, mp, rfl⟩ := List.mem_map.mp (List.mem_of_getElem? hi)
      have hp : GOk p.1 ∧ GOk p.2 ∧ p.1.length + p.2.length ≤ 62 := by
        simp only [List.mem_cons, List.not_mem_nil, or_false] at mp
        rcases mp with rfl | rfl | rfl | rfl | rfl
        · exact ⟨G, H, by dsimp only; omega⟩
        · exact ⟨H, G, by dsimp only; omega⟩
        · exact ⟨G, G, by dsimp only; omega⟩
        · exact ⟨G, gok_nil, by simp only [List.length_nil]; omega⟩
        · exact ⟨gok_nil, H, by simp only [List.length_nil]; omega⟩
      refine ⟨enA ns g h (some (.d (pairD p))) none none none none, enA ns g h (some (.d (pairD p))) none none none none, rfl, .inl ?_, _, rfl⟩
      generalize hen : enA ns g h (some (.d (pairD p))) none none none none = en
      have v3 : en[3]? = some (some (.d (pairD p))) := by subst hen; rfl
      have b0 : mfrz (mOp2 dIx (mVar 3) (mC (.int 0))) en = .ok (.d (gD p.1)) en := by
        refine frz_d ?_
        rw [op2_ok (var_d v3) (b := .d (.int 0)) (e2 := en) rfl rfl rfl, s_dIx]
        rfl
      have b1 : mfrz (mOp2 dIx (mVar 3) (mC (.int 1))) en = .ok (.d (gD p.2)) en := by
        refine frz_d ?_
        rw [op2_ok (var_d v3) (b := .d (.int 1)) (e2 := en) rfl rfl rfl, s_dIx]
        rfl
      unfold a3B
      exact ifS_nx (notB (v_call (v_cons b0 (v_cons b1 v_nil)) (right_ok hp.1 hp.2.1 hp.2.2) rfl))) ⟨none, rfl⟩
  subst he
  have h3 : mFor (.nm 3) [] a3L a3B (enA ns g h none none none none none) = .ok .nx (enA ns g h s3 none none none none) := by
    have tp : ∀ {m1 m2 : M SV} {p : Gr × Gr} {en : En}, mfrz m1 en = .ok (.d (gD p.1)) en → mfrz m2 en = .ok (.d (gD p.2)) en → mfrz (mTup (mCons m1 (mCons m2 (mNil)))) en = .ok (.d (pairD p)) en := fun {m1 m2 p en} c1 c2 => frz_d (v_tup (ds := [gD p.1, gD p.2]) (v_cons c1 (v_cons c2 v_nil)) (by simp))
    have c1 : mfrz (mVar 1) (enA ns g h none none none none none) = .ok (.d (gD g)) (enA ns g h none none none none none) := rfl
    have c2 : mfrz (mVar 2) (enA ns g h none none none none none) = .ok (.d (gD h)) (enA ns g h none none none none none) := rfl
    have c0 : mfrz (mTup (mNil)) (enA ns g h none none none none none) = .ok (.d (gD [])) (enA ns g h none none none none none) := frz_d (v_tup (ds := []) v_nil (by simp))
    have c : mfrz a3L (enA ns g h none none none none none) = .ok (.d (.list ([(g, h), (h, g), (g, g), (g, []), ([], h)].map pairD))) (enA ns g h none none none none none) :=
      v_lst (v_cons (tp (p := (g, h)) c1 c2) (v_cons (tp (p := (h, g)) c2 c1) (v_cons (tp (p := (g, g)) c1 c1) (v_cons (tp (p := (g, [])) c1 c0) (v_cons (tp (p := ([], h)) c0 c2) v_nil))))) (by simp)
    rw [s_for, c]
    exact q1
  have h4 : a4 (enA ns g h s3 none none none none) = .ok .nx (enA ns g h s3 (some (.d (gD (ser (ser g h) g)))) none none none) := by
    have c : mfrz (mCall F_in_series (mCons (mVar 1) (mCons (mVar 2) (mNil)))) (enA ns g h s3 none none none none) = .ok (.d (gD (ser g h))) (enA ns g h s3 none none none none) := frz_d (v_call (v_cons (var_d rfl) (v_cons (var_d rfl) v_nil)) (series_ok G H) (flat_g _))
    unfold a4
    rw [set_d (v_call (v_cons c (v_cons (var_d rfl) v_nil)) (series_ok S G) (flat_g _))]
    rfl
  generalize hen : enA ns g h s3 (some (.d (gD (ser (ser g h) g)))) none none none = en at h4
  have v1 : en[1]? = some (some (.d (gD g))) := by subst hen; rfl
  have v2 : en[2]? = some (some (.d (gD h))) := by subst hen; rfl
  have v4 : en[4]? = some (some (.d (gD (ser (ser g h) g)))) := by subst hen; rfl
  have h5 : a5 en = .ok .nx en := by
    have c : mfrz (mCall F__law_joined (mCons (mVar 1) (mCons (mVar 2) (mCons (mC (.bool true)) (mNil))))) en = .ok (.d (gD (ser g h))) en := frz_d (v_call (v_cons (var_d v1) (v_cons (var_d v2) (v_cons rfl v_nil))) (jser G H) (flat_g _))
    have c2 : mfrz (mCall F__law_joined (mCons (mCall F__law_joined (mCons (mVar 1) (mCons (mVar 2) (mCons (mC (.bool true)) (mNil))))) (mCons (mVar 1) (mCons (mC (.bool true)) (mNil))))) en = .ok (.d (gD (ser (ser g h) g))) en := frz_d (v_call (v_cons c (v_cons (var_d v1) (v_cons rfl v_nil))) (jser S G) (flat_g _))
    unfold a5
    exact ifS_nx (notB (eq_step (var_d v4) c2 (lvl_g 37 U)))
  have h6 : a6 en = .ok .nx en := by
    have c : mfrz (mCall F_in_series (mCons (mVar 2) (mCons (mVar 1) (mNil)))) en = .ok (.d (gD (ser h g))) en := frz_d (v_call (v_cons (var_d v2) (v_cons (var_d v1) v_nil)) (series_ok H G) (flat_g _))
    have z := series_ok G T
    rw [← ser_assoc G H] at z
    have c2 : mfrz (mCall F_in_series (mCons (mVar 1) (mCons (mCall F_in_series (mCons (mVar 2) (mCons (mVar 1) (mNil)))) (mNil)))) en = .ok (.d (gD (ser (ser g h) g))) en := frz_d (v_call (v_cons (var_d v1) (v_cons c v_nil)) z (flat_g _))
    unfold a6
    exact ifS_nx (notB (eq_step c2 (var_d v4) (lvl_g 37 U)))
  have h7 : mSet 5 (mCall F__law_no_graph (mCons (mVar 0) (mCons (mC (.int 40)) (mNil)))) en = .ok .nx (enA ns g h s3 (some (.d (gD (ser (ser g h) g)))) (some (.d x)) none none) := by
    subst hen
    rw [set_d (v_call (v_cons (var_d rfl) (v_cons rfl v_nil)) hx (bad_flat x bx))]
    rfl
  have h8 : mSet 6 (mCall F__law_no_graph (mCons (mVar 0) (mCons (mC (.int 41)) (mNil)))) (enA ns g h s3 (some (.d (gD (ser (ser g h) g)))) (some (.d x)) none none) = .ok .nx (enA ns g h s3 (some (.d (gD (ser (ser g h) g)))) (some (.d x)) (some (.d y)) none) := by
    rw [set_d (v_call (v_cons (var_d rfl) (v_cons rfl v_nil)) hy (bad_flat y by'))]
    rfl
  obtain ⟨e', q2, s7, he⟩ := for_inv (tg := .nm 7) (body := a9B) (ds := [true, false].map PyData.bool) (e := enA ns g h s3 (some (.d (gD (ser (ser g h) g)))) (some (.d x)) (some (.d y)) none)
    (fun _ e => ∃ s7, e = enA ns g h s3 (some (.d (gD (ser (ser g h) g)))) (some (.d x)) (some (.d y)) s7) (fun i d e hi ⟨s7, he⟩ => by
      subst he
      obtain ⟨z, mz, rfl⟩ := List.mem_map.mp (List.mem_of_getElem? hi)
      refine ⟨enA ns g h s3 (some (.d (gD (ser (ser g h) g)))) (some (.d x)) (some (.d y)) (some (.d (.bool z))), enA ns g h s3 (some (.d (gD (ser (ser g h) g)))) (some (.d x)) (some (.d y)) (some (.d (.bool z))), rfl, .inl ?_, _, rfl⟩
      generalize hen2 : enA ns g h s3 (some (.d (gD (ser (ser g h) g)))) (some (.d x)) (some (.d y)) (some (.d (.bool z))) = en2
      have w1 : en2[1]? = some (some (.d (gD g))) := by subst hen2; rfl
      have w5 : en2[5]? = some (some (.d x)) := by subst hen2; rfl
      have w6 : en2[6]? = some (some (.d y)) := by subst hen2; rfl
      have w7 : en2[7]? = some (some (.d (.bool z))) := by subst hen2; rfl
      have fl : ∀ {d : D}, d ∈ bads → flat (.tuple [.str "graph", d]) = true := fun {d} m => by
        show (flat (.str "graph") && (flat d && flats [])) = true
        rw [bad_flat d m]
        rfl
      have d1 : mfrz (mCall F__law_told (mCons (mVar 5) (mCons (mVar 6) (mCons (mVar 7) (mNil))))) en2 = .ok (.d (.tuple [.str "graph", x])) en2 := frz_d (v_call (v_cons (var_d w5) (v_cons (var_d w6) (v_cons (var_d w7) v_nil))) (told_ok (.one (bad_ok x bx)) z) (fl bx))
      have d2 : mfrz (mTup (mCons (mC (.str "graph")) (mCons (mVar 5) (mNil)))) en2 = .ok (.d (.tuple [.str "graph", x])) en2 := frz_d (v_tup (ds := [.str "graph", x]) (v_cons rfl (v_cons (var_d w5) v_nil)) (by simp))
      have d3 : mfrz (mCall F__law_told (mCons (mVar 1) (mCons (mVar 6) (mCons (mVar 7) (mNil))))) en2 = .ok (.d (.tuple [.str "graph", y])) en2 := frz_d (v_call (v_cons (var_d w1) (v_cons (var_d w6) (v_cons (var_d w7) v_nil))) (told_ok (.two G (bad_ok y by')) z) (fl by'))
      have d4 : mfrz (mTup (mCons (mC (.str "graph")) (mCons (mVar 6) (mNil)))) en2 = .ok (.d (.tuple [.str "graph", y])) en2 := frz_d (v_tup (ds := [.str "graph", y]) (v_cons rfl (v_cons (var_d w6) v_nil)) (by simp))
      unfold a9B
      rw [seq_ok (ifS_nx (notB (eq_step d1 d2 (lvl_pair (bad_lvl x bx)))))]
      exact ifS_nx (notB (eq_step d3 d4 (lvl_pair (bad_lvl y by'))))) ⟨none, rfl⟩
  subst he
  have h9 : mFor (.nm 7) [] (mLst (mCons (mC (.bool true)) (mCons (mC (.bool false)) (mNil)))) a9B (enA ns g h s3 (some (.d (gD (ser (ser g h) g)))) (some (.d x)) (some (.d y)) none) = .ok .nx (enA ns g h s3 (some (.d (gD (ser (ser g h) g)))) (some (.d x)) (some (.d y)) s7) := by
    rw [s_for, v_lst (ds := [true, false].map PyData.bool) (v_cons rfl (v_cons rfl v_nil)) (by simp)]
    exact q2
  refine ⟨[], run_ok rfl (e := enA ns g h s3 (some (.d (gD (ser (ser g h) g)))) (some (.d x)) (some (.d y)) s7) ?_⟩
  rw [law_def]
  show mSeq _ _ [some (.d (scrD ns)), none, none, none, none, none, none, none] = _
  rw [seq_ok h1, seq_ok h2, seq_ok h3, seq_ok h4, seq_ok h5, seq_ok h6, seq_ok h7, seq_ok h8, seq_ok h9]
  rfl
end K17

open PySem PySem.W PyProof.Rows
set_option maxHeartbeats 0 in
theorem PySem.Challenge.cw_forkspan_k17_series_and_parallel_holds : PySem.Challenge.rw_forkspan_k17_series_and_parallel.Holds := by
  w_on; o_law; k_head; (case hw => w_witness2)
  k_fill
  refine L2.walk_of (l := PySem.Challenge.rw_forkspan_k17_series_and_parallel) (n := 63) (k := 42) (x := "script") (CX := fun w => L2N.CX PySem.Challenge.rw_forkspan_k17_series_and_parallel.prog w) (sp := fun w => L2.spLaw _) rfl (by decide) rfl ⟨rfl, by decide, by decide⟩ (fun w h Y => PySem.W.kIn_of Y) ?F (fun _ _ a ns hl _ hS => ⟨a, ns, rfl, hl, hS, fun _ => rfl⟩) (fun _ _ _ _ _ h => L2.cx_no h)
  case F =>
    intro w mg fa h KX G hmg
    refine' K17.all_mk K17.math KX G hmg ?p_is_integer ?l_is_integer ?c_is_integer ?k_is_integer ?p_is_row ?l_is_row ?c_is_row ?k_is_row ?p_is_graph ?l_is_graph ?c_is_graph ?k_is_graph ?p_check_graph ?l_check_graph ?c_check_graph ?k_check_graph ?p_work ?l_work ?c_work ?k_work ?p_heads ?l_heads ?c_heads ?k_heads ?p_tails ?l_tails ?c_tails ?k_tails ?p_span ?l_span ?c_span ?k_span ?p_moved ?l_moved ?c_moved ?k_moved ?p_in_series ?l_in_series ?c_in_series ?k_in_series ?p_in_parallel ?l_in_parallel ?c_in_parallel ?k_in_parallel ?p__law_draws ?l__law_draws ?c__law_draws ?k__law_draws ?p__law_equal ?l__law_equal ?c__law_equal ?k__law_equal ?p__law_graph ?l__law_graph ?c__law_graph ?k__law_graph ?p__law_heads ?l__law_heads ?c__law_heads ?k__law_heads ?p__law_span ?l__law_span ?c__law_span ?k__law_span ?p__law_no_graph ?l__law_no_graph ?c__law_no_graph ?k__law_no_graph ?p__law_joined ?l__law_joined ?c__law_joined ?k__law_joined ?p__law_told ?l__law_told ?c__law_told ?k__law_told ?p__law_is_right ?l__law_is_right ?c__law_is_right ?k__law_is_right ?p_law ?l_law ?c_law ?k_law ?z_all ?z_bool ?z_enumerate ?z_int ?z_isinstance ?z_len ?z_list ?z_max ?z_range ?z_reversed ?z_set ?z_sorted ?z_str ?z_tuple ?pC_InvalidGraph ?xC_InvalidGraph ?vC_InvalidGraph ?sa_InvalidGraph ?ga_InvalidGraph ?gg_InvalidGraph ?nf_InvalidGraph_value ?iC_InvalidGraph ?tI_InvalidGraph ?lI_InvalidGraph ?cI_InvalidGraph ?kI_InvalidGraph ?kC_InvalidGraph ?eC_InvalidGraph ?tC_InvalidGraph ?hC_InvalidGraph ?jC_InvalidGraph ?sC_InvalidGraph
    (case p_is_integer => k_is)
    (case l_is_integer => k_is)
    (case c_is_integer => k_is)
    (case k_is_integer => k_is)
    (case p_is_row => k_is)
    (case l_is_row => k_is)
    (case c_is_row => k_is)
    (case k_is_row => k_is)
    (case p_is_graph => k_is)
    (case l_is_graph => k_is)
    (case c_is_graph => k_is)
    (case k_is_graph => k_is)
    (case p_check_graph => k_is)
    (case l_check_graph => k_is)
    (case c_check_graph => k_is)
    (case k_check_graph => k_is)
    (case p_work => k_is)
    (case l_work => k_is)
    (case c_work => k_is)
    (case k_work => k_is)
    (case p_heads => k_is)
    (case l_heads => k_is)
    (case c_heads => k_is)
    (case k_heads => k_is)
    (case p_tails => k_is)
    (case l_tails => k_is)
    (case c_tails => k_is)
    (case k_tails => k_is)
    (case p_span => k_is)
    (case l_span => k_is)
    (case c_span => k_is)
    (case k_span => k_is)
    (case p_moved => k_is)
    (case l_moved => k_is)
    (case c_moved => k_is)
    (case k_moved => k_is)
    (case p_in_series => k_is)
    (case l_in_series => k_is)
    (case c_in_series => k_is)
    (case k_in_series => k_is)
    (case p_in_parallel => k_is)
    (case l_in_parallel => k_is)
    (case c_in_parallel => k_is)
    (case k_in_parallel => k_is)
    (case p__law_draws => k_is)
    (case l__law_draws => k_is)
    (case c__law_draws => k_is)
    (case k__law_draws => k_is)
    (case p__law_equal => k_is)
    (case l__law_equal => k_is)
    (case c__law_equal => k_is)
    (case k__law_equal => k_is)
    (case p__law_graph => k_is)
    (case l__law_graph => k_is)
    (case c__law_graph => k_is)
    (case k__law_graph => k_is)
    (case p__law_heads => k_is)
    (case l__law_heads => k_is)
    (case c__law_heads => k_is)
    (case k__law_heads => k_is)
    (case p__law_span => k_is)
    (case l__law_span => k_is)
    (case c__law_span => k_is)
    (case k__law_span => k_is)
    (case p__law_no_graph => k_is)
    (case l__law_no_graph => k_is)
    (case c__law_no_graph => k_is)
    (case k__law_no_graph => k_is)
    (case p__law_joined => k_is)
    (case l__law_joined => k_is)
    (case c__law_joined => k_is)
    (case k__law_joined => k_is)
    (case p__law_told => k_is)
    (case l__law_told => k_is)
    (case c__law_told => k_is)
    (case k__law_told => k_is)
    (case p__law_is_right => k_is)
    (case l__law_is_right => k_is)
    (case c__law_is_right => k_is)
    (case k__law_is_right => k_is)
    (case p_law => k_is)
    (case l_law => k_is)
    (case c_law => k_is)
    (case k_law => k_is)
    (case z_all => k_is)
    (case z_bool => k_is)
    (case z_enumerate => k_is)
    (case z_int => k_is)
    (case z_isinstance => k_is)
    (case z_len => k_is)
    (case z_list => k_is)
    (case z_max => k_is)
    (case z_range => k_is)
    (case z_reversed => k_is)
    (case z_set => k_is)
    (case z_sorted => k_is)
    (case z_str => k_is)
    (case z_tuple => k_is)
    (case pC_InvalidGraph => k_is)
    (case xC_InvalidGraph => k_is)
    (case vC_InvalidGraph => first | rfl | k_is)
    (case sa_InvalidGraph => k_is)
    (case ga_InvalidGraph => k_is)
    (case gg_InvalidGraph => k_is)
    (case nf_InvalidGraph_value => k_is)
    (case iC_InvalidGraph => k_is)
    (case tI_InvalidGraph => k_is)
    (case lI_InvalidGraph => k_is)
    (case cI_InvalidGraph => k_is)
    (case kI_InvalidGraph => k_is)
    (case kC_InvalidGraph => k_is)
    (case eC_InvalidGraph => k_is)
    (case tC_InvalidGraph => k_is)
    (case hC_InvalidGraph => k_is)
    (case jC_InvalidGraph => k_is)
    (case sC_InvalidGraph => first | rfl | k_is)

